import PyProof.Rows.All
import Wide.All
import OpenK.AllK
import Wide.FinOn
import KE.KStateDown
import HandS.ForMost
import HandS.More
import HandS.WordsExc
import HandS.Defaults
import HandS.IsInst
import HandS.Sort
import HandS.SortInts
import HandS.Conv
import HandS.Evl
import HandS.HeadHook1
import HandS.HeadHook2
import KE.KExcSuper
import HandS.Exc
import HandS.ExcInit
import HandS.Nested
import HandS.TryOnly
import HandS.ExcOwn
import HandS.ExcIs
import HandS.HeadHook3
import KE.KUnpackStar
import HandS.Strs
import HandS.Proxy
import HandS.CallLocal
import HandS.Steps
import HandS.MakeKw
import HandS.Iter
import HandS.Comp
import HandS.DictComp
import HandS.Text
import HandS.StrMore
import HandS.FStr
import HandS.MakeKwOnly
import HandS.ExcField
import HandS.Zip
import HandS.Walk
import HandS.TryMany
import HandS.Dict
import HandS.Head0
import HandS.Head1
import HandS.Head2
import HandS.HeadEnd
import PySem.Challenge.RW_halfmeshes_k33_names
set_option Elab.async false
set_option linter.all false
set_option maxRecDepth 100000
set_option maxHeartbeats 0
/-! Mathematics of permutations of the numbers below N, their rounds. Own work of the verifier. -/
namespace Hm

/-- f maps the numbers below N to such, different ones to different ones -/
structure Pf (f : Nat → Nat) (N : Nat) : Prop where
  lt : ∀ x, x < N → f x < N
  inj : ∀ x y, x < N → y < N → f x = f y → x = y

def itr (f : Nat → Nat) : Nat → Nat → Nat
  | 0, x => x
  | k + 1, x => f (itr f k x)

theorem itr_succ' (f : Nat → Nat) (k x : Nat) : itr f (k + 1) x = itr f k (f x) := by
  induction k with
  | zero => rfl
  | succ k ih => show f (itr f (k + 1) x) = f (itr f k (f x)); rw [ih]
theorem itr_add (f : Nat → Nat) (a b x : Nat) : itr f (a + b) x = itr f a (itr f b x) := by
  induction a with
  | zero => rw [Nat.zero_add]; rfl
  | succ a ih => rw [Nat.succ_add]; show f (itr f (a + b) x) = f (itr f a (itr f b x)); rw [ih]
theorem itr_lt {f : Nat → Nat} {N : Nat} (P : Pf f N) {x : Nat} (h : x < N) (k : Nat) : itr f k x < N := by
  induction k with
  | zero => exact h
  | succ k ih => exact P.lt _ ih
theorem itr_inj {f : Nat → Nat} {N : Nat} (P : Pf f N) {x y : Nat} (hx : x < N) (hy : y < N) (k : Nat) (e : itr f k x = itr f k y) : x = y := by
  induction k with
  | zero => exact e
  | succ k ih => exact ih (P.inj _ _ (itr_lt P hx k) (itr_lt P hy k) e)

/-- a list without repetition of numbers below N is not longer than N -/
theorem nodup_le : ∀ (N : Nat) (l : List Nat), l.Nodup → (∀ x ∈ l, x < N) → l.length ≤ N
  | 0, l, _, h => by
    cases l with
    | nil => exact Nat.le_refl _
    | cons a r => exact absurd (h a (List.mem_cons_self ..)) (Nat.not_lt_zero _)
  | N + 1, l, hn, h => by
    have h1 := nodup_le N (l.erase N) (hn.erase N) (fun x hx => by
      have h2 := h x (List.mem_of_mem_erase hx)
      have h3 : x ≠ N := fun e => by
        subst e
        exact (hn.not_mem_erase) hx
      omega)
    have h4 : l.length ≤ (l.erase N).length + 1 := by
      rw [List.length_erase]
      split <;> omega
    omega

theorem itr_back {f : Nat → Nat} {N : Nat} (P : Pf f N) {x : Nat} (hx : x < N) {i j : Nat} (hij : i < j) (e : itr f i x = itr f j x) : itr f (j - i) x = x := by
  have h : j = i + (j - i) := by omega
  rw [h, itr_add] at e
  exact (itr_inj P hx (itr_lt P hx _) i e).symm

theorem ret_ex {f : Nat → Nat} {N : Nat} (P : Pf f N) {x : Nat} (hx : x < N) : ∃ k, k < N ∧ itr f (k + 1) x = x := by
  refine Classical.byContradiction fun hno => ?_
  have hno' : ∀ k, k < N → itr f (k + 1) x ≠ x := fun k hk e => hno ⟨k, hk, e⟩
  have hnd : ((List.range (N + 1)).map fun k => itr f k x).Nodup := by
    rw [List.nodup_iff_pairwise_ne, List.pairwise_map]
    refine List.Pairwise.imp_of_mem ?_ List.pairwise_lt_range
    intro a b ha hb hab e
    have hb' := List.mem_range.mp hb
    have e2 := itr_back P hx hab e
    have e3 : b - a = (b - a - 1) + 1 := by omega
    rw [e3] at e2
    exact hno' _ (by omega) e2
  have := nodup_le N _ hnd (fun y hy => by
    obtain ⟨k, _, rfl⟩ := List.mem_map.mp hy
    exact itr_lt P hx k)
  rw [List.length_map, List.length_range] at this
  omega

/-- the number of steps after which x is met again -/
def per (f : Nat → Nat) (N x : Nat) : Nat := ((List.range N).find? fun k => itr f (k + 1) x == x).getD 0 + 1
theorem per_pos (f : Nat → Nat) (N x : Nat) : 0 < per f N x := Nat.succ_pos _
theorem per_spec {f : Nat → Nat} {N : Nat} (P : Pf f N) {x : Nat} (hx : x < N) : itr f (per f N x) x = x ∧ per f N x ≤ N ∧ ∀ k, 0 < k → k < per f N x → itr f k x ≠ x := by
  unfold per
  cases e : (List.range N).find? (fun k => itr f (k + 1) x == x) with
  | none =>
    obtain ⟨k, hk, e2⟩ := ret_ex P hx
    have := List.find?_eq_none.mp e k (List.mem_range.mpr hk)
    rw [e2] at this
    exact absurd (beq_self_eq_true x) this
  | some k =>
    have h1 := List.find?_range_eq_some.mp e
    obtain ⟨h1, h2, h3⟩ := h1
    have h2 := List.mem_range.mp h2
    refine ⟨eq_of_beq h1, h2, fun j hj hjk e2 => ?_⟩
    have hjk : j < k + 1 := hjk
    have := h3 (j - 1) (by omega)
    rw [show j - 1 + 1 = j by omega, e2] at this
    simp at this

/-- the round of x: x, f x, .. -/
def rnd (f : Nat → Nat) (N x : Nat) : List Nat := (List.range (per f N x)).map fun k => itr f k x
theorem mem_rnd {f : Nat → Nat} {N : Nat} (P : Pf f N) {x : Nat} (hx : x < N) {y : Nat} : y ∈ rnd f N x ↔ ∃ k, itr f k x = y := by
  obtain ⟨s1, s2, s3⟩ := per_spec P hx
  constructor
  · intro h
    obtain ⟨k, _, e⟩ := List.mem_map.mp h
    exact ⟨k, e⟩
  · rintro ⟨k, rfl⟩
    have key : ∀ n k, k ≤ n → itr f k x ∈ rnd f N x := by
      intro n
      induction n with
      | zero =>
        intro k hk
        have : k = 0 := by omega
        subst this
        exact List.mem_map.mpr ⟨0, List.mem_range.mpr (per_pos _ _ _), rfl⟩
      | succ n ih =>
        intro k hk
        by_cases h : k < per f N x
        · exact List.mem_map.mpr ⟨k, List.mem_range.mpr h, rfl⟩
        · have e : itr f k x = itr f (k - per f N x) x := by
            have e2 : k = (k - per f N x) + per f N x := by omega
            rw [e2, itr_add, s1, ← e2]
          rw [e]
          have := per_pos f N x
          exact ih _ (by omega)
    exact key k k (Nat.le_refl _)
theorem rnd_lt {f : Nat → Nat} {N : Nat} (P : Pf f N) {x : Nat} (hx : x < N) {y : Nat} (h : y ∈ rnd f N x) : y < N := by
  obtain ⟨k, rfl⟩ := (mem_rnd P hx).mp h
  exact itr_lt P hx k
theorem rnd_symm {f : Nat → Nat} {N : Nat} (P : Pf f N) {x y : Nat} (hx : x < N) (h : y ∈ rnd f N x) : x ∈ rnd f N y := by
  have hy := rnd_lt P hx h
  obtain ⟨k, hk, rfl⟩ := List.mem_map.mp h
  have hk := List.mem_range.mp hk
  refine (mem_rnd P hy).mpr ⟨per f N x - k, ?_⟩
  rw [← itr_add, show per f N x - k + k = per f N x by omega]
  exact (per_spec P hx).1
theorem rnd_trans {f : Nat → Nat} {N : Nat} (P : Pf f N) {x y z : Nat} (hx : x < N) (h : y ∈ rnd f N x) (h2 : z ∈ rnd f N y) : z ∈ rnd f N x := by
  have hy := rnd_lt P hx h
  obtain ⟨k, rfl⟩ := (mem_rnd P hx).mp h
  obtain ⟨j, rfl⟩ := (mem_rnd P hy).mp h2
  exact (mem_rnd P hx).mpr ⟨j + k, itr_add f j k x⟩
theorem rnd_self {f : Nat → Nat} {N : Nat} (P : Pf f N) {x : Nat} (hx : x < N) : x ∈ rnd f N x := (mem_rnd P hx).mpr ⟨0, rfl⟩
theorem rnd_step {f : Nat → Nat} {N : Nat} (P : Pf f N) {x y : Nat} (hx : x < N) (h : y ∈ rnd f N x) : f y ∈ rnd f N x := by
  obtain ⟨k, rfl⟩ := (mem_rnd P hx).mp h
  exact (mem_rnd P hx).mpr ⟨k + 1, rfl⟩
theorem rnd_length (f : Nat → Nat) (N x : Nat) : (rnd f N x).length = per f N x := by
  unfold rnd; rw [List.length_map, List.length_range]
theorem rnd_take_nodup {f : Nat → Nat} {N : Nat} (P : Pf f N) {x : Nat} (hx : x < N) {k : Nat} (hk : k < per f N x) : itr f k x ∉ (List.range k).map fun j => itr f j x := by
  intro h
  obtain ⟨j, hj, e⟩ := List.mem_map.mp h
  have hj := List.mem_range.mp hj
  have e2 := itr_back P hx hj e
  exact (per_spec P hx).2.2 (k - j) (by omega) (by omega) e2
theorem rnd_nodup {f : Nat → Nat} {N : Nat} (P : Pf f N) {x : Nat} (hx : x < N) : (rnd f N x).Nodup := by
  unfold rnd
  rw [List.nodup_iff_pairwise_ne, List.pairwise_map]
  refine List.Pairwise.imp_of_mem ?_ List.pairwise_lt_range
  intro a b ha hb hab e
  have hb' := List.mem_range.mp hb
  have e2 := itr_back P hx hab e
  exact (per_spec P hx).2.2 (b - a) (by omega) (by omega) e2

/-- x is the least of its round -/
def isMin (f : Nat → Nat) (N x : Nat) : Bool := (rnd f N x).all fun y => decide (x ≤ y)
theorem isMin_iff {f : Nat → Nat} {N x : Nat} : isMin f N x = true ↔ ∀ y ∈ rnd f N x, x ≤ y := by
  unfold isMin
  rw [List.all_eq_true]
  exact ⟨fun h y hy => of_decide_eq_true (h y hy), fun h y hy => decide_eq_true (h y hy)⟩
/-- all rounds, by their least members, of the numbers below n -/
def cycs (f : Nat → Nat) (N n : Nat) : List (List Nat) := ((List.range n).filter (isMin f N)).map (rnd f N)
theorem cycs_yes {f : Nat → Nat} {N n : Nat} (h : isMin f N n = true) : cycs f N (n + 1) = cycs f N n ++ [rnd f N n] := by
  unfold cycs
  rw [List.range_succ, List.filter_append, List.map_append, List.filter_cons, if_pos h]
  rfl
theorem cycs_no {f : Nat → Nat} {N n : Nat} (h : ¬ isMin f N n = true) : cycs f N (n + 1) = cycs f N n := by
  unfold cycs
  rw [List.range_succ, List.filter_append, List.map_append, List.filter_cons, if_neg h]
  show _ ++ [] = _
  rw [List.append_nil]
theorem cycs_len (f : Nat → Nat) (N n : Nat) : (cycs f N n).length ≤ n := by
  unfold cycs
  rw [List.length_map]
  have := List.length_filter_le (isMin f N) (List.range n)
  rw [List.length_range] at this
  exact this
/-- y lies in the round of a number below n -/
def Sn (f : Nat → Nat) (N n y : Nat) : Prop := ∃ s, s < n ∧ s < N ∧ y ∈ rnd f N s
theorem sn_iff_notMin {f : Nat → Nat} {N : Nat} (P : Pf f N) {n : Nat} (hn : n < N) : Sn f N n n ↔ ¬ isMin f N n = true := by
  constructor
  · rintro ⟨s, h1, h2, h3⟩ h
    have := isMin_iff.mp h s (rnd_symm P h2 h3)
    omega
  · intro h
    rw [isMin_iff] at h
    refine Classical.byContradiction fun hno => h fun y hy => ?_
    refine Nat.le_of_not_lt fun hlt => hno ⟨y, hlt, rnd_lt P hn hy, rnd_symm P hn hy⟩
theorem sn_back {f : Nat → Nat} {N : Nat} (P : Pf f N) {n y : Nat} (hy : y < N) (h : Sn f N n (f y)) : Sn f N n y := by
  obtain ⟨s, h1, h2, h3⟩ := h
  refine ⟨s, h1, h2, rnd_trans P h2 h3 (rnd_symm P hy ?_)⟩
  exact (mem_rnd P hy).mpr ⟨1, rfl⟩
theorem sn_itr {f : Nat → Nat} {N : Nat} (P : Pf f N) {n x : Nat} (hx : x < N) (h : ¬ Sn f N n x) (k : Nat) : ¬ Sn f N n (itr f k x) := by
  induction k with
  | zero => exact h
  | succ k ih => exact fun q => ih (sn_back P (itr_lt P hx k) q)
theorem sn_succ {f : Nat → Nat} {N n y : Nat} (hn : n < N) : Sn f N (n + 1) y ↔ Sn f N n y ∨ y ∈ rnd f N n := by
  constructor
  · rintro ⟨s, h1, h2, h3⟩
    by_cases e : s = n
    · subst e; exact .inr h3
    · exact .inl ⟨s, by omega, h2, h3⟩
  · rintro (⟨s, h1, h2, h3⟩ | h)
    · exact ⟨s, by omega, h2, h3⟩
    · exact ⟨n, by omega, hn, h⟩

/-! ### lists as maps -/
/-- a list of the numbers below its length, each once -/
structure IsP (ns : List Nat) : Prop where
  perm : ns.Perm (List.range ns.length)
theorem IsP.nodup {ns : List Nat} (h : IsP ns) : ns.Nodup := h.perm.symm.nodup List.nodup_range
theorem IsP.mem {ns : List Nat} (h : IsP ns) {x : Nat} : x ∈ ns ↔ x < ns.length := by
  rw [h.perm.mem_iff, List.mem_range]
def fn (ns : List Nat) (x : Nat) : Nat := ns.getD x 0
theorem fn_get {ns : List Nat} {x : Nat} (h : x < ns.length) : ns[x]? = some (fn ns x) := by
  unfold fn
  rw [List.getD_eq_getElem?_getD, List.getElem?_eq_getElem h]
  rfl
theorem fn_at {ns : List Nat} {x y : Nat} (h : ns[x]? = some y) : fn ns x = y := by
  unfold fn
  rw [List.getD_eq_getElem?_getD, h]
  rfl
theorem fn_mem {ns : List Nat} {x : Nat} (h : x < ns.length) : fn ns x ∈ ns := List.mem_of_getElem? (fn_get h)
theorem pf_fn {ns : List Nat} (h : IsP ns) : Pf (fn ns) ns.length where
  lt := fun x hx => h.mem.mp (fn_mem hx)
  inj := fun x y hx hy e => by
    have h1 := fn_get hx
    have h2 := fn_get hy
    rw [e] at h1
    have hn := h.nodup
    obtain ⟨a1, b1⟩ := List.getElem?_eq_some_iff.mp h1
    obtain ⟨a2, b2⟩ := List.getElem?_eq_some_iff.mp h2
    exact (List.getElem_inj hn).mp (b1.trans b2.symm)
/-- the number whose next is x -/
def bk (ns : List Nat) (x : Nat) : Nat := ns.idxOf x
theorem bk_lt {ns : List Nat} (h : IsP ns) {x : Nat} (hx : x < ns.length) : bk ns x < ns.length := List.idxOf_lt_length_iff.mpr (h.mem.mpr hx)
theorem fn_bk {ns : List Nat} (h : IsP ns) {x : Nat} (hx : x < ns.length) : fn ns (bk ns x) = x := by
  have h1 := fn_get (bk_lt h hx)
  have h2 : ns[bk ns x]'(bk_lt h hx) = x := List.getElem_idxOf (bk_lt h hx)
  rw [List.getElem?_eq_getElem (bk_lt h hx), h2] at h1
  exact (Option.some.inj h1).symm
theorem bk_fn {ns : List Nat} (h : IsP ns) {x : Nat} (hx : x < ns.length) : bk ns (fn ns x) = x :=
  (pf_fn h).inj _ _ (bk_lt h ((pf_fn h).lt x hx)) hx (fn_bk h ((pf_fn h).lt x hx))
def tw (x : Nat) : Nat := if x % 2 = 0 then x + 1 else x - 1
theorem tw_tw (x : Nat) : tw (tw x) = x := by unfold tw; split <;> split <;> omega
theorem tw_lt {x N : Nat} (hN : N % 2 = 0) (h : x < N) : tw x < N := by unfold tw; split <;> omega
theorem tw_inj {x y : Nat} (h : tw x = tw y) : x = y := by rw [← tw_tw x, h, tw_tw]
def prevs (ns : List Nat) : List Nat := (List.range ns.length).map (bk ns)
def turns (ns : List Nat) : List Nat := (prevs ns).map tw
theorem prevs_len (ns : List Nat) : (prevs ns).length = ns.length := by unfold prevs; rw [List.length_map, List.length_range]
theorem turns_len (ns : List Nat) : (turns ns).length = ns.length := by unfold turns; rw [List.length_map, prevs_len]
theorem fn_prevs {ns : List Nat} {x : Nat} (h : x < ns.length) : fn (prevs ns) x = bk ns x := by
  apply fn_at
  unfold prevs
  rw [List.getElem?_map, List.getElem?_range h]
  rfl
theorem fn_turns {ns : List Nat} {x : Nat} (h : x < ns.length) : fn (turns ns) x = tw (bk ns x) := by
  apply fn_at
  unfold turns
  rw [List.getElem?_map, fn_get (by rw [prevs_len]; exact h), fn_prevs h]
  rfl
/-- from a map to its list -/
theorem isP_of {f : Nat → Nat} {N : Nat} (P : Pf f N) : IsP ((List.range N).map f) where
  perm := by
    rw [List.length_map, List.length_range]
    have hnd : ((List.range N).map f).Nodup := by
      rw [List.nodup_iff_pairwise_ne, List.pairwise_map]
      refine List.Pairwise.imp_of_mem ?_ List.pairwise_lt_range
      intro a b ha hb hab e
      have := P.inj _ _ (List.mem_range.mp ha) (List.mem_range.mp hb) e
      omega
    refine (List.perm_ext_iff_of_nodup hnd List.nodup_range).mpr fun x => ?_
    constructor
    · intro h
      obtain ⟨y, hy, rfl⟩ := List.mem_map.mp h
      exact List.mem_range.mpr (P.lt _ (List.mem_range.mp hy))
    · intro h
      have hx := List.mem_range.mp h
      have P' := P
      refine List.mem_map.mpr ⟨itr f (per f N x - 1) x, List.mem_range.mpr (itr_lt P hx _), ?_⟩
      have e := (per_spec P hx).1
      have hp := per_pos f N x
      rw [show per f N x = (per f N x - 1) + 1 by omega] at e
      exact e
theorem isP_prevs {ns : List Nat} (h : IsP ns) : IsP (prevs ns) := isP_of ⟨fun x hx => bk_lt h hx, fun x y hx hy e => by
  rw [← fn_bk h hx, e, fn_bk h hy]⟩
theorem pf_turn {ns : List Nat} (h : IsP ns) (hN : ns.length % 2 = 0) : Pf (fun x => tw (bk ns x)) ns.length where
  lt := fun x hx => tw_lt hN (bk_lt h hx)
  inj := fun x y hx hy e => by
    have e := tw_inj e
    rw [← fn_bk h hx, e, fn_bk h hy]
theorem isP_turns {ns : List Nat} (h : IsP ns) (hN : ns.length % 2 = 0) : IsP (turns ns) := by
  have e : turns ns = (List.range ns.length).map (fun x => tw (bk ns x)) := by
    unfold turns prevs
    rw [List.map_map]
    rfl
  rw [e]
  exact isP_of (pf_turn h hN)
end Hm
namespace Hm
open PySem PySem.Spec PyProof.Rows L2 Evl
/-! ### short names of what operators ask -/
abbrev iI (g : Int → Int → Int) : R2 := rI0 fun i j => .int (g i j)
abbrev iB (g : Int → Int → Bool) : R2 := rI0 fun i j => .bl (g i j)
abbrev zAdd : R2 := iI fun i j => i + j
abbrev zSub : R2 := iI fun i j => i - j
abbrev zMul : R2 := rI CMul fun i j => .int (i * j)
abbrev zDiv : R2 := rI CDivN fun i j => .int (i.fdiv j)
abbrev zMod : R2 := rI (fun _ j => j ≠ 0) fun i j => .int (i.fmod j)
abbrev zPow : R2 := rI CPow fun i j => .int (i ^ j.toNat)
abbrev zXor : R2 := iI fun i j => Builtin.bitXor i j
abbrev zLt : R2 := iB fun i j => decide (i < j)
abbrev zLe : R2 := iB fun i j => decide (i ≤ j)
abbrev zGt : R2 := iB fun i j => decide (j < i)
abbrev zGe : R2 := iB fun i j => decide (j ≤ i)
abbrev zNeg : V → Hp → VK → Prop := rU fun i => .int (-i)
abbrev CR1 := List V → Hp → VK → Prop
abbrev cInt : CR1 := fun vs H K => (∃ i : Int, vs = [V.int i] ∧ K (V.int i) H) ∨ (∃ b : Bool, vs = [V.bl b] ∧ K (V.int (if b then 1 else 0)) H)
abbrev cAbs : CR1 := fun vs H K => ∃ i : Int, vs = [V.int i] ∧ K (V.int (if i < 0 then -i else i)) H
abbrev cLen (F : PySem.W.Frag) : CR1 := fun vs H K => ∃ (p : Addr) (ys : List V), vs = [V.ref p] ∧ (SqL F H p ys ∨ SqT F H p ys) ∧ K (V.int ys.length) H
abbrev cList (F : PySem.W.Frag) : CR1 := fun vs H K => ∃ (p : Addr) (ys : List V), vs = [V.ref p] ∧ (SqL F H p ys ∨ SqT F H p ys) ∧ ∀ l, H l = none → K (V.ref l) (upd H l (.lst ys))
/-- what the written part says of the class Mesh -/
structure KF (K : PySem.W.Frag) : Prop where
  cl : Cls K (He.ga K "Mesh")
  n1 : NoAttr K (He.ga K "Mesh") "_nexts"
  n2 : NoAttr K (He.ga K "Mesh") "_prevs"
  n3 : NoAttr K (He.ga K "Mesh") "_turns"
end Hm
namespace Hm
open PySem PySem.Spec PyProof.Rows L2 Evl
/-! ### lists of numbers as values and as data -/
abbrev vi (n : Nat) : V := .int (n : Int)
def L (ns : List Nat) : List V := ns.map vi
theorem L_len (ns : List Nat) : (L ns).length = ns.length := by unfold L; rw [List.length_map]
theorem L_get {ns : List Nat} {i : Nat} (h : i < ns.length) : (L ns)[i]? = some (vi (fn ns i)) := by
  unfold L
  rw [List.getElem?_map, fn_get h]
  rfl
theorem L_at {ns : List Nat} {i : Nat} (h : i < ns.length) : atI (L ns) ((i : Nat) : Int) = some (vi (fn ns i)) := atI_nat (L_get h)
theorem L_app (a b : List Nat) : L (a ++ b) = L a ++ L b := by unfold L; rw [List.map_append]
theorem L_int (ns : List Nat) : L ns = (ns.map fun n : Nat => (n : Int)).map V.int := by unfold L; rw [List.map_map]; rfl
theorem L_item {ns : List Nat} {i : Nat} {v : V} (h : (L ns)[i]? = some v) : i < ns.length ∧ v = vi (fn ns i) := by
  have h1 : i < ns.length := by
    have := (List.getElem?_eq_some_iff.mp h).1
    rwa [L_len] at this
  rw [L_get h1] at h
  exact ⟨h1, (Option.some.inj h).symm⟩
def dN (ns : List Nat) : PyData := .list (ns.map fun n : Nat => PyData.int (n : Int))
def dNN (xss : List (List Nat)) : PyData := .list (xss.map dN)
theorem dpAll_L {K : PySem.W.Frag} {H : Hp} : ∀ ns : List Nat, DpAll K H (L ns) (ns.map fun n : Nat => PyData.int (n : Int))
  | [] => .nil
  | n :: r => .cons (.int _) (dpAll_L r)
theorem dp_L {K : PySem.W.Frag} {H : Hp} {p : Addr} {ns : List Nat} (h : SqL K H p (L ns)) : Dp K H (.ref p) (dN ns) := Dp.lst h (dpAll_L ns)
theorem lay_ints : ∀ ns : List Nat, PyData.canLayAll0 (ns.map fun n : Nat => PyData.int (n : Int)) = true ∧ PyData.depthAll (ns.map fun n : Nat => PyData.int (n : Int)) = 0
  | [] => ⟨by simp [PyData.canLayAll0], by simp [PyData.depthAll]⟩
  | n :: r => by
    obtain ⟨h1, h2⟩ := lay_ints r
    exact ⟨by simp [PyData.canLayAll0, PyData.canLay0, h1], by simp [PyData.depthAll, PyData.depth, h2]⟩
theorem lay_dN (ns : List Nat) : PyData.canLay0 (dN ns) = true ∧ PyData.depth (dN ns) = 1 := by
  obtain ⟨h1, h2⟩ := lay_ints ns
  unfold dN
  exact ⟨by simp [PyData.canLay0, h1], by simp [PyData.depth, h2]⟩
theorem lay_dNs : ∀ xss : List (List Nat), PyData.canLayAll0 (xss.map dN) = true ∧ PyData.depthAll (xss.map dN) ≤ 1
  | [] => ⟨by simp [PyData.canLayAll0], by simp [PyData.depthAll]⟩
  | n :: r => by
    obtain ⟨h1, h2⟩ := lay_dNs r
    obtain ⟨h3, h4⟩ := lay_dN n
    exact ⟨by simp [PyData.canLayAll0, h1, h3], by simp [PyData.depthAll, h4]; omega⟩
theorem shaped_dN (ns : List Nat) : SeqAt.shaped (dN ns) = true := by
  obtain ⟨h3, h4⟩ := lay_dN ns
  unfold SeqAt.shaped
  rw [h3, h4]
  rfl
theorem shaped_dNN (xss : List (List Nat)) : SeqAt.shaped (dNN xss) = true := by
  obtain ⟨h3, h4⟩ := lay_dNs xss
  unfold SeqAt.shaped dNN
  have e1 : PyData.canLay0 (.list (xss.map dN)) = true := by simp [PyData.canLay0, h3]
  have e2 : PyData.depth (.list (xss.map dN)) ≤ 64 := by simp [PyData.depth]; omega
  rw [e1, decide_eq_true e2]
  rfl
theorem eqv_ints : ∀ ns ms : List Nat, PyData.eqvAll (ns.map fun n : Nat => PyData.int (n : Int)) (ms.map fun n : Nat => PyData.int (n : Int)) = decide (ns = ms)
  | [], [] => by simp [PyData.eqvAll]
  | [], _ :: _ => by simp [PyData.eqvAll]
  | _ :: _, [] => by simp [PyData.eqvAll]
  | n :: r, m :: s => by
    have h := eqv_ints r s
    simp only [List.map_cons, PyData.eqvAll, PyData.eqv, h]
    by_cases e : n = m
    · subst e
      simp
    · have e2 : ((n : Int) == (m : Int)) = false := by
        rw [beq_eq_false_iff_ne]
        omega
      rw [e2]
      simp [e]
theorem eqv_dN (ns ms : List Nat) : PyData.eqv (dN ns) (dN ms) = decide (ns = ms) := by
  unfold dN
  simp only [PyData.eqv]
  exact eqv_ints ns ms
theorem eqv_dNs : ∀ xss yss : List (List Nat), PyData.eqvAll (xss.map dN) (yss.map dN) = decide (xss = yss)
  | [], [] => by simp [PyData.eqvAll]
  | [], _ :: _ => by simp [PyData.eqvAll]
  | _ :: _, [] => by simp [PyData.eqvAll]
  | n :: r, m :: s => by
    have h := eqv_dNs r s
    simp only [List.map_cons, PyData.eqvAll, eqv_dN, h]
    by_cases e : n = m <;> simp [e]
theorem eqv_dNN (xss yss : List (List Nat)) : PyData.eqv (dNN xss) (dNN yss) = decide (xss = yss) := by
  unfold dNN
  simp only [PyData.eqv]
  exact eqv_dNs xss yss
/-! ### new lists of lists -/
theorem paired_imp {α β : Type} {R R' : α → β → Prop} : ∀ {as : List α} {xs : List β}, Paired R as xs → (∀ a x, a ∈ as → R a x → R' a x) → Paired R' as xs
  | _, _, .nil, _ => .nil
  | _, _, .cons r t, f => .cons (f _ _ (List.mem_cons_self ..) r) (paired_imp t fun a x m => f a x (List.mem_cons_of_mem _ m))
theorem paired_snoc {α β : Type} {R : α → β → Prop} : ∀ {as : List α} {xs : List β} {a : α} {x : β}, Paired R as xs → R a x → Paired R (as ++ [a]) (xs ++ [x])
  | _, _, _, _, .nil, h => .cons h .nil
  | _, _, _, _, .cons r t, h => .cons r (paired_snoc t h)
abbrev LA (H : Hp) (as : List Addr) (xss : List (List Nat)) : Prop := Paired (fun a xs => H a = some (.lst (L xs))) as xss
def LL (H : Hp) (p : Addr) (xss : List (List Nat)) : Prop := ∃ as : List Addr, H p = some (.lst (as.map V.ref)) ∧ LA H as xss
def LLn (H0 H : Hp) (p : Addr) (xss : List (List Nat)) : Prop := ∃ as : List Addr, H p = some (.lst (as.map V.ref)) ∧ LA H as xss ∧ ∀ a ∈ as, H0 a = none ∧ a ≠ p
theorem LLn.ll {H0 H : Hp} {p : Addr} {xss : List (List Nat)} (h : LLn H0 H p xss) : LL H p xss := by
  obtain ⟨as, h1, h2, _⟩ := h
  exact ⟨as, h1, h2⟩
theorem LA.ex {H H' : Hp} {as : List Addr} {xss : List (List Nat)} (h : LA H as xss) (e : Ex H H') : LA H' as xss := paired_imp h fun a x _ q => e a _ q
theorem LA.upd {H : Hp} {as : List Addr} {xss : List (List Nat)} {p : Addr} {o : HO} (h : LA H as xss) (e : ∀ a ∈ as, a ≠ p) : LA (upd H p o) as xss := paired_imp h fun a x m q => by
  rw [upd_ne (e a m)]
  exact q
theorem LL.ex {H H' : Hp} {p : Addr} {xss : List (List Nat)} (h : LL H p xss) (e : Ex H H') : LL H' p xss := by
  obtain ⟨as, h1, h2⟩ := h
  exact ⟨as, e _ _ h1, LA.ex h2 e⟩
theorem dpAll_LA {K : PySem.W.Frag} {H : Hp} : ∀ {as : List Addr} {xss : List (List Nat)}, LA H as xss → DpAll K H (as.map V.ref) (xss.map dN)
  | _, _, .nil => .nil
  | _, _, .cons r t => .cons (dp_L (sq_of r)) (dpAll_LA t)
theorem dp_LL {K : PySem.W.Frag} {H : Hp} {p : Addr} {xss : List (List Nat)} (h : LL H p xss) : Dp K H (.ref p) (dNN xss) := by
  obtain ⟨as, h1, h2⟩ := h
  exact Dp.lst (sq_of h1) (dpAll_LA h2)
theorem LA.fresh {H : Hp} {as : List Addr} {xss : List (List Nat)} {p : Addr} (h : LA H as xss) (hp : H p = none) : ∀ a ∈ as, a ≠ p := by
  intro a ha
  have key : ∀ {as : List Addr} {xss : List (List Nat)}, LA H as xss → ∀ a ∈ as, ∃ xs, H a = some (.lst (L xs)) := by
    intro as xss h
    induction h with
    | nil => intro a ha; cases ha
    | cons r t ih =>
      intro a ha
      rcases List.mem_cons.mp ha with rfl | ha
      · exact ⟨_, r⟩
      · exact ih a ha
  obtain ⟨xs, q⟩ := key h a ha
  exact ne_of_none q hp
/-! ### further evaluations -/
section
variable {K : PySem.W.Frag} {σ : L2.St} {H H' : Hp} {ta tb te tx : TE} {t u : TT} {x y z v : V} {r : R2}
theorem et_yes : EvT tYes σ H true := fun H1 _ _ q => q H1 (Ex.refl H1)
theorem ev_cbN {r : CR1} {xs : List V} (h : EvL te σ H xs) (hr : ∀ p H1, H1 p = some (.lst xs) → Ex H H1 → RC r [.ref p] H1 z) : Ev (tCB r (tCons te tNil)) σ H z := fun H1 e Q q =>
  h H1 e _ fun p H2 _ e2 hp => hr p H2 hp (e.trans e2) H2 (Ex.refl H2) Q fun H3 e3 => q H3 (e2.trans e3)
theorem rc_isi {b : Bool} {x c : V} {t u : Value} (hc : ClsV c u) (ht : ∀ H1, Ex H H1 → TyX K H1 x t) (hk : PySem.W.kitOne K t u = some b) : RC (rIsi K) [x, c] H (.bl b) := fun H1 e Q q =>
  ⟨x, c, t, u, b, rfl, hc, ht H1 e, hk, q H1 (Ex.refl H1)⟩
theorem rc_int {i : Int} : RC cInt [.int i] H (.int i) := fun H1 _ _ q => Or.inl ⟨i, rfl, q H1 (Ex.refl H1)⟩
theorem rc_abs {i : Int} : RC cAbs [.int i] H (.int (if i < 0 then -i else i)) := fun H1 _ _ q => ⟨i, rfl, q H1 (Ex.refl H1)⟩
theorem rc_len {p : Addr} {xs : List V} (h : SqL K H p xs) : RC (cLen K) [.ref p] H (.int (xs.length : Int)) := fun H1 e _ q => ⟨p, xs, rfl, Or.inl (ex_l e h), q H1 (Ex.refl H1)⟩
theorem rcl_list {p : Addr} {xs : List V} (h : SqL K H p xs) : RCL (cList K) [.ref p] H xs := fun H1 e _ q => ⟨p, xs, rfl, Or.inl (ex_l e h), fun l hl => q l _ hl (Ex.new hl) upd_same⟩
theorem rc_all {p : Addr} {bs : List Bool} (h : SqL K H p (bs.map V.bl)) : RC (rAll K) [.ref p] H (.bl (bs.all id)) := fun H1 e _ q => ⟨p, bs, rfl, ex_l e h, q H1 (Ex.refl H1)⟩
theorem rc_min {p : Addr} {ns : List Int} {m : Int} (h : SqL K H p (ns.map V.int)) (hn : 0 < ns.length) (hm : ∀ m', m' ∈ ns → (∀ y, y ∈ ns → m' ≤ y) → m' = m) : RC (rMin K) [.ref p] H (.int m) := fun H1 e _ q => ⟨p, ns, rfl, ex_l e h, hn, fun m' a b => by
  rw [hm m' a b]
  exact q H1 (Ex.refl H1)⟩
theorem ea_1 (h : Ev ta σ H x) : EvA (tCons ta tNil) σ H [x] := ea_cons h ea_nil
theorem ea_2 (h : Ev ta σ H x) (h2 : Ev tb σ H y) : EvA (tCons ta (tCons tb tNil)) σ H [x, y] := ea_cons h (ea_cons h2 ea_nil)
theorem rv_eqD {d e : PyData} (hx : Dp K H x d) (hy : Dp K H y e) (h1 : SeqAt.shaped d = true) (h2 : SeqAt.shaped e = true) (mx : ∀ H1, Ex H H1 → Dp K H x d → Dp K H1 x d) (my : ∀ H1, Ex H H1 → Dp K H y e → Dp K H1 y e) : RV (rEqD K) x y H (.bl (PyData.eqv d e)) := fun H1 ex _ q =>
  ⟨d, e, mx H1 ex hx, my H1 ex hy, h1, h2, q H1 (Ex.refl H1)⟩
mutual
theorem dp_ex {H H1 : Hp} (e : Ex H H1) : ∀ {v : V} {d : PyData}, Dp K H v d → Dp K H1 v d
  | _, _, .non => .non
  | _, _, .bl b => .bl b
  | _, _, .int i => .int i
  | _, _, .str x => .str x
  | _, _, .lst h a => .lst (ex_l e h) (dpAll_ex e a)
  | _, _, .tup h a => .tup (ex_t e h) (dpAll_ex e a)
theorem dpAll_ex {H H1 : Hp} (e : Ex H H1) : ∀ {v : List V} {d : List PyData}, DpAll K H v d → DpAll K H1 v d
  | _, _, .nil => .nil
  | _, _, .cons h a => .cons (dp_ex e h) (dpAll_ex e a)
end
theorem rv_eqD' {d e : PyData} (hx : Dp K H x d) (hy : Dp K H y e) (h1 : SeqAt.shaped d = true) (h2 : SeqAt.shaped e = true) : RV (rEqD K) x y H (.bl (PyData.eqv d e)) := fun H1 ex _ q =>
  ⟨d, e, dp_ex ex hx, dp_ex ex hy, h1, h2, q H1 (Ex.refl H1)⟩
theorem rv_neD' {d e : PyData} (hx : Dp K H x d) (hy : Dp K H y e) (h1 : SeqAt.shaped d = true) (h2 : SeqAt.shaped e = true) : RV (rNeD K) x y H (.bl (!PyData.eqv d e)) := fun H1 ex _ q =>
  ⟨d, e, dp_ex ex hx, dp_ex ex hy, h1, h2, q H1 (Ex.refl H1)⟩
theorem rv_eqN {a b : Addr} {ns ms : List Nat} (h1 : SqL K H a (L ns)) (h2 : SqL K H b (L ms)) : RV (rEqD K) (.ref a) (.ref b) H (.bl (decide (ns = ms))) := by
  rw [← eqv_dN]
  exact rv_eqD' (dp_L h1) (dp_L h2) (shaped_dN _) (shaped_dN _)
theorem rv_neN {a b : Addr} {ns ms : List Nat} (h1 : SqL K H a (L ns)) (h2 : SqL K H b (L ms)) : RV (rNeD K) (.ref a) (.ref b) H (.bl (!decide (ns = ms))) := by
  rw [← eqv_dN]
  exact rv_neD' (dp_L h1) (dp_L h2) (shaped_dN _) (shaped_dN _)
theorem rv_eqNN {a b : Addr} {ns ms : List (List Nat)} (h1 : LL H a ns) (h2 : LL H b ms) : RV (rEqD K) (.ref a) (.ref b) H (.bl (decide (ns = ms))) := by
  rw [← eqv_dNN]
  exact rv_eqD' (dp_LL h1) (dp_LL h2) (shaped_dNN _) (shaped_dNN _)
theorem rv_neNN {a b : Addr} {ns ms : List (List Nat)} (h1 : LL H a ns) (h2 : LL H b ms) : RV (rNeD K) (.ref a) (.ref b) H (.bl (!decide (ns = ms))) := by
  rw [← eqv_dNN]
  exact rv_neD' (dp_LL h1) (dp_LL h2) (shaped_dNN _) (shaped_dNN _)
theorem ev_fld {a C dx : Addr} {fs : List (Str × V)} {f : Str} (h : Ev ta σ H (.ref a)) (ho : H a = some (.ins C dx fs)) (hc : Cls K C) (hn : NoAttr K C f) (hl : fs.lookup f = some v) : Ev (tFld K ta f) σ H v := fun H1 e Q q =>
  h H1 e _ fun H2 e2 => ⟨a, C, dx, fs, v, rfl, e2 _ _ (e _ _ ho), hc, hn, hl, q H2 e2⟩
/-- a call of a method that gives a value, a new list -/
theorem ev_meth {a C dx : Addr} {fs : List (Str × V)} {m : Str} {sp : Sp} {ta : TE} {tb : TA} {vs : List V} {E : XK} (h : Ev ta σ H (.ref a)) (ho : H a = some (.ins C dx fs)) (hl : fs.lookup m = none) (ha : EvA tb σ H vs) (hs : SpV sp (.ref a :: vs) H v) : Ev (tMeth C m sp [] E ta tb) σ H v := fun H1 e Q q =>
  h H1 e _ fun H2 e2 => ⟨a, dx, fs, rfl, e2 _ _ (e _ _ ho), hl, ha H2 (e.trans e2) _ fun H3 e3 => by
    have e4 := (e.trans e2).trans e3
    have q2 := hs H3 e4 Q (fun H4 e5 => q H4 ((e2.trans e3).trans e5)) E
    simpa using q2⟩
theorem el_meth {a C dx : Addr} {fs : List (Str × V)} {m : Str} {sp : Sp} {ta : TE} {tb : TA} {vs xs : List V} {E : XK} (h : Ev ta σ H (.ref a)) (ho : H a = some (.ins C dx fs)) (hl : fs.lookup m = none) (ha : EvA tb σ H vs) (hs : SpL sp (.ref a :: vs) H xs) : EvL (tMeth C m sp [] E ta tb) σ H xs := fun H1 e Q q =>
  h H1 e _ fun H2 e2 => ⟨a, dx, fs, rfl, e2 _ _ (e _ _ ho), hl, ha H2 (e.trans e2) _ fun H3 e3 => by
    have e4 := (e.trans e2).trans e3
    have q2 := hs H3 e4 Q (fun p H4 hp e5 h5 => q p H4 (fresh_back (e2.trans e3) hp) ((e2.trans e3).trans e5) h5) E
    simpa using q2⟩
end
/-- all but the object at t is kept -/
def ExO (t : Addr) (H H' : Hp) : Prop := ∀ a o, a ≠ t → H a = some o → H' a = some o
theorem ExO.of {t : Addr} {H H' : Hp} (e : Ex H H') : ExO t H H' := fun a o _ h => e a o h
theorem ExO.refl {t : Addr} {H : Hp} : ExO t H H := fun _ _ _ h => h
theorem ExO.trans {t : Addr} {H H1 H2 : Hp} (a : ExO t H H1) (b : ExO t H1 H2) : ExO t H H2 := fun x o n h => b x o n (a x o n h)
theorem ExO.upd {t : Addr} {H H' : Hp} {o : HO} (a : ExO t H H') : ExO t H (upd H' t o) := fun x o n h => by
  rw [upd_ne n]
  exact a x o n h
theorem ExO.mut {t p : Addr} {H H' : Hp} {o : HO} (a : ExO t H H') (h : H p = none) : ExO t H (L2.upd H' p o) := fun x u n hx => by
  rw [upd_ne (ne_of_none hx h)]
  exact a x u n hx
theorem ExO.mono {t : Addr} {H H' : Hp} (a : ExO t H H') (h : H t = none) : Ex H H' := fun x o hx => a x o (ne_of_none hx h) hx
theorem ExO.sq {K : PySem.W.Frag} {t : Addr} {H H' : Hp} {p : Addr} {xs : List V} (e : ExO t H H') (n : p ≠ t) (h : SqL K H p xs) : SqL K H' p xs := by
  rcases h with h | h
  · rcases h with h | ⟨o, h⟩
    · exact Or.inl (Or.inl (e p _ n h))
    · exact Or.inl (Or.inr ⟨o, e p _ n h⟩)
  · exact Or.inr h
/-- a tape: two numbers, the second one below 2147483647 -/
def Tp (o : Option HO) : Prop := ∃ x y : Int, o = some (.lst [.int x, .int y]) ∧ 0 ≤ x ∧ 0 ≤ y ∧ y < 2147483647
end Hm
namespace Hm
open PySem PySem.Spec PyProof.Rows L2 Evl
/-! ### own ==, len, in -/
section
variable {X : Cx} {CX : CXT} {n : Nat} {C f : Addr} {fd : FuncData} {ps : List Str} {sp : Sp} {E : XK}
/-- a def of the written part, called somewhere below the running body -/
theorem own_run {A : Around} {pins : List (Addr × Obj)} {σ : L2.St} {H : Hp} {s : Shared} {Q : VK} {us : List Value} {vs : List V} (F : FnOk X.prog X.w X.K X.mg X.base CX n f fd ps sp) (hr : Room n A) (hfr : A.frames = X.A.frames)
    (hb : Binds X.K fd ps []) (hx : Passes CX X E) (I : Inv X pins σ H s) (r : Vals vs us) (h : sp vs H Q E) : wpAny (model X.prog X.w) A (call (.ref f) us) (EP X pins σ Q) X.xe s := by
  have e0 : Env0 X.prog X.w X.K X.mg X.base A X.stack s H := by
    have e := I.env0
    exact ⟨by rw [hfr]; exact e.frames, e.mod, e.bs, e.bsz, e.funs, e.frf, e.hok, e.bare⟩
  have hl := F.len _ _ _ _ h
  have hb2 : BindsTo s fd ⟨us, []⟩ (ps.zip us) := by
    have q := hb s us I.kIn (by rw [List.append_nil, ← r.length]; exact hl)
    rw [List.append_nil] at q
    exact q
  refine wpAny_call (codeAny_mono (F.run A X.stack s H ⟨us, []⟩ us vs Q E hr e0 hb2 r h) fun r s' hq => ?_)
  cases r with
  | error e => exact hx pins σ H s e s' I hq
  | ok fl =>
    cases fl with
    | ret w => exact I.after hq
    | next => exact False.elim hq
    | brk => exact False.elim hq
    | cont => exact False.elim hq
/-- what stands on the right of an own == -/
inductive Rgt (K : PySem.W.Frag) (C : Addr) (H : Hp) : V → Prop where
  | ins {b dx : Addr} {fs : List (Str × V)} (e : H b = some (.ins C dx fs)) : Rgt K C H (.ref b)
  | lst {b : Addr} {xs : List V} (e : H b = some (.lst xs)) (h : PySem.W.subIn K (.type "list") (.ref C) = some false) : Rgt K C H (.ref b)
  | int (i : Int) (h : PySem.W.subIn K (.type "int") (.ref C) = some false) : Rgt K C H (.int i)
theorem rgt_ok {pins : List (Addr × Obj)} {σ : L2.St} {H : Hp} {s : Shared} {y : V} {u : Value} (I : Inv X pins σ H s) (r : RelV y u) (h : Rgt X.K C H y) : ∃ tb, PySem.W.Looks (model X.prog X.w) s.heap (typeOf u) tb ∧ PySem.W.notFirst X.K C tb = true := by
  cases h with
  | ins e =>
    cases r
    obtain ⟨mA, J, _⟩ := ins_get I.hok e
    obtain ⟨od, J, _⟩ := J.look
    exact ⟨_, J.type, by simp [PySem.W.notFirst]⟩
  | lst e h =>
    cases r
    obtain ⟨_, its, k, _, e2⟩ := (show ObjOk X.prog X.w H s.heap _ (.lst _) from I.hok _ _ e)
    exact ⟨.type "list", (PySem.W.Looks.ld e2).andThen .now, by simp [PySem.W.notFirst, h]⟩
  | int i h =>
    obtain ⟨t, rfl⟩ := r
    exact ⟨.type "int", .now, by simp [PySem.W.notFirst, h]⟩
def rOwnEq (K : PySem.W.Frag) (C : Addr) (sp : Sp) (E : XK) : R2 := fun x y H Q => ∃ (a dx : Addr) (fs : List (Str × V)), x = .ref a ∧ H a = some (.ins C dx fs) ∧ Rgt K C H y ∧ sp [.ref a, y] H (fun v H' => ∃ b, v = .bl b ∧ Q (.bl b) H') E
theorem op_own_eq (F : FnOk X.prog X.w X.K X.mg X.base CX n f fd ps sp) (hs : PySem.W.findIn X.K (.ref C) "__eq__" = some (some (.ref f))) (hf : PySem.W.isFn X.K (.ref f) = true) (hb : Binds X.K fd ps []) (hx : Passes CX X E) (hr : Room n X.A) : OpR X (compareOp .Eq) (rOwnEq X.K C sp E) := by
  intro pins s σ H x y v u Q I rx ry hq
  obtain ⟨a, dx, fs, rfl, ha, hg, h⟩ := hq
  cases rx
  obtain ⟨mA, J, _⟩ := ins_get I.hok ha
  obtain ⟨od, J, _⟩ := J.look
  obtain ⟨m, hF⟩ := I.fr
  obtain ⟨tb, l1, l2⟩ := rgt_ok I ry hg
  show wpAny (model X.prog X.w) X.A (richCompare .Eq (.ref a) u) (EP X pins σ Q) X.xe s
  refine PySem.W.cmp_K (op := .Eq) (tb := tb) hr.units0 hF I.ok.mod.kin J l1 l2 hs hf ?_
  refine wpAny_mono (own_run (vs := [V.ref a, y]) F hr rfl hb hx I (.cons (show RelV (V.ref a) (Value.ref a) from rfl) (.cons ry .nil)) h) (fun r s' z => ?_) fun _ _ x => x
  obtain ⟨v', H', I', rv, b, rfl, q⟩ := z
  cases rv
  exact ⟨.bl b, H', I', rfl, q⟩
def rOwnLen (C : Addr) (sp : Sp) (E : XK) : List V → Hp → VK → Prop := fun xs H Q => ∃ (a dx : Addr) (fs : List (Str × V)), xs = [.ref a] ∧ H a = some (.ins C dx fs) ∧ sp [.ref a] H (fun v H' => ∃ k : Nat, v = .int (k : Int) ∧ k < 1000000 ∧ Q (.int (k : Int)) H') E
theorem call_own_len (F : FnOk X.prog X.w X.K X.mg X.base CX n f fd ps sp) (hs : PySem.W.findIn X.K (.ref C) "__len__" = some (some (.ref f))) (hf : PySem.W.isFn X.K (.ref f) = true) (hb : Binds X.K fd ps []) (hx : Passes CX X E) (hr : Room (n + 1) X.A) : CallR X (.builtin "len") (rOwnLen C sp E) := by
  intro pins s σ H xs us Q I r h
  obtain ⟨a, dx, fs, rfl, ha, h⟩ := h
  cases r with
  | cons ra rr =>
    cases rr
    cases ra
    obtain ⟨mA, J, _⟩ := ins_get I.hok ha
    obtain ⟨od, J, _⟩ := J.look
    obtain ⟨m, hF⟩ := I.fr
    refine PySem.W.len_K hF I.ok.mod.kin J hs hf ?_
    refine wpAny_mono (own_run (vs := [V.ref a]) F hr.in1 rfl hb hx I (.cons (show RelV (V.ref a) (Value.ref a) from rfl) .nil) h) (fun r s' z => ?_) fun _ _ x => x
    obtain ⟨v', H', I', rv, k, rfl, hk, q⟩ := z
    obtain ⟨t, rfl⟩ := rv
    exact ⟨⟨by omega, by omega⟩, .int (k : Int), H', I'.tok _, ⟨_, rfl⟩, q⟩
def rOwnIn (C : Addr) (sp : Sp) (E : XK) (neg : Bool) : R2 := fun x y H Q => ∃ (a dx : Addr) (fs : List (Str × V)), y = .ref a ∧ H a = some (.ins C dx fs) ∧ sp [.ref a, x] H (fun v H' => ∃ b, v = .bl b ∧ Q (.bl (if neg then !b else b)) H') E
theorem op_own_in (F : FnOk X.prog X.w X.K X.mg X.base CX n f fd ps sp) (hs : PySem.W.findIn X.K (.ref C) "__contains__" = some (some (.ref f))) (hf : PySem.W.isFn X.K (.ref f) = true) (hb : Binds X.K fd ps []) (hx : Passes CX X E) (hr : Room n X.A) : OpR X (compareOp .In) (rOwnIn C sp E false) := by
  intro pins s σ H x y v u Q I rx ry hq
  obtain ⟨a, dx, fs, rfl, ha, h⟩ := hq
  cases ry
  obtain ⟨mA, J, _⟩ := ins_get I.hok ha
  obtain ⟨od, J, _⟩ := J.look
  obtain ⟨m, hF⟩ := I.fr
  refine PySem.W.in_K hF I.ok.mod.kin J hs hf ?_
  refine wpAny_mono (own_run (vs := [V.ref a, x]) F hr rfl hb hx I (.cons (show RelV (V.ref a) (Value.ref a) from rfl) (.cons rx .nil)) h) (fun r s' z => ?_) fun _ _ x => x
  obtain ⟨v', H', I', rv, b, rfl, q⟩ := z
  cases rv
  exact wpAny_truthy_bool ⟨.bl b, H', I', rfl, q⟩
theorem op_own_notIn (F : FnOk X.prog X.w X.K X.mg X.base CX n f fd ps sp) (hs : PySem.W.findIn X.K (.ref C) "__contains__" = some (some (.ref f))) (hf : PySem.W.isFn X.K (.ref f) = true) (hb : Binds X.K fd ps []) (hx : Passes CX X E) (hr : Room n X.A) : OpR X (compareOp .NotIn) (rOwnIn C sp E true) := by
  intro pins s σ H x y v u Q I rx ry hq
  obtain ⟨a, dx, fs, rfl, ha, h⟩ := hq
  cases ry
  obtain ⟨mA, J, _⟩ := ins_get I.hok ha
  obtain ⟨od, J, _⟩ := J.look
  obtain ⟨m, hF⟩ := I.fr
  refine PySem.W.notIn_K hF I.ok.mod.kin J hs hf ?_
  refine wpAny_mono (own_run (vs := [V.ref a, x]) F hr rfl hb hx I (.cons (show RelV (V.ref a) (Value.ref a) from rfl) (.cons rx .nil)) h) (fun r s' z => ?_) fun _ _ x => x
  obtain ⟨v', H', I', rv, b, rfl, q⟩ := z
  cases rv
  exact wpAny_truthy_bool ⟨.bl (!b), H', I', rfl, q⟩
end
end Hm
namespace Hm
open PySem PySem.Spec PyProof.Rows L2 NdefX
/-! ### own errors whose __init__ begins with super().__init__(text) -/
abbrev VI : String := "ValueError.__init__"
/-- what the written part says of the class at C and of its __init__ at fI -/
structure SupF (P : Program) (K : PySem.W.Frag) (C fI : Addr) (qual : Str) (params : Arguments) (body : List Stmt) (scope : Scope) (fd : FuncData) : Prop where
  fn : ∃ (oc : Value) (od an : Option Addr) (osl : Array (Option Value)) (kV doc pm ct : Value) (cda cc : Addr), fd = PySem.W.fnX "__init__" qual params body scope [("__class__", cc)] .none kV doc pm an (.ref cda) ct ∧ K.lookup fI = some ⟨oc, od, .func fd, osl⟩ ∧
    PySem.W.codeIn K (.ref cda) qual = true ∧ (∃ (ccl : Value) (cdd : Option Addr) (vs : Array Value) (ccs : Array (Option Value)) (file : Str) (tf : Tok), K.lookup cda = some ⟨ccl, cdd, .fields vs, ccs⟩ ∧ vs[2]? = some (.str file tf) ∧ ((P.main.file : Str) == file) = true) ∧
    ∃ (cl : Value) (cld : Option Addr) (csl : Array (Option Value)), K.lookup cc = some ⟨cl, cld, .cell (some (.ref C)), csl⟩
  sub : PySem.W.mroIn K C (.ref C) = some true
  sup : PySem.W.nsIn K mainGlobals "super" = some none
  opq : PySem.W.nsIn K cStatics "thirdparty.any" = some none
  ini : PySem.W.ks_superIn K C C "__init__" = some (some (.builtin VI))
  vB : PySem.W.subIn K (.ref C) (.type "ValueError") = some true
  top : (P.main.scope.names.lookup ("super" : Str)).isSome = false
  oex : OexC K C
theorem cell_ne {K : PySem.W.Frag} {C cc : Addr} {cd : ClassData} {o : Obj} {v : Option Value} (h1 : PySem.W.clsIn K C = some cd) (h2 : K.lookup cc = some o) (h3 : o.data = .cell v) : True := trivial
theorem sup_fn {CX : CXT} {P : Program} {w : World} {K : PySem.W.Frag} {mg : Str → Option Value} {base : Heap} {C fI : Addr} {qual : Str} {params : Arguments} {scope : Scope} {fd : FuncData} {N ps : List Str} {k : Nat} {sp : Sp}
    {e : Expr} {rest : List Stmt} {p0 p1 p2 p3 p4 : Pos} {ar : Arg}
    (SF : SupF P K C fI qual params (.Expr (.Call (.Attribute (.Call (.Name "super" p0) [] [] p1) "__init__" p2) [e] [] p3) p4 :: rest) scope fd)
    (S : NScope N ps ["__class__"] scope) (hp : (params.posonlyargs ++ params.args).head? = some ar) (hN0 : N[0]? = some ar.arg) (hps : 0 < ps.length) (hsl : scope.names.lookup ("super" : Str) = some .globalImplicit)
    (len : ∀ vs H Q E, sp vs H Q E → vs.length = ps.length)
    (hbody : ∀ (F : NF) (A : Around) (outer : List Env) (s : Shared) (H : Hp) (vs : List V) (Q : VK) (E : XK), F.qual = qual → F.scope = scope → Room k (A.deeper (envF F fI s.heap.objs.size)) → sp vs H Q E →
      ∃ (x : Addr) (ta : TA) (t : TS), vs[0]? = some (.ref x) ∧ H x = some (exo x C none) ∧ PA (ncx CX P w K mg base N F fI A outer s H E) [e] ta ∧ PSs (ncx CX P w K mg base N F fI A outer s H E) rest t ∧
        ta (startF N vs [none]) H (fun ws H1 => ws.length ≤ 1000 ∧ H1 x = some (exo x C none) ∧ t { nx := fun _ H' => Q .non H', rt := Q } (startF N vs [none]) H1))
    (hswap : ∀ (env : Env), swapsWith (.Call (.Attribute (.Call (.Name "super" p0) [] [] p1) "__init__" p2) [e] [] p3) none p4.line env = pure false)
    (hstar : ∀ env : Env, starEach [e] env = (false, eval e env) :: starEach [] env)
    (hev : ∀ env : Env, ∃ pl : Sem Bool, eval (.Call (.Attribute (.Call (.Name "super" p0) [] [] p1) "__init__" p2) [e] [] p3) env = (do
      let ov ← attributeBase (.Call (.Name "super" p0) [] [] p1) "__init__" env (eval (.Call (.Name "super" p0) [] [] p1) env)
      standAt p2.atName
      let (f, first) ← holding [ov] (getMethod ov "__init__" pl)
      callWith p3 f first (backTo p3 (starEach [e] env)) [])) :
    FnOk P w K mg base CX (k + 1) fI fd ps sp := by
  refine ⟨len, fun A outer s H args us vs Q E hr e0 hb r hsp => ?_⟩
  obtain ⟨oc, od, an, osl, kV, doc, pm, ct, cda, cc, rfl, lk, hcd, ⟨ccl, cdd, fvs, ccs, file, tf, lkc, hvs, hfile⟩, cl, cld, csl, lcc⟩ := SF.fn
  have hl := len _ _ _ _ hsp
  have KX : K.In s.heap := e0.mod.kin.keeps fun b o e => (e0.bs b o e).1
  have lim : s.heap.NoLimit := e0.mod.nolimit.keeps fun b o e => (e0.bs b o e).1
  refine codeAny_call_function hr.depth (KX _ _ lk) rfl S.co S.gen rfl (PySem.W.codeRec_of KX hcd) (hb _ _ _ _ ?_)
  refine wpAny_newFunctionEnv S.nocell (fun ⟨n, _⟩ hy => S.par n (List.of_mem_zip hy).1) (fun h₁ hns hsb => ⟨lim.fresh _ hsb, ?_⟩) S.kind
  have kp : ∀ b o, s.heap.get? b = some o → h₁.get? b = some o := fun b o e => hsb.extBut b o (Nat.ne_of_lt (Heap.lt_size e)) (Heap.get?_push_of_some _ e)
  let F : NF := ⟨"__init__", qual, params, (.Expr (.Call (.Attribute (.Call (.Name "super" p0) [] [] p1) "__init__" p2) [e] [] p3) p4 :: rest), scope, [("__class__", cc)], cda⟩
  have hccH : H cc = none := (e0.bs cc _ (e0.mod.kin _ _ lcc)).2
  have cells : CellsAt F.cl ["__class__"] [none] s.heap H := by
    refine ⟨rfl, fun y c hy => ?_, fun x y c hx hy => ?_, fun i y hy => ?_⟩
    · by_cases q : y = "__class__"
      · subst q
        have : some cc = some c := hy
        cases this
        exact ⟨hccH, _, _, KX _ _ lcc, rfl⟩
      · have : (none : Option Addr) = some c := by
          have h2 : List.lookup y [(("__class__" : Str), cc)] = some c := hy
          rw [List.lookup_cons] at h2
          have q2 : (y == ("__class__" : Str)) = false := by simpa using q
          rw [q2] at h2
          exact h2
        cases this
    · have one : ∀ z, List.lookup z [(("__class__" : Str), cc)] = some c → z = "__class__" := fun z h2 => by
        by_cases q : z = "__class__"
        · exact q
        · rw [List.lookup_cons] at h2
          have q2 : (z == ("__class__" : Str)) = false := by simpa using q
          rw [q2] at h2
          cases h2
      rw [one x hx, one y hy]
    · match i, hy with
      | 0, hy =>
        cases hy
        exact ⟨cc, rfl, fun v hv => by cases hv⟩
  obtain ⟨x, ta, t, hv0, hx, ha, ht, hq⟩ := hbody F A outer s H vs Q E rfl rfl (hr.deeper _) hsp
  have I : Inv (ncx CX P w K mg base N F fI A outer s H E) [] (startF N vs [none]) H { s with heap := h₁, toks := s.toks + (ps.zip us).length } := inv_startN S hr.hd e0 hl r cells hns kp
  show codeAny _ _ (.func F.body (envF F fI s.heap.objs.size)) _ _
  have KX1 : K.In h₁ := KX.keeps kp
  have hkc : scope.names.lookup ("__class__" : Str) = some .free := S.frk _ (List.mem_cons_self ..)
  have hka : scope.names.lookup ar.arg = some .local := by
    refine S.par _ ?_
    have h1 : (ps ++ [("__class__" : Str)])[0]? = some ar.arg := by
      rw [← S.pre, List.getElem?_take_of_lt (by simp)]
      exact hN0
    rw [List.getElem?_append_left hps] at h1
    exact List.mem_of_getElem? h1
  obtain ⟨nm, qn, Nc, bs, bm, sn, sub, ab, col, dd, k0, k1, k2, k3, k5, hC, hbm⟩ := SF.oex.cls
  have hcl : PySem.W.clsIn K C = some { name := nm, bases := bs, mro := .ref C :: bm, ns := Nc, qualname := qn, hasDict := true, slotNames := sn, subclasses := sub, abstract := ab, collection := col, hasDel := false } := by unfold PySem.W.clsIn; rw [hC] <;> rfl
  obtain ⟨t1, hxo⟩ := exo_at I.hok hx
  have hxo : h₁.get? x = some ({ cls := .ref C, dict := none, data := .fields #[.ref t1, .none, .none, .none, .bool false, .none] } : Obj) := hxo
  have hxC : x ≠ C := fun q => by
    subst q
    have h2 := KX1 _ _ hC
    rw [hxo] at h2
    cases h2
  refine ks_codeAny_funcAt (ks_wpAt_execs_cons (ks_wpAt_mono (Q := fun f s' => f = .next ∧ ∃ H', Inv (ncx CX P w K mg base N F fI A outer s H E) [] (startF N vs [none]) H' s' ∧ t { nx := fun _ H' => Q .non H', rt := Q } (startF N vs [none]) H') ?first (fun f s' z => ?rest) (fun _ _ z => z)))
  case rest =>
    obtain ⟨hf, H', J, q⟩ := z
    subst hf
    refine wpAt_of_wpAny (wpAny_mono (ht.run [] s' _ H' _ J q) (fun fl s' hs => ?_) fun e s' hs => hs)
    have fin : ∀ {σ' : L2.St} {H' : Hp} {v : V} {u : Value}, Inv (ncx CX P w K mg base N F fI A outer s H E) [] σ' H' s' → L2.RelV v u → Q v H' → CE outer P w H s Q u s' :=
      fun {σ' H' v u} J rv q => ⟨v, H', J.os, J.bare, J.base, J.hok, rv, q⟩
    cases fl with
    | ret u =>
      obtain ⟨v, σ', H', J, rv, q⟩ := hs
      exact fin J rv q
    | next =>
      obtain ⟨σ', H', J, q⟩ := hs
      exact fin (v := V.non) (u := Value.none) J rfl q
    | brk =>
      obtain ⟨_, _, _, q⟩ := hs
      exact False.elim q
    | cont =>
      obtain ⟨_, _, _, q⟩ := hs
      exact False.elim q
  case first =>
    obtain ⟨pl, hev'⟩ := hev (envF F fI s.heap.objs.size)
    refine ks_wpAt_Expr_any (ks_wpAt_MethodCall (ks_wpAt_super_base (env := envF F fI s.heap.objs.size) hsl hkc rfl rfl (kp _ _ (KX _ _ lk)) rfl hp rfl (kp _ _ (KX _ _ lkc)) rfl hvs hfile SF.top ?_) hev') (by unfold interactive; rw [show (envF F fI s.heap.objs.size).scope.kind = .function from S.kind]; rfl) (hswap _)
    obtain ⟨mb, b1, b2⟩ := e0.mod.blt
    have kpb : ∀ b o, base.get? b = some o → h₁.get? b = some o := fun b o e => kp b o (e0.bs b o e).1
    have lsup : ∀ {QQ : Value → Shared → Prop} {EE : Value → Shared → Prop}, QQ (.type "super") { s with heap := h₁, toks := s.toks + (ps.zip us).length } → wpAny (model P w) (A.deeper (envF F fI s.heap.objs.size)) (loadGlobal (envF F fI s.heap.objs.size) "super") QQ EE { s with heap := h₁, toks := s.toks + (ps.zip us).length } := fun {QQ EE} q =>
      PySem.Calls.loadGlobal_builtin (env := envF F fI s.heap.objs.size) (e0.mod.glob.keeps kpb) (PySem.W.mg_none_of e0.mod.kin e0.mod.glob SF.sup) (b1.keeps kpb) ((b2 _ (by decide +kernel)).trans PyProof.Rows.Boot.«super») q
    refine PySem.W.ks_loadName_global (env := envF F fI s.heap.objs.size) S.kind hsl (lsup ⟨rfl, ?_⟩)
    refine wpAny_loadName_free (env := envF F fI s.heap.objs.size) S.kind hkc rfl (c := cc) ⟨_, KX1 _ _ lcc, rfl⟩ ?_
    obtain ⟨u0, us', rfl, hu0⟩ : ∃ u0 us', us = u0 :: us' ∧ u0 = Value.ref x := by
      cases r with
      | nil => cases hv0
      | @cons v0 u0 vs' us' r0 rr =>
        have : v0 = V.ref x := Option.some.inj hv0
        subst this
        exact ⟨_, _, rfl, r0⟩
    subst hu0
    have hself : (ps.zip (Value.ref x :: us')).reverse.lookup ar.arg = some (.ref x) := by
      have ndP : ps.Nodup := by
        have q := S.nd.sublist (List.take_sublist (ps.length + 1) N)
        have q2 : N.take (ps.length + 1) = ps ++ [("__class__" : Str)] := S.pre
        rw [q2] at q
        exact (List.nodup_append.mp q).1
      refine zip_look (i := 0) ndP ?_ rfl
      have h1 : (ps ++ [("__class__" : Str)])[0]? = some ar.arg := by
        rw [← S.pre, List.getElem?_take_of_lt (by simp)]
        exact hN0
      rw [List.getElem?_append_left hps] at h1
      exact h1
    refine wpAny_loadName_local (env := envF F fI s.heap.objs.size) S.kind hka hns hself ?_
    refine ks_wpAny_isType_cls (KX1 _ _ hC) rfl ⟨rfl, ?_⟩
    refine ks_wpAny_call_super (KX1 _ _ hC) rfl hxo rfl (fun c e => by cases e) (PySem.W.looks_mroIn KX1 SF.sub) (fun h2 e2 k2 => ?_)
    have KX2 : K.In h2 := KX1.keeps k2
    have hx2 := k2 _ _ hxo
    have hI : PySem.W.Looks (model P w) h2 (isInstance (.ref x) (.type "ValueError")) true := PySem.W.Looks.andThen ((PySem.W.Looks.ld hx2).andThen .now) (PySem.W.looks_subIn KX2 SF.vB)
    have hini : PySem.W.alongIn K "__init__" (((Value.ref C :: bm).dropWhile (· != .ref C)).drop 1) = some (some (.builtin VI)) := by
      have q := SF.ini
      unfold PySem.W.ks_superIn at q
      rw [hcl] at q
      exact q
    refine PySem.W.kxs_getMethod PySem.W.kxs_ValueError e2 (PySem.W.looks_opaque KX2 SF.opq) (l₀ := .ref C :: bm) (fun A Q E s k q => wpAny_bind ((PySem.W.looks_clsIn KX2 hcl) A _ E s k (wpAny_pure q))) rfl KX2 hini hI hxC rfl ?_
    have u2 : (h2.push (PySem.W.kxs_mw VI x)).get? h2.objs.size = some (PySem.W.kxs_mw VI x) := Heap.get?_push_at rfl rfl
    have k3' : ∀ b o, h₁.get? b = some o → (h2.push (PySem.W.kxs_mw VI x)).get? b = some o := fun b o e => Heap.get?_push_of_some _ (k2 _ _ e)
    have J0 := I.kept (t' := s.toks + (ps.zip (Value.ref x :: us')).length + 1) k3'
    have hu : h₁.objs.size ≤ h2.objs.size := Nat.le_of_lt (Heap.lt_size e2)
    have J1 : Inv (ncx CX P w K mg base N F fI A outer s H E) [(h2.objs.size, PySem.W.kxs_mw VI x)] (startF N vs [none]) H { s with heap := h2.push (PySem.W.kxs_mw VI x), toks := s.toks + (ps.zip (Value.ref x :: us')).length + 1 } :=
      J0.pins_of fun p hp => by
        rw [List.mem_singleton.mp hp]
        exact ⟨u2, I.hok.fresh hu, Nat.ne_of_gt (Nat.lt_of_lt_of_le I.lt hu), I.nofs hu, fun v q => by cases q⟩
    have hrun := ha.run p3 _ _ _ H _ J1 hq
    have hst : starEach [e] (ncx CX P w K mg base N F fI A outer s H E).env = (false, eval e (envF F fI s.heap.objs.size)) :: starEach [] (envF F fI s.heap.objs.size) := hstar _
    rw [hst] at hrun
    show wpAny _ _ (callWith p3 (Value.ref h2.objs.size) [] (backTo p3 (starEach [e] (envF F fI s.heap.objs.size))) []) _ _ _
    rw [hstar]
    refine PySem.W.kxs_callWith (i := VI) (x := x) rfl (PySem.Calls.evalArgs_plain (wpAny_mono hrun (fun ws s1 z => ?_) fun _ _ z => z))
    obtain ⟨wvs, H1, J2, r2, hw, hx1, hq1⟩ := z
    have hu1 : s1.heap.get? h2.objs.size = some (PySem.W.kxs_mw VI x) := (J2.pin (h2.objs.size, PySem.W.kxs_mw VI x) (List.mem_append_right _ (List.mem_singleton.mpr rfl))).1
    refine ⟨hu1, ?_⟩
    obtain ⟨t2, hxo2⟩ := exo_at J2.hok hx1
    have hC2 := J2.kIn _ _ hC
    have hwl : ws.length ≤ sizeLine := by
      rw [← r2.length, sizeLine_eq]
      omega
    obtain ⟨hp2, g2, d2, tk2, os2⟩ := s1
    refine wpAny_call (codeAny_of_tree ?_)
    show wpAny _ _ (callAny (.ref h2.objs.size) ⟨ws, []⟩) _ _ _
    simp only [callAny]
    refine wpAny_bind (wpAny_load hu1 ?_)
    simp only [PySem.W.kxs_mw, show (Value.type "method-wrapper" == Value.type "method" || Value.type "method-wrapper" == Value.type "builtin_function_or_method" || Value.type "method-wrapper" == Value.type "method-wrapper") = true by decide, if_true]
    refine PySem.W.KFB.if_so (by decide) ?_
    refine wpAny_bind (PySem.W.check_bound_init PySem.F.excBase_ValueError.toExcCallFacts hC2 hxo2 rfl ?_)
    refine wpAny_bind (wpAny_pure (wpAny_pure ?_))
    refine ⟨plainId_quiet PySem.F.excBase_ValueError.init.plain _, codeAny_builtin PySem.F.excBase_ValueError.initEntry ?_⟩
    refine PySem.W.exc_init_tree (cls := .ref C) (t0 := t2) (dv := none) (c2 := .none) (c3 := .none) (b4 := .bool false) hxo2 hwl (fun h3 k3 hx3 _ => ?_)
    have J3 := J2.write (t' := tk2) (x := x) (e := x) (o := exo x C none) (by rw [hx1]; exact True.intro) (.inl rfl) k3 ⟨_, hx3⟩ (exo_ok hx3)
    have eu : upd H1 x (exo x C none) = H1 := by
      funext b
      by_cases hb : b = x
      · rw [hb, upd_same, hx1]
      · rw [upd_ne hb]
    rw [eu] at J3
    exact ⟨trivial, H1, J3.pins_of (fun p hp => by cases hp), hq1⟩
end Hm
namespace Hm
open PySem PySem.Spec PyProof.Rows L2 NdefX
/-! ### making such an error, raising it, catching it -/
/-- C(), C's own __init__ keeping sp and setting no attribute -/
def tMk0 (C : Addr) (sp : Sp) : L2.St → Hp → XK → Prop := fun σ H Q => ∀ a, H a = none → sp [.ref a] (upd H a (exo a C none)) (fun v H2 => v = .non ∧ H2 a = some (exo a C none) ∧ Q (.ref C) none (del H2 a)) (fun _ _ _ => False)
section
variable {X : Cx}
theorem pmk_sup0 {CX : CXT} {x : Str} {C fI : Addr} {k : Nat} {fd : FuncData} {ps : List Str} {sp : Sp} {p pos : Pos} (T : OexC X.K C) (iC : PySem.W.findIn X.K (.ref C) "__init__" = some (some (.ref fI))) (tI : PySem.W.typeIn X.K (.ref fI) = some (.type "function"))
    (F1 : FnOk X.prog X.w X.K X.mg X.base CX k fI fd ps sp) (hr : Room (k + 1) X.A) (hb : Binds X.K fd ps []) (hx : Passes CX X (fun _ _ _ => False)) (hg : Gl X x) (hm : X.mg x = some (.ref C))
    (hdb : (x == ("__debug__" : Str)) = false := by decide) : L2.PMk X (.Call (.Name x p) [] [] pos) (tMk0 C sp) := by
  intro pins s σ H Q I h
  obtain ⟨nm, q, N, bs, bm, sn, sub, ab, col, dd, k0, k1, k2, k3, k5, hC, hbm⟩ := T.cls
  refine wpAny_Call_Name_kw (ld_glob I hg hm ?_ hdb)
  refine PySem.W.callWith_K0 I.kIn T.kC ?_
  obtain ⟨hp, g, dr, tk, os⟩ := s
  have hsz : hp.objs.size ≤ hp.objs.size + 1 := Nat.le_succ _
  have hn : H (hp.objs.size + 1) = none := I.hok.fresh hsz
  have hq := h (hp.objs.size + 1) hn
  have kk : ∀ b o, hp.get? b = some o → ((hp.push (PySem.W.kdv_tup [])).push (PySem.HandSPX.excO C hp.objs.size)).get? b = some o := fun b o e => Heap.get?_push_of_some _ (Heap.get?_push_of_some _ e)
  have hget : ((hp.push (PySem.W.kdv_tup [])).push (PySem.HandSPX.excO C hp.objs.size)).get? (hp.objs.size + 1) = some (PySem.HandSPX.excO C hp.objs.size) := by heap_get
  have I2 : Inv X pins σ (upd H (hp.objs.size + 1) (exo (hp.objs.size + 1) C none)) ⟨(hp.push (PySem.W.kdv_tup [])).push (PySem.HandSPX.excO C hp.objs.size), g, dr, tk, os⟩ :=
    I.laid (t' := tk) (a := hp.objs.size + 1) (o := exo (hp.objs.size + 1) C none) (h' := (hp.push (PySem.W.kdv_tup [])).push (PySem.HandSPX.excO C hp.objs.size)) kk hsz (exo_ok hget)
  have r2 : Vals [V.ref (hp.objs.size + 1)] [Value.ref (hp.objs.size + 1)] := .cons rfl .nil
  have hl : ([Value.ref (hp.objs.size + 1)] ++ []).length = ps.length := (F1.len _ _ _ _ hq)
  refine wpAny_call (PySem.HandSPX.call_own F.excBase_ValueError (fun Y => PySem.HandSPX.refsVE_contains Y bm hbm) (I.kIn _ _ hC) (PySem.W.looks_findIn I.kIn iC) (fun self => PySem.W.bind_fn I.kIn self tI) (by decide)
    (codeAny_mono (F1.run _ X.stack _ _ ⟨[Value.ref (hp.objs.size + 1)], []⟩ [Value.ref (hp.objs.size + 1)] _ _ (fun _ _ _ => False) (hr.make C [] []) (I2.env0.make C [] []) (by
      have b := hb ⟨(hp.push (PySem.W.kdv_tup [])).push (PySem.HandSPX.excO C hp.objs.size), g, dr, tk, os⟩ [Value.ref (hp.objs.size + 1)] I2.kIn hl
      simpa using b) r2 hq) fun r s' hq' => ?_))
  cases r with
  | error er => exact hx pins σ _ _ er s' I2 hq'
  | ok fl =>
    cases fl with
    | ret u =>
      obtain ⟨v, H2, os2, bare2, un2, hok2, rv, ev, ea, q2⟩ := hq'
      subst ev
      obtain ⟨h2, g2, d2, t2, os'⟩ := s'
      refine ⟨rv, ?_⟩
      obtain ⟨t0, hoe⟩ := exo_at hok2 ea
      obtain ⟨G, g1', g2'⟩ := restrict h2 fun b => decide (b ≠ hp.objs.size + 1)
      have gk : ∀ b, b ≠ hp.objs.size + 1 → G.get? b = h2.get? b := fun b hb => g1' b (decide_eq_true hb)
      have ge : G.get? (hp.objs.size + 1) = none := g2' _ (by simp)
      have nha : ∀ {b : Addr} {o : Obj}, hp.get? b = some o → b ≠ hp.objs.size + 1 := fun {b o} z => Nat.ne_of_lt (Nat.lt_succ_of_lt (Heap.lt_size z))
      have up : ∀ {b : Addr}, b ≠ hp.objs.size + 1 → H b = none → upd H (hp.objs.size + 1) (exo (hp.objs.size + 1) C none) b = none := fun {b} hb n => by rw [upd_ne hb]; exact n
      have U : Un (frs X.stack) [] H (del H2 (hp.objs.size + 1)) hp G := {
        keep := fun b o z n hf hx => by
          rw [gk b (nha z)]
          exact un2.keep b o (kk b o z) (up (nha z) n) hf hx
        slot := fun b o z n hf hx => by
          rw [gk b (nha z)]
          exact un2.slot b o (kk b o z) (up (nha z) n) hf hx
        free := fun b o z n hx => by
          rw [del_ne (nha z)]
          exact un2.free b o (kk b o z) (up (nha z) n) hx
        there := fun b o z hx => by
          rw [gk b (nha z)]
          exact un2.there b o (kk b o z) hx
        tups := fun b xs z => by
          rw [del_ne (ne_of_none z hn)]
          exact un2.tups b xs (by rw [upd_ne (ne_of_none z hn)]; exact z)
        frzs := fun b o v z => by
          rw [del_ne (ne_of_none z hn)]
          exact un2.frzs b o v (by rw [upd_ne (ne_of_none z hn)]; exact z)
        tbls := fun b ps z => by
          rw [del_ne (ne_of_none z hn)]
          exact un2.tbls b ps (by rw [upd_ne (ne_of_none z hn)]; exact z) }
      have hok3 : HOk X.prog X.w (del H2 (hp.objs.size + 1)) G := fun b o z => by
        have hba : b ≠ hp.objs.size + 1 := fun e => by
          rw [e, del_same] at z
          cases z
        rw [del_ne hba] at z
        have noa : ∀ {c : Addr}, H2 c = some (.own b) → c ≠ hp.objs.size + 1 := fun {c} hc => at_ne ea hc exo_own
        exact (hok2 b o z).stay (fun c v hc y => by
            have hca : c ≠ hp.objs.size + 1 := by
              rcases hc with hc | hc
              · rw [hc]
                exact hba
              · exact noa hc
            rw [gk c hca]
            exact y)
          (fun c hc => by rw [del_ne (noa hc)]; exact hc) (fun c xs hc => by rw [del_ne (at_ne ea hc exo_tup)]; exact hc)
      have J : Inv X pins σ (del H2 (hp.objs.size + 1)) ⟨G, g2, d2, t2, os'⟩ := I.call' (ch := []) os2 U hok3 bare2 (fun b z => absurd z (by simp))
      exact ⟨hp.objs.size + 1, _, _, ⟨G, g2, d2, t2, os'⟩, _, .ref C, none, rfl, J, fun b o z => by
        by_cases hba : b = hp.objs.size + 1
        · rw [hba, ge] at z
          cases z
        · exact (gk b hba).symm.trans z, ge, hoe, ⟨rfl, rfl⟩, rfl, rfl, del_same, rfl, bare2, raises_own T.exC T.tyC, q2⟩
    | next => exact False.elim hq'
    | brk => exact False.elim hq'
    | cont => exact False.elim hq'
/-- what a callee lets out is taken, at the slots as they stand -/
theorem passes_len {W : WX} (tk : L2.Takes X W) : Passes (L2.CX X.prog X.w) X (fun cls d H => ∀ σ, σ.length = X.N.length → W cls d σ H) := fun _ σ _ _ e s' I c => tk e s' (L2.XE.of_call I (fun _ _ _ h => h σ I.len) c)
end
end Hm
namespace Hm
open PySem PySem.Spec PyProof.Rows L2 NdefX
/-! ### further facts of the head: own errors, isinstance -/
/-- the address of a class's own __init__ -/
def iA (K : PySem.W.Frag) (x : Str) : Addr := He.ma K (He.ga K x) "__init__"
/-- an own error's __init__, as data -/
structure CloD where
  x : Str
  qual : Str
  params : Arguments
  body : List Stmt
  scope : Scope
abbrev CloV : Type := Option (Str × Str × Arguments × FuncBody × Scope × Addr × Addr)
def cloW (K : PySem.W.Frag) (x : Str) : CloV := match K.lookup (iA K x) with
  | some ⟨_, _, .func fd, _⟩ => some (fd.name, fd.qualname, fd.params, fd.body, fd.scope, fd.globals, fd.builtins)
  | _ => none
def CloD.val (d : CloD) : CloV := some ("__init__", d.qual, d.params, .stmts d.body, d.scope, mainGlobals, builtinsNs)
def cellB (K : PySem.W.Frag) (x : Str) (cl : List (Str × Addr)) : Bool := match cl with
  | [(nm, cc)] => decide (nm = "__class__") && (match K.lookup cc with
    | some ⟨_, _, .cell (some (.ref c)), _⟩ => decide (c = He.ga K x)
    | _ => false)
  | _ => false
def fileB (K : PySem.W.Frag) (file : Str) (cd : Value) : Bool := match cd with
  | .ref cda => (match K.lookup cda with
    | some ⟨_, _, .fields vs, _⟩ => (match (vs[2]? : Option Value) with
      | some (.str f _) => file == f
      | _ => false)
    | _ => false)
  | _ => false
def noneB (v : Value) : Bool := match v with
  | .none => true
  | _ => false
def supB (file : Str) (K : PySem.W.Frag) (x : Str) : Bool := match K.lookup (iA K x) with
  | some ⟨_, _, .func fd, _⟩ => cellB K x fd.closure && (noneB fd.defaults && (PySem.W.codeIn K fd.code fd.qualname && fileB K file fd.code))
  | _ => false
def oexB (K : PySem.W.Frag) (C : Addr) : Bool := match K.lookup C with
  | some ⟨.type "type", _, .cls cd, sl⟩ => (match cd.mro, sl.toList with
    | .ref C' :: bm, [_, _, _, _, some (.builtin n), _] => C' == C && n == "ValueError.__new__" && !cd.hasDel && cd.hasDict && PySem.HandSPX.refsVE bm
    | _, _ => false)
  | _ => false
inductive Tn where
  | own (x : Str)
  | ty (n : String)
def Tn.v (K : PySem.W.Frag) : Tn → Value
  | .own x => .ref (He.ga K x)
  | .ty n => .type n
inductive Fx where
  | sup (x : Str)
  | exc (x : Str)
  | kit (a b : Tn) (r : Bool)
  | sub (a : Tn) (x : Str) (r : Bool)
  | ins (x : Str)
  | exm (x y : Str) (b : Bool)
  | spc (x m : Str)
  | kits (xs : List Str)
  | kitTo (xs : List Str) (b : Tn)
def objClass : Value := .builtin "object.__class__"
def Fx.ok (file : Str) (K : PySem.W.Frag) : Fx → Bool
  | .sup x => supB file K x && (oexB K (He.ga K x) && (decide (PySem.W.mroIn K (He.ga K x) (.ref (He.ga K x)) = some true) && (He.eqO (PySem.W.nsIn K mainGlobals "super") (some none) && (He.eqO (PySem.W.nsIn K cStatics "thirdparty.any") (some none) &&
      (He.eqO (PySem.W.ks_superIn K (He.ga K x) (He.ga K x) "__init__") (some (some (.builtin VI))) && (decide (PySem.W.subIn K (.ref (He.ga K x)) (.type "ValueError") = some true) && (He.eqO (PySem.W.findIn K (.ref (He.ga K x)) "__setattr__") (some (some (.builtin "object.__setattr__"))) &&
      (decide (PySem.W.subIn K (.ref (He.ga K x)) (.type "BaseException") = some true) && (decide (PySem.W.typeIn K (.ref (He.ga K x)) = some (.type "type")) && (PySem.W.keepIn K (.ref (He.ga K x)) &&
      (He.eqO (PySem.W.findIn K (.ref (He.ga K x)) "__init__") (some (some (.ref (iA K x)))) && decide (PySem.W.typeIn K (.ref (iA K x)) = some (.type "function")))))))))))))
  | .exc x => He.eqO (PySem.W.findIn K (.ref (He.ga K x)) "__getattribute__") (some (some (.builtin "BaseException.__getattribute__"))) && (He.eqO (PySem.W.findIn K (.ref (He.ga K x)) "__getattr__") (some none) &&
      (decide (PySem.W.subIn K (.ref (He.ga K x)) (.type "BaseException") = some true) && (PySem.W.hasDictIn K (He.ga K x) && (He.eqO (PySem.W.findIn K (.ref (He.ga K x)) "__class__") (some (some objClass)) &&
      (He.eqO (PySem.W.specialIn K objClass "__get__") (some (some (.builtin "getset_descriptor.__get__"))) && (decide (PySem.W.takesIn K objClass = some true) && decide (PySem.W.mroIn K (He.ga K x) (.type "object") = some true)))))))
  | .kit a b r => decide (PySem.W.kitOne K (a.v K) (b.v K) = some r)
  | .sub a x r => decide (PySem.W.subIn K (a.v K) (.ref (He.ga K x)) = some r)
  | .ins x => He.eqO (PySem.W.findIn K (.ref (He.ga K x)) "__class__") (some (some objClass)) && (He.eqO (PySem.W.specialIn K objClass "__get__") (some (some (.builtin "getset_descriptor.__get__"))) && (decide (PySem.W.takesIn K objClass = some true) && decide (PySem.W.mroIn K (He.ga K x) (.type "object") = some true)))
  | .exm x y b => decide (PySem.W.exmOne K (.ref (He.ga K x)) (.ref (He.ga K y)) = some b)
  | .kits xs => xs.all fun x => xs.all fun y => decide (PySem.W.kitOne K (.ref (He.ga K x)) (.ref (He.ga K y)) = some (decide (x = y)))
  | .kitTo xs b => xs.all fun x => decide (PySem.W.kitOne K (.ref (He.ga K x)) (b.v K) = some true)
  | .spc x m => He.eqO (PySem.W.findIn K (.ref (He.ga K x)) m) (some (some (.ref (He.ma K (He.ga K x) m)))) && PySem.W.isFn K (.ref (He.ma K (He.ga K x) m))
section
variable {file : Str} {K : PySem.W.Frag} {x : Str}
theorem oexB_ok {C : Addr} (q : oexB K C = true) : ∃ nm q N bs bm sn sub ab col dd k0 k1 k2 k3 k5, K.lookup C = some (excClassObj nm q C N bs bm true sn sub ab col dd k0 k1 k2 k3 k5 "ValueError.__new__") ∧ PySem.HandSPX.refsVE bm = true := by
  unfold oexB at q
  split at q
  · rename_i dd cd sl ho
    split at q
    · rename_i C' bm k0 k1 k2 k3 n k5 hm hs
      simp only [Bool.and_eq_true, beq_iff_eq, Bool.not_eq_true'] at q
      obtain ⟨⟨⟨⟨rfl, rfl⟩, hdel⟩, hdct⟩, ht⟩ := q
      obtain ⟨nm, bs, mro, ns, qn, hd, sn, sub, ab, col, del⟩ := cd
      dsimp only at hm hdel hdct
      subst hm hdel hdct
      have hsl : sl = #[k0, k1, k2, k3, some (.builtin "ValueError.__new__"), k5] := by
        obtain ⟨l⟩ := sl
        simp only at hs
        rw [hs]
      subst hsl
      exact ⟨nm, qn, ns, bs, bm, sn, sub, ab, col, dd, k0, k1, k2, k3, k5, ho, ht⟩
    · cases q
  · cases q
/-- of an own error: its class, its __init__ -/
structure SupX (P : Program) (K : PySem.W.Frag) (d : CloD) (fd : FuncData) : Prop where
  F : SupF P K (He.ga K d.x) (iA K d.x) d.qual d.params d.body d.scope fd
  iC : PySem.W.findIn K (.ref (He.ga K d.x)) "__init__" = some (some (.ref (iA K d.x)))
  tI : PySem.W.typeIn K (.ref (iA K d.x)) = some (.type "function")
  fx : ∃ cl kV doc pm an cdv ct, fd = PySem.W.fnX "__init__" d.qual d.params d.body d.scope cl .none kV doc pm an cdv ct
theorem sup_of {P : Program} {d : CloD} (e : cloW K d.x = d.val) (h : (Fx.sup d.x).ok P.main.file K = true) (top : (P.main.scope.names.lookup ("super" : Str)).isSome = false) : ∃ fd, SupX P K d fd := by
  obtain ⟨h1, h⟩ := He.ba h
  obtain ⟨h2, h⟩ := He.ba h
  obtain ⟨h3, h⟩ := He.ba h
  obtain ⟨h4, h⟩ := He.ba h
  obtain ⟨h5, h⟩ := He.ba h
  obtain ⟨h6, h⟩ := He.ba h
  obtain ⟨h7, h⟩ := He.ba h
  obtain ⟨h8, h⟩ := He.ba h
  obtain ⟨h9, h⟩ := He.ba h
  obtain ⟨h10, h⟩ := He.ba h
  obtain ⟨h11, h⟩ := He.ba h
  obtain ⟨h12, h13⟩ := He.ba h
  unfold cloW at e
  unfold supB at h1
  cases q : K.lookup (iA K d.x) with
  | none =>
    rw [q] at h1
    cases h1
  | some o =>
    obtain ⟨oc, od, dt, osl⟩ := o
    rw [q] at h1 e
    cases dt with
    | func fd =>
      obtain ⟨n1, n2, n3, n4, n5, n6, n7, n8, n9, n10, n11, n12, n13, n14, n15⟩ := fd
      have e2 : (some (n1, n2, n3, n4, n5, n6, n15) : CloV) = some (("__init__" : Str), d.qual, d.params, FuncBody.stmts d.body, d.scope, mainGlobals, builtinsNs) := e
      simp only [Option.some.injEq, Prod.mk.injEq] at e2
      obtain ⟨g1, g2, g3, g4, g5, g6, g7⟩ := e2
      subst g1 g2 g3 g4 g5 g6 g7
      have c1 : (cellB K d.x n7 && (noneB n8 && (PySem.W.codeIn K n13 d.qual && fileB K P.main.file n13))) = true := h1
      obtain ⟨k1, c1⟩ := He.ba c1
      obtain ⟨k2, c1⟩ := He.ba c1
      obtain ⟨k3, k4⟩ := He.ba c1
      have z8 : n8 = .none := by
        unfold noneB at k2
        split at k2
        · rfl
        · cases k2
      subst z8
      unfold cellB at k1
      split at k1
      · rename_i nm cc
        obtain ⟨m1, m2⟩ := He.ba k1
        have m1 := of_decide_eq_true m1
        subst m1
        split at m2
        · rename_i ccl cld c csl hcc
          have m2 := of_decide_eq_true m2
          subst m2
          clear c1
          unfold fileB at k4
          cases n13 with
          | ref cda =>
            dsimp only at k4
            split at k4
            · rename_i xcl xdd vs xsl hcd
              split at k4
              · rename_i f tf hvs
                exact ⟨_, ⟨⟨oc, od, n12, osl, n9, n10, n11, n14, cda, cc, rfl, q, k3, ⟨xcl, xdd, vs, xsl, f, tf, hcd, hvs, k4⟩, ccl, cld, csl, hcc⟩, of_decide_eq_true h3, He.eqO_ok h4, He.eqO_ok h5, He.eqO_ok h6, of_decide_eq_true h7, top,
                  ⟨oexB_ok h2, He.eqO_ok h8, of_decide_eq_true h9, of_decide_eq_true h10, h11⟩⟩, He.eqO_ok h12, of_decide_eq_true h13, _, _, _, _, _, _, _, rfl⟩
              · cases k4
            · cases k4
          | _ => cases k4
        · cases m2
      · cases k1
    | _ => cases h1
theorem exc_of (h : (Fx.exc x).ok file K = true) : ExcC K (He.ga K x) := by
  obtain ⟨h1, h⟩ := He.ba h
  obtain ⟨h2, h⟩ := He.ba h
  obtain ⟨h3, h⟩ := He.ba h
  obtain ⟨h4, h⟩ := He.ba h
  obtain ⟨h5, h⟩ := He.ba h
  obtain ⟨h6, h⟩ := He.ba h
  obtain ⟨h7, h8⟩ := He.ba h
  exact ⟨He.eqO_ok h1, He.eqO_ok h2, of_decide_eq_true h3, h4, He.eqO_ok h5, He.eqO_ok h6, of_decide_eq_true h7, of_decide_eq_true h8⟩
theorem kit_ok {a b : Tn} {r : Bool} (h : (Fx.kit a b r).ok file K = true) : PySem.W.kitOne K (a.v K) (b.v K) = some r := of_decide_eq_true h
theorem sub_ok {a : Tn} {r : Bool} (h : (Fx.sub a x r).ok file K = true) : PySem.W.subIn K (a.v K) (.ref (He.ga K x)) = some r := of_decide_eq_true h
theorem exm_ok {y : Str} {b : Bool} (h : (Fx.exm x y b).ok file K = true) : PySem.W.exmOne K (.ref (He.ga K x)) (.ref (He.ga K y)) = some b := of_decide_eq_true h
/-- instances of the class answer isinstance -/
structure InsF (K : PySem.W.Frag) (C : Addr) : Prop where
  ha : PySem.W.findIn K (.ref C) "__class__" = some (some (.builtin "object.__class__"))
  hn : PySem.W.specialIn K (.builtin "object.__class__") "__get__" = some (some (.builtin "getset_descriptor.__get__"))
  ht : PySem.W.takesIn K (.builtin "object.__class__") = some true
  hm : PySem.W.mroIn K C (.type "object") = some true
theorem ins_of (h : (Fx.ins x).ok file K = true) : InsF K (He.ga K x) := by
  obtain ⟨h1, h⟩ := He.ba h
  obtain ⟨h2, h⟩ := He.ba h
  obtain ⟨h3, h4⟩ := He.ba h
  exact ⟨He.eqO_ok h1, He.eqO_ok h2, of_decide_eq_true h3, of_decide_eq_true h4⟩
theorem kits_of {xs : List Str} (h : (Fx.kits xs).ok file K = true) : ∀ x ∈ xs, ∀ y ∈ xs, PySem.W.kitOne K (.ref (He.ga K x)) (.ref (He.ga K y)) = some (decide (x = y)) := fun x hx y hy =>
  of_decide_eq_true (List.all_eq_true.mp (List.all_eq_true.mp h x hx) y hy)
theorem kitTo_of {xs : List Str} {b : Tn} (h : (Fx.kitTo xs b).ok file K = true) : ∀ x ∈ xs, PySem.W.kitOne K (.ref (He.ga K x)) (b.v K) = some true := fun x hx => of_decide_eq_true (List.all_eq_true.mp h x hx)
theorem spc_of {m : Str} (h : (Fx.spc x m).ok file K = true) : PySem.W.findIn K (.ref (He.ga K x)) m = some (some (.ref (He.ma K (He.ga K x) m))) ∧ PySem.W.isFn K (.ref (He.ma K (He.ga K x) m)) = true := by
  obtain ⟨h1, h2⟩ := He.ba h
  exact ⟨He.eqO_ok h1, h2⟩
end
/-! ### the Hook -/
abbrev AlS : Type := He.AlD × Bool × List CloV
def obsS (fa : List He.Fa) (fn : List He.DefD) (fx : List Fx) (cl : List CloD) (file : Str) (K : PySem.W.Frag) : AlS := (He.obsD fa fn K, fx.all fun f => f.ok file K, cl.map fun d => cloW K d.x)
def valS (fn : List He.DefD) (cl : List CloD) : AlS := (He.valD fn, true, cl.map CloD.val)
def SaysS (fa : List He.Fa) (fn : List He.DefD) (fx : List Fx) (cl : List CloD) (file : Str) (K : PySem.W.Frag) : Prop := obsS fa fn fx cl file K = valS fn cl
def partS (g : Addr → Option Obj) (n : Nat) : PySem.W.Frag := He.frG g (cStatics :: He.asD g n)
def obsSG (n : Nat) (fa : List He.Fa) (fn : List He.DefD) (fx : List Fx) (cl : List CloD) (file : Str) (g : Addr → Option Obj) : AlS := obsS fa fn fx cl file (partS g n)
def hookS (n : Nat) (fa : List He.Fa) (fn : List He.DefD) (fx : List Fx) (cl : List CloD) (file : Str) : PySem.W.Hook where
  α := AlS
  obs := fun s => obsSG n fa fn fx cl file s.heap.get?
  val := fun _ => valS fn cl
  says := fun _ h => ∃ K : PySem.W.Frag, K.In h ∧ SaysS fa fn fx cl file K
  of := fun _ _ e => ⟨_, He.frG_in, e⟩
  keeps := fun _ _ _ ⟨K, hK, c⟩ k => ⟨K, PySem.W.Frag.In.keeps hK k, c⟩
section
variable {fa : List He.Fa} {fn : List He.DefD} {fx : List Fx} {cl : List CloD} {file : Str} {K : PySem.W.Frag} {n : Nat}
theorem obsSG_eq {g : Addr → Option Obj} {s : Shared} (h : ∀ a, g a = s.heap.get? a) : obsSG n fa fn fx cl file g = (hookS n fa fn fx cl file).obs s := by
  have e : g = s.heap.get? := funext h
  rw [e] <;> rfl
theorem SaysS.d (c : SaysS fa fn fx cl file K) : He.SaysD fa fn K := congrArg (fun z : AlS => z.1) c
theorem SaysS.fact (c : SaysS fa fn fx cl file K) (i : Nat) {f : Fx} (h : fx[i]? = some f := by rfl) : f.ok file K = true :=
  List.all_eq_true.mp (congrArg (fun z : AlS => z.2.1) c : (fx.all fun f => f.ok file K) = true) f (List.mem_of_getElem? h)
theorem SaysS.clo (c : SaysS fa fn fx cl file K) (i : Nat) {d : CloD} (h : cl[i]? = some d := by rfl) : cloW K d.x = d.val := by
  have e : cl.map (fun d => cloW K d.x) = cl.map CloD.val := congrArg (fun z : AlS => z.2.2) c
  have e2 : (cl.map fun d => cloW K d.x)[i]? = (cl.map CloD.val)[i]? := by rw [e]
  rw [List.getElem?_map, List.getElem?_map, h] at e2
  exact Option.some.inj e2
end
end Hm
namespace Hm
open PySem PySem.Spec PyProof.Rows L2
/-! ### facts of the head: tables with text keys, tuples of the module, defaults that are objects -/
abbrev Exf : Type := PySem.W.Frag → Bool
abbrev AlT : Type := AlS × List (Option (List (Option (Str × Int)))) × Bool
def obsX (fa : List He.Fa) (fn : List He.DefD) (fx : List Fx) (cl : List CloD) (ts : List He.Tab) (ex : List Exf) (file : Str) (K : PySem.W.Frag) : AlT := (obsS fa fn fx cl file K, ts.map (fun t => He.dicW K (t.1 K)), ex.all fun f => f K)
def valX (fn : List He.DefD) (cl : List CloD) (ts : List He.Tab) (w : World) : AlT := (valS fn cl, ts.map (fun t => some (He.keysIn w.params t.2)), true)
def SaysX (fa : List He.Fa) (fn : List He.DefD) (fx : List Fx) (cl : List CloD) (ts : List He.Tab) (ex : List Exf) (file : Str) (w : World) (K : PySem.W.Frag) : Prop := obsX fa fn fx cl ts ex file K = valX fn cl ts w
def obsXG (n : Nat) (fa : List He.Fa) (fn : List He.DefD) (fx : List Fx) (cl : List CloD) (ts : List He.Tab) (ex : List Exf) (file : Str) (g : Addr → Option Obj) : AlT := obsX fa fn fx cl ts ex file (partS g n)
def hookX (n : Nat) (fa : List He.Fa) (fn : List He.DefD) (fx : List Fx) (cl : List CloD) (ts : List He.Tab) (ex : List Exf) (file : Str) : PySem.W.Hook where
  α := AlT
  obs := fun s => obsXG n fa fn fx cl ts ex file s.heap.get?
  val := fun w => valX fn cl ts w
  says := fun w h => ∃ K : PySem.W.Frag, K.In h ∧ SaysX fa fn fx cl ts ex file w K
  of := fun _ _ e => ⟨_, He.frG_in, e⟩
  keeps := fun _ _ _ ⟨K, hK, c⟩ k => ⟨K, PySem.W.Frag.In.keeps hK k, c⟩
section
variable {fa : List He.Fa} {fn : List He.DefD} {fx : List Fx} {cl : List CloD} {ts : List He.Tab} {ex : List Exf} {file : Str} {w : World} {K : PySem.W.Frag} {n : Nat}
theorem obsXG_eq {g : Addr → Option Obj} {s : Shared} (h : ∀ a, g a = s.heap.get? a) : obsXG n fa fn fx cl ts ex file g = (hookX n fa fn fx cl ts ex file).obs s := by
  have e : g = s.heap.get? := funext h
  rw [e] <;> rfl
theorem SaysX.s (c : SaysX fa fn fx cl ts ex file w K) : SaysS fa fn fx cl file K := congrArg (fun z : AlT => z.1) c
theorem SaysX.tab (c : SaysX fa fn fx cl ts ex file w K) (i : Nat) {t : He.Tab} (h : ts[i]? = some t := by rfl) : ∃ es n, KDict K w (t.1 K) es n := by
  have e : ts.map (fun t => He.dicW K (t.1 K)) = ts.map fun t => some (He.keysIn w.params t.2) := congrArg (fun z : AlT => z.2.1) c
  have e2 : (ts.map fun t => He.dicW K (t.1 K))[i]? = (ts.map fun t => some (He.keysIn w.params t.2))[i]? := by rw [e]
  rw [List.getElem?_map, List.getElem?_map, h] at e2
  exact He.dicW_ok (Option.some.inj e2)
theorem SaysX.x (c : SaysX fa fn fx cl ts ex file w K) (i : Nat) {f : Exf} (h : ex[i]? = some f := by rfl) : f K = true :=
  List.all_eq_true.mp (congrArg (fun z : AlT => z.2.2) c : (ex.all fun f => f K) = true) f (List.mem_of_getElem? h)
end
/-- a default that is the empty tuple -/
def tup0B (p : PySem.W.Frag → Addr) : Exf := fun K => match K.lookup (p K) with
  | some ⟨.type c, _, .seq its _, _⟩ => decide (c = "tuple") && its.isEmpty
  | _ => false
theorem tup0_ok {p : PySem.W.Frag → Addr} {K : PySem.W.Frag} (h : tup0B p K = true) (H : Hp) : SqT K H (p K) [] := by
  unfold tup0B at h
  cases q : K.lookup (p K) with
  | none =>
    rw [q] at h
    cases h
  | some o =>
    obtain ⟨oc, od, dt, osl⟩ := o
    rw [q] at h
    cases oc with
    | type c =>
      cases dt with
      | seq its n =>
        obtain ⟨h1, h2⟩ := He.ba (show (decide (c = "tuple") && its.isEmpty) = true from h)
        have e : its = #[] := Array.isEmpty_iff.mp h2
        subst e
        exact .inr ⟨_, #[], n, q, congrArg Value.type (of_decide_eq_true h1), rfl, Nat.zero_le _, .nil⟩
      | _ => cases h
    | _ => cases dt <;> cases h
end Hm
namespace K33
open PySem PySem.Spec PyProof.Rows L2
/-! ### the facts: a Step's defaults -/
def dw_Step : List He.Dv := [.adr (He.dflAt ("Step", some "__init__") 0), .str "half", .adr (He.dflAt ("Step", some "__init__") 2), .non]
end K33
namespace K33
open PySem PySem.Spec PyProof.Rows L2 Evl Hm
def fileS : Str := PySem.Challenge.pw_halfmeshes_k33_names.main.file
def topS (i : Nat) : Stmt := PySem.Challenge.pw_halfmeshes_k33_names.main.body.getD i (.Pass ⟨0, 0, 0, 0⟩)
abbrev s_BadLineinit : Stmt := inClass (topS 2) 0
abbrev s_Pathinit : Stmt := inClass (topS 16) 0
abbrev s_Stepinit : Stmt := inClass (topS 18) 0
abbrev s_isword : Stmt := topS 19
abbrev s_readpath : Stmt := topS 21
abbrev s_readstep : Stmt := topS 23
abbrev s_readlet : Stmt := topS 25
abbrev s_readmake : Stmt := topS 26
abbrev s_readdrop : Stmt := topS 27
abbrev s_readnew : Stmt := topS 29
abbrev s_usedhalves : Stmt := topS 34
abbrev s_isname : Stmt := topS 44
abbrev s_Routineinit : Stmt := inClass (topS 45) 0
abbrev s_Scopeinit : Stmt := inClass (topS 46) 0
abbrev s_Scopecanbind : Stmt := inClass (topS 46) 1
abbrev s_Scopecheckuses : Stmt := inClass (topS 46) 2
abbrev s_Scopebind : Stmt := inClass (topS 46) 3
abbrev s_Draftinit : Stmt := inClass (topS 48) 0
abbrev s_readroutine : Stmt := topS 49
abbrev s_routineof : Stmt := topS 50
abbrev s_readhead : Stmt := topS 51
abbrev s_toldnames : Stmt := topS 52
abbrev s_addline : Stmt := topS 53
abbrev s_maystand : Stmt := topS 54
abbrev s_checklabels : Stmt := topS 56
abbrev s_openorclose : Stmt := topS 57
abbrev s_Ltape : Stmt := topS 59
abbrev s_Lpick : Stmt := topS 60
abbrev s_Lreserved : Stmt := topS 61
abbrev s_Lstring : Stmt := topS 62
abbrev s_Lgood : Stmt := topS 63
abbrev s_Ltold : Stmt := topS 64
abbrev s_law : Stmt := topS 65
def cl_BadLine : CloD := ⟨"BadLine", "BadLine.__init__", defArgs s_BadLineinit, defBody s_BadLineinit, defScope s_BadLineinit⟩
def tbd_FORMS : He.Tab := (fun K => He.ga K "FORMS", ["given", "if", "let", "make", "drop", "else", "end", "new", "round", "tell", "call"])
def ts : List He.Tab := [tbd_FORMS]
def ex : List Exf := [(fun K => He.tupB K "HALVES" [.str "half"]),
  (fun K => He.tupB K "LABELS" [.str "face", .str "corner"]),
  (fun K => He.tupB K "ALL_KINDS" [.str "half", .str "face", .str "corner"]),
  (fun K => He.tupB K "LINKS" [.str "next", .str "prev", .str "twin"]),
  (fun K => He.tupB K "AHEAD_OF_LABELS" [.str "let", .str "make", .str "link"]),
  (fun K => He.tupB K "LABEL_ACTIONS" [.str "new", .str "label", .str "round", .str "some"]),
  (fun K => He.tupB K "RESERVED" [.str "routine", .str "script", .str "given", .str "let", .str "make", .str "drop", .str "if", .str "else", .str "end", .str "new", .str "round", .str "tell", .str "call", .str "next", .str "prev", .str "twin", .str "face", .str "corner", .str "some"]),
  (fun K => He.eqO (PySem.W.nsIn K (He.ga K "FORMS") "let") (some (some (.ref (He.ga K "_read_let"))))),
  (fun K => He.eqO (PySem.W.nsIn K (He.ga K "FORMS") "make") (some (some (.ref (He.ga K "_read_make"))))),
  (fun K => He.eqO (PySem.W.nsIn K (He.ga K "FORMS") "drop") (some (some (.ref (He.ga K "_read_drop"))))),
  (fun K => He.eqO (PySem.W.nsIn K (He.ga K "FORMS") "new") (some (some (.ref (He.ga K "_read_new"))))),
  (tup0B (He.dflAt ("Step", some "__init__") 0)),
  (tup0B (He.dflAt ("Step", some "__init__") 2))]
def fnD : List He.DefD := [⟨("Path", some "__init__"), "__init__", "Path.__init__", defArgs s_Pathinit, defBody s_Pathinit, defScope s_Pathinit, [], []⟩,
  ⟨("Step", some "__init__"), "__init__", "Step.__init__", defArgs s_Stepinit, defBody s_Stepinit, defScope s_Stepinit, dw_Step, []⟩,
  ⟨("is_word", none), "is_word", "is_word", defArgs s_isword, defBody s_isword, defScope s_isword, [], []⟩,
  ⟨("read_path", none), "read_path", "read_path", defArgs s_readpath, defBody s_readpath, defScope s_readpath, [], []⟩,
  ⟨("read_step", none), "read_step", "read_step", defArgs s_readstep, defBody s_readstep, defScope s_readstep, [], []⟩,
  ⟨("_read_let", none), "_read_let", "_read_let", defArgs s_readlet, defBody s_readlet, defScope s_readlet, [], []⟩,
  ⟨("_read_make", none), "_read_make", "_read_make", defArgs s_readmake, defBody s_readmake, defScope s_readmake, [], []⟩,
  ⟨("_read_drop", none), "_read_drop", "_read_drop", defArgs s_readdrop, defBody s_readdrop, defScope s_readdrop, [], []⟩,
  ⟨("_read_new", none), "_read_new", "_read_new", defArgs s_readnew, defBody s_readnew, defScope s_readnew, [], []⟩,
  ⟨("_used_halves", none), "_used_halves", "_used_halves", defArgs s_usedhalves, defBody s_usedhalves, defScope s_usedhalves, [], []⟩,
  ⟨("is_name", none), "is_name", "is_name", defArgs s_isname, defBody s_isname, defScope s_isname, [], []⟩,
  ⟨("Routine", some "__init__"), "__init__", "Routine.__init__", defArgs s_Routineinit, defBody s_Routineinit, defScope s_Routineinit, [], []⟩,
  ⟨("Scope", some "__init__"), "__init__", "Scope.__init__", defArgs s_Scopeinit, defBody s_Scopeinit, defScope s_Scopeinit, [], []⟩,
  ⟨("Scope", some "can_bind"), "can_bind", "Scope.can_bind", defArgs s_Scopecanbind, defBody s_Scopecanbind, defScope s_Scopecanbind, [], []⟩,
  ⟨("Scope", some "check_uses"), "check_uses", "Scope.check_uses", defArgs s_Scopecheckuses, defBody s_Scopecheckuses, defScope s_Scopecheckuses, [], []⟩,
  ⟨("Scope", some "bind"), "bind", "Scope.bind", defArgs s_Scopebind, defBody s_Scopebind, defScope s_Scopebind, [], []⟩,
  ⟨("Draft", some "__init__"), "__init__", "Draft.__init__", defArgs s_Draftinit, defBody s_Draftinit, defScope s_Draftinit, [], []⟩,
  ⟨("read_routine", none), "read_routine", "read_routine", defArgs s_readroutine, defBody s_readroutine, defScope s_readroutine, [], []⟩,
  ⟨("routine_of", none), "routine_of", "routine_of", defArgs s_routineof, defBody s_routineof, defScope s_routineof, [], []⟩,
  ⟨("read_head", none), "read_head", "read_head", defArgs s_readhead, defBody s_readhead, defScope s_readhead, [], []⟩,
  ⟨("told_names", none), "told_names", "told_names", defArgs s_toldnames, defBody s_toldnames, defScope s_toldnames, [], []⟩,
  ⟨("_add_line", none), "_add_line", "_add_line", defArgs s_addline, defBody s_addline, defScope s_addline, [], []⟩,
  ⟨("_may_stand", none), "_may_stand", "_may_stand", defArgs s_maystand, defBody s_maystand, defScope s_maystand, [], []⟩,
  ⟨("_check_labels", none), "_check_labels", "_check_labels", defArgs s_checklabels, defBody s_checklabels, defScope s_checklabels, [], []⟩,
  ⟨("_open_or_close", none), "_open_or_close", "_open_or_close", defArgs s_openorclose, defBody s_openorclose, defScope s_openorclose, [], []⟩,
  ⟨("_law_tape", none), "_law_tape", "_law_tape", defArgs s_Ltape, defBody s_Ltape, defScope s_Ltape, [], []⟩,
  ⟨("_law_pick", none), "_law_pick", "_law_pick", defArgs s_Lpick, defBody s_Lpick, defScope s_Lpick, [], []⟩,
  ⟨("_law_reserved", none), "_law_reserved", "_law_reserved", defArgs s_Lreserved, defBody s_Lreserved, defScope s_Lreserved, [], []⟩,
  ⟨("_law_string", none), "_law_string", "_law_string", defArgs s_Lstring, defBody s_Lstring, defScope s_Lstring, [], []⟩,
  ⟨("_law_good", none), "_law_good", "_law_good", defArgs s_Lgood, defBody s_Lgood, defScope s_Lgood, [], []⟩,
  ⟨("_law_told", none), "_law_told", "_law_told", defArgs s_Ltold, defBody s_Ltold, defScope s_Ltold, [], []⟩,
  ⟨("law", none), "law", "law", defArgs s_law, defBody s_law, defScope s_law, [], []⟩]
def fa : List He.Fa := [.free "len", .free "abs", .free "int", .free "all", .free "isinstance", .free "range", .free "bool", .free "tuple", .free "dict", .free "super", .free "set", .free "ValueError", .glo "MeshError", .glo "BadLine", .glo "UnknownName", .glo "WrongKind", .glo "Path", .cls "Path", .mkr "Path", .glo "Step", .cls "Step", .mkr "Step", .glo "Routine", .cls "Routine", .mkr "Routine", .glo "Scope", .cls "Scope", .mkr "Scope", .glo "Block", .glo "Draft", .cls "Draft", .mkr "Draft", .str "HALF" "half", .str "SIGNS" "abcdefghijklmnopqrstuvwxyz0123456789", .str "DIGITS" "0123456789", .int "MOST_LINKS" 4, .int "MOST_SIGNS" 8, .int "MOST_HALVES" 3, .int "MOST_LINES" 60, .int "MOST_BLOCKS" 3, .glo "HALVES", .glo "LABELS", .glo "ALL_KINDS", .glo "LINKS", .glo "RESERVED", .glo "AHEAD_OF_LABELS", .glo "LABEL_ACTIONS", .glo "FORMS", .glo "is_word", .glo "read_path", .glo "read_step", .glo "_read_let", .glo "_read_make", .glo "_read_drop", .glo "_read_new", .glo "_used_halves", .glo "is_name", .meth "Scope" "can_bind", .meth "Scope" "check_uses", .meth "Scope" "bind", .glo "read_routine", .glo "routine_of", .glo "read_head", .glo "told_names", .glo "_add_line", .glo "_may_stand", .glo "_check_labels", .glo "_open_or_close", .glo "_law_tape", .glo "_law_pick", .glo "_law_reserved", .glo "_law_string", .glo "_law_good", .glo "_law_told", .noat "BadLine" "line", .noat "Path" "name", .noat "Path" "links", .noat "Path" "kind", .noat "Step" "action", .noat "Step" "news", .noat "Step" "kind", .noat "Step" "uses", .noat "Step" "used", .noat "Step" "detail", .noat "Routine" "name", .noat "Routine" "halves", .noat "Routine" "told", .noat "Routine" "lines", .noat "Routine" "steps", .noat "Routine" "jumps", .noat "Scope" "kinds", .noat "Draft" "scope", .noat "Draft" "steps", .noat "Draft" "jumps", .noat "Draft" "blocks", .noat "Draft" "has_labels", .glo "law"]
def fx : List Fx := [.sup "BadLine", .exc "BadLine", .exm "BadLine" "BadLine" true, .kit (.own "BadLine") (.own "MeshError") true, .kit (.own "BadLine") (.ty "ValueError") true]
def cl : List CloD := [cl_BadLine]
def pg : List PgD := []
abbrev RR : PySem.W.OpenRow := PySem.W.OpenLaw.row PySem.Challenge.rw_halfmeshes_k33_names
abbrev hk : PySem.W.Hook := hookX 6 fa fnD fx cl ts ex fileS
def ob (s : PySem.W.SharedT) : AlT := obsXG 6 fa fnD fx cl ts ex fileS (HandSHeadRun.getT s)
theorem ob_hk (s : PySem.W.SharedT) : ob s = hk.obs s.abs := obsXG_eq (HandSHeadRun.getT_eq s)
def lse : List Str := (["MeshError", "BadLine", "UnknownName", "WrongKind", "HALF", "HALVES", "LABELS", "ALL_KINDS", "LINKS", "WRITTEN_LINKS", "MOST_LINKS", "MOST_TOLD", "MOST_SIGNS", "SIGNS", "Path", "Condition", "Step", "is_word", "are_words", "read_path"] : List Str) ++ (["read_condition", "read_step", "_read_asking", "_read_let", "_read_make", "_read_drop", "_read_bare", "_read_new", "_read_round", "_read_tell", "_read_call", "_read_write", "_used_halves", "FORMS", "RESERVED", "DIGITS", "MOST_HALVES", "MOST_LINES", "MOST_BLOCKS", "AHEAD_OF_LABELS"] : List Str) ++ (["LABEL_ACTIONS", "is_name", "Routine", "Scope", "Block", "Draft", "read_routine", "routine_of", "read_head", "told_names", "_add_line", "_may_stand", "_has_path", "_check_labels", "_open_or_close", "_law_tape", "_law_pick", "_law_reserved", "_law_string", "_law_good"] : List Str) ++ (["_law_told"] : List Str)
theorem top_f (w : World) : HandSHeadRun.RunEq RR (PySem.W.view RR.prog [65]) hk ob 9000 lse (w.withFollow "special-get-raises" false) := by
  intro os
  kernel_rfl
theorem top_t (w : World) : HandSHeadRun.RunEq RR (PySem.W.view RR.prog [65]) hk ob 9000 lse (w.withFollow "special-get-raises" true) := by
  intro os
  kernel_rfl
theorem top_run (w : World) : HandSHeadRun.RunEq RR (PySem.W.view RR.prog [65]) hk ob 9000 lse w := PySem.W.byRow2 "special-get-raises" (P := fun w => HandSHeadRun.RunEq RR (PySem.W.view RR.prog [65]) hk ob 9000 lse w) top_f top_t w
end K33
namespace Hm
open PySem PySem.Spec PyProof.Rows L2 Evl
/-! ### a, *b = a list -/
def gStar (K : PySem.W.Frag) (n : Nat) (t : TGs) : TG := fun v σ H Q => ∃ a xs, v = .ref a ∧ SqL K H a xs ∧ n ≤ xs.length ∧ xs.length ≤ 16000 ∧ ∀ l, H l = none → t (xs.take n ++ [.ref l]) σ (upd H l (.lst (xs.drop n))) Q
theorem vals_take {n : Nat} : ∀ {xs : List V} {us : List Value}, Vals xs us → Vals (xs.take n) (us.take n) := by
  induction n with
  | zero =>
    intro xs us _
    exact .nil
  | succ n ih =>
    intro xs us r
    cases r with
    | nil => exact .nil
    | cons a r => exact .cons a (ih r)
theorem vals_drop {n : Nat} : ∀ {xs : List V} {us : List Value}, Vals xs us → Vals (xs.drop n) (us.drop n) := by
  induction n with
  | zero =>
    intro xs us r
    exact r
  | succ n ih =>
    intro xs us r
    cases r with
    | nil => exact .nil
    | cons a r => exact ih r
theorem vals_app : ∀ {xs ys : List V} {us ws : List Value}, Vals xs us → Vals ys ws → Vals (xs ++ ys) (us ++ ws)
  | _, _, _, _, .nil, r => r
  | _, _, _, _, .cons a r, r' => .cons a (vals_app r r')
section
variable {prog : Program} {w : World} {A : Around} {E : Value → Shared → Prop} {s : Shared}
theorem star_list {l : Addr} {items : Array Value} {i : Nat} {Q : List Value → Shared → Prop} (hl : s.heap.IsList l items) (hh : A.handled = none) (hi : i ≤ items.size) (hz : items.size ≤ 16000)
    (h : ∀ (h' : Heap) (tk : Nat), (∀ b o, s.heap.get? b = some o → h'.get? b = some o) → Q (items.toList.take i ++ [.ref h'.objs.size]) { s with heap := h'.push { cls := .type "list", data := .seq (items.toList.drop i).toArray }, toks := tk }) :
    wpAny (model prog w) A (unpackItems (.ref l) (i + 1) (some i)) Q E s := by
  have hlt : l ≠ s.heap.objs.size := by
    obtain ⟨o, ho, _⟩ := hl
    exact Nat.ne_of_lt (Heap.lt_size ho)
  unfold unpackItems
  refine wpAny_bind ?_
  unfold notIterableAtAll
  refine wpAny_bind (wpAny_specialOf hl.typeIs slot_list_iter.lookup (wpAny_pure ?_))
  simp only [Bool.false_eq_true, if_false]
  refine wpAny_bind (wpAny_holding (wpAny_pyIter_list hl ?_))
  refine wpAny_bind (wpAny_holding (PySem.W.kun_draw hlt i 0 _ _ ⟨_, Heap.get?_push_size _ rfl, rfl, rfl⟩ (hl.push _) (by omega) fun h1 it1 sb => ?_))
  have hl1 : h1.IsList l items := (hl.push _).extBut sb.extBut hlt
  rw [Nat.zero_add] at it1
  have hI : s.heap.objs.size < h1.objs.size := by
    obtain ⟨o, ho, _⟩ := id it1
    exact Heap.lt_size ho
  have hL : l < h1.objs.size := by
    obtain ⟨o, ho, _⟩ := id hl1
    exact Heap.lt_size ho
  rw [List.drop_zero]
  have hf : (items.toList.take i).length = i := by
    rw [List.length_take, Array.length_toList]
    omega
  rw [if_neg (show ¬ ((items.toList.take i).length < i) by rw [hf]; omega)]
  refine wpAny_bind (wpAny_holding (PySem.W.kun_collect (s := { s with heap := h1 }) (T := "list_iterator") (.inr (.inr (.inl rfl))) (Walks.list (A := A.in1) hh s.heap.objs.size l hlt items) (fun j u st => st.1.typeIs) hi ⟨it1, hl1⟩ hI hL (fun h2 tk hk => ?_) (by rw [sizeLine_eq]; omega)))
  have hd : (items.toList.drop i).length = items.size - i := by rw [List.length_drop, Array.length_toList]
  have e0 : i + 1 - 1 - i = 0 := by omega
  show wpAny _ _ (if (items.toList.drop i).length < i + 1 - 1 - i then _ else _) _ _ _
  rw [e0, if_neg (Nat.not_lt_zero _)]
  show wpAny _ _ (newList ((items.toList.drop i).take ((items.toList.drop i).length - 0)) >>= fun d => pure (items.toList.take i ++ [d] ++ (items.toList.drop i).drop ((items.toList.drop i).length - 0))) _ _ _
  rw [Nat.sub_zero, List.take_length, List.drop_length]
  refine wpAny_bind (wpAny_newList (wpAny_pure ?_) (by rw [hd, sizeLine_eq]; omega))
  rw [List.append_nil]
  exact h h2 tk fun b o e => hk b o (Nat.ne_of_lt (Heap.lt_size e)) (sb.extBut b o (Nat.ne_of_lt (Heap.lt_size e)) (Heap.get?_push_of_some _ e))
end
section
variable {X : Cx} {pos : Pos}
theorem pg_star {es : List Expr} {k : Nat} {t : TGs} {n : Nat} (hc : X.calm = true) (h : PGs X es t)
    (hn : (assignEach es X.env).length = n + 1 := by rfl) (hst : (assignEach es X.env).findIdx? (·.1) = some n := by rfl) : PG X (.Tuple es k pos) (gStar X.K n t) := by
  refine ⟨fun pins s σ H v u Q I r hw => ?_⟩
  obtain ⟨a, xs, e1, hq, hl, hz, hw⟩ := hw
  subst e1
  cases r
  obtain ⟨its, rv, pl, _⟩ := I.list hq
  have e : its.toArray.size = xs.length := by simp [← rv.length]
  rw [PyProof.Rows.assign_Tuple]
  refine wpAny_bind (wpAny_standAt ?_)
  unfold unpack
  rw [hn, hst]
  refine wpAny_bind (wpAny_holding (star_list pl.isList (I.ok.hd hc) (by omega) (by omega) fun h' tk hk => ?_))
  have I1 : Inv X pins σ H { s with heap := h', toks := tk } := I.kept hk
  have I2 : Inv X pins σ (upd H h'.objs.size (.lst (xs.drop n))) { s with heap := h'.push { cls := .type "list", data := .seq (its.drop n).toArray }, toks := tk } :=
    I1.laid (t' := tk) (fun b o e => Heap.get?_push_of_some _ e) (Nat.le_refl _) (show ObjOk X.prog X.w _ _ _ (.lst (xs.drop n)) from ⟨by rw [List.length_drop, sizeLine_eq]; omega, its.drop n, 0, vals_drop rv, Heap.get?_push_size _ rfl⟩)
  exact h.run pins _ σ _ (xs.take n ++ [.ref h'.objs.size]) _ Q I2 (vals_app (vals_take rv) (.cons (show RelV (.ref h'.objs.size) (.ref h'.objs.size) from rfl) .nil)) (hw _ (I1.hok.fresh (Nat.le_refl _)))
theorem pgs_last {e : Expr} {t : TG} (h : PG X e t) : PGs X [.Starred e pos] (gCons t gNil) := by
  refine ⟨fun pins s σ H vs us Q I r hw => ?_⟩
  obtain ⟨v, vr, e1, hw⟩ := hw
  subst e1
  cases r with
  | cons r rr =>
    show wpAny _ _ (assignInOrder [assign e X.env] _) _ _ _
    refine assignInOrder_cons (thn (h.run pins s σ H _ _ _ I r hw) fun _ s1 ⟨σ1, H1, I1, q1⟩ => ?_)
    obtain ⟨e2, q1⟩ := q1
    subst e2
    cases rr
    exact assignInOrder_nil ⟨σ1, H1, I1, q1⟩
end
end Hm
/-! len(set(xs)), xs texts of any number -/
namespace Hm
open PySem PySem.Spec PyProof.Rows
/-- how many of the first i differ -/
def cntD (xs : List Str) : Nat → Nat
  | 0 => 0
  | i + 1 => if (xs.take i).any (· == xs.getD i Str.empty) then cntD xs i else cntD xs i + 1
theorem cntD_le (xs : List Str) : ∀ i, cntD xs i ≤ i
  | 0 => Nat.le_refl _
  | i + 1 => by
    have h := cntD_le xs i
    unfold cntD
    split
    · exact Nat.le_succ_of_le h
    · exact Nat.succ_le_succ h
section
variable {prog : Program} {w : World} {A : Around} {R : Result → Shared → Prop} {I : Addr} {fp wr : List Addr} {G : Array GenState → Array GenState → Prop} {n : Nat} {P : Nat → Value → Prop} {St : Nat → Shared → Prop}
abbrev SetI (prog : Program) (w : World) (h : Heap) (S : Addr) (xs : List Str) (i : Nat) : Prop := h.SetOf (PySem.strKind prog w) S (fun k => (xs.take i).any (· == k)) (cntD xs i)
theorem loopD (W : WalksS prog w A.in1 I fp wr G n P St) (S : Addr) (hS0 : S ∉ fp) (xs : List Str) (hsz : xs.length = n) (hb : n + 1 < scanBound) (hval : ∀ i v, P i v → ∃ t, v = .str (xs.getD i Str.empty) t) :
    ∀ (k i : Nat) (s : Shared), n - i = k → i ≤ n → St i s → SetI prog w s.heap S xs i → (∀ s', Moved (S :: wr) G s s' → SetI prog w s'.heap S xs n → R (.ok (.ret .none)) s') →
      codeAny (model prog w) A (.builtin "set.update.loop" ⟨[.ref S, .ref I], []⟩) R s := by
  have hw : S ∉ wr := fun h => hS0 (W.sub _ h)
  have up : ∀ b ∈ wr, b ∈ S :: wr := fun b hb => List.mem_cons_of_mem _ hb
  have carry : ∀ {s s' : Shared} {i : Nat}, Moved wr G s s' → SetI prog w s.heap S xs i → SetI prog w s'.heap S xs i := fun hm ⟨o, es, ep, t, ho, r⟩ => ⟨o, es, ep, t, hm.heap S _ hw ho, r⟩
  intro k
  induction k with
  | zero =>
    intro i s hk hi hst hS hR
    obtain rfl : i = n := by omega
    refine codeAny_builtin PyProof.Rows.F.entry_set_update_loop ?_
    rw [Around.under_plainId PyProof.Rows.F.plain_set_update_loop _]
    show wpAny _ A.in1 (pyNext (.ref I) >>= _) _ _ s
    refine wpAny_bind (W.done s _ _ hst fun s' hm => ?_)
    show wpAny _ A.in1 (ret Value.none) _ _ s'
    exact wpAny_pure (hR s' (hm.mono up) (carry hm hS))
  | succ k ih =>
    intro i s hk hi hst hS hR
    have hlt : i < n := by omega
    refine codeAny_builtin PyProof.Rows.F.entry_set_update_loop ?_
    rw [Around.under_plainId PyProof.Rows.F.plain_set_update_loop _]
    show wpAny _ A.in1 (pyNext (.ref I) >>= _) _ _ s
    refine wpAny_bind (W.item i s _ _ hlt hst fun v s' hP hst' hm => ?_)
    obtain ⟨t, rfl⟩ := hval i v hP
    have hS' := carry hm hS
    show wpAny _ A.in1 (holding [Value.str (xs.getD i Str.empty) t] (setAdd S (.str (xs.getD i Str.empty) t)) >>= _) _ _ s'
    refine wpAny_bind (wpAny_holding ?_)
    unfold setAdd
    refine wpAny_holding (wpAny_bind ((PySem.strKind prog w).pyHash (k := xs.getD i Str.empty) (strKind_is _ _ _ _) ?_))
    refine wpAny_setAddHashed_of (knd := PySem.strKind prog w) (s := { s' with toks := s'.toks + 1 }) (strKind_is _ _ _ _) rfl hS' (by have := cntD_le xs i; omega) fun h' sb hS2 => ?_
    have hSi : SetI prog w h' S xs (i + 1) := by
      refine SetOf_congr hS2 (fun k' => ?_) rfl
      have hx : xs[i]? = some (xs.getD i Str.empty) := by
        rw [List.getD_eq_getElem?_getD, List.getElem?_eq_getElem (by omega)] <;> rfl
      rw [List.take_add_one, hx, List.any_append]
      show (_ || decide (k' = xs.getD i Str.empty)) = (_ || [xs.getD i Str.empty].any (· == k'))
      congr 1
      by_cases e : k' = xs.getD i Str.empty
      · rw [← e]
        simp
      · have hb : (xs.getD i Str.empty == k') = false := by simpa [beq_iff_eq] using fun h2 : xs.getD i Str.empty = k' => e h2.symm
        rw [decide_eq_false e]
        show false = ((xs.getD i Str.empty == k') || false)
        rw [hb] <;> rfl
    refine wpAny_pure ⟨plainId_quiet PyProof.Rows.F.plain_set_update_loop _, ih (i + 1) _ (by omega) hlt (W.frame _ s' _ _ hst' (Nat.le_succ _) fun b hb o e => ?_) hSi fun s'' hm2 hS3 => ?_⟩
    · rw [sb.2 b (fun h : b = S => hS0 (h ▸ hb))]
      exact e
    · refine hR s'' (Moved.trans W.gtrans ((hm.mono up).then_heap (Nat.le_succ _) fun b o hb e => ?_) hm2) hS3
      rw [sb.2 b (fun h : b = S => hb (h ▸ List.mem_cons_self))]
      exact e
end
section
variable {prog : Program} {w : World} {A : Around} {E : Value → Shared → Prop} {s : Shared}
/-- what set(l) leaves behind -/
def SetPost (prog : Program) (w : World) (s : Shared) (xs : List Str) (n : Nat) (h' : Heap) : Prop := SetI prog w h' s.heap.objs.size xs n ∧ ∀ b o, b < s.heap.objs.size → s.heap.get? b = some o → h'.get? b = some o
abbrev freshS (led : Bool) : Obj := { cls := .type "set", dict := none, data := .set #[] 0 (.fresh 0 0 led) }
theorem set_from {T Ti : String} {l : Addr} {items : Array Value} {xs : List Str} {Q : Value → Shared → Prop} {o : Obj} {nl : Nat} (hh : A.handled = none) (ho : s.heap.get? l = some o) (hcl : o.cls = .type T) (hdat : o.data = .seq items nl)
    (hsub1 : isSubtype (.type T) (.type "set") = pure false) (hsub2 : isSubtype (.type T) (.type "frozenset") = pure false) (hnd : (Value.type T == Value.type "dict") = false) (hi : PyProof.Rows.StrsAre items.toList xs) (hn : items.size + 1 < scanBound)
    (hit : ∀ {A2 : Around} {E2 : Value → Shared → Prop} {s2 : Shared} {Q2 : Value → Shared → Prop}, s2.heap.get? l = some o → Q2 (.ref s2.heap.objs.size) { s2 with heap := s2.heap.push { cls := .type Ti, data := .fields #[.ref l, .int 0 0] } } → wpAny (model prog w) A2 (pyIter (.ref l)) Q2 E2 s2)
    (hW : ∀ {A2 : Around} (I : Addr) (g : Heap), A2.handled = none → l ≠ I → ∃ St : Nat → Heap → Prop, Nonempty (Walks prog w A2 I [I, l] [I] items.size (fun i v => items[i]? = some v) St) ∧ ∀ h2 : Heap, h2.get? I = some { cls := .type Ti, data := .fields #[.ref l, .int 0 0] } → h2.get? l = some o → St 0 h2)
    (h : ∀ (h' : Heap) (tk : Nat), SetPost prog w s xs items.size h' → Q (.ref s.heap.objs.size) { s with heap := h', toks := tk }) :
    wpAny (model prog w) A (call (.type "set") [.ref l]) Q E s := by
  obtain ⟨c, tl, hmro⟩ := PySem.F.called_set.mro
  have hmade := PySem.F.called_set.made
  have hsub := PySem.F.called_set.sub
  refine wpAny_call (codeAny_of_tree ?_)
  show wpAny _ _ (callAny (.type "set") _) _ _ _
  refine wpAny_pure ⟨Code.quiet_builtin _ (by decide +kernel), codeAny_builtin PySem.F.entry_type_call ?_⟩
  rw [Around.under_plain (weight_type_call_type "set" [.ref l] []) rfl]
  have h1 := PySem.F.called_set.notType
  have h2 := PySem.F.called_set.canCreate
  have hct := PySem.F.typeCall_set_1 (.ref l)
  repeat (any_goals (first | assumption | wp_step))
  refine codeAny_mono (code_set_new_1 (.ref l) (E := E) (Q₁ := fun obj s1 => ∃ led : Bool, obj = .ref s.heap.objs.size ∧ s1 = { s with heap := s.heap.push (freshS led) }) fun led => ⟨led, rfl, rfl⟩) fun r s1 hr => ?_
  cases r with
  | error e => exact hr
  | ok fl =>
    cases fl with
    | ret obj =>
      obtain ⟨led, rfl, rfl⟩ := hr
      have hS : (s.heap.push (freshS led)).get? s.heap.objs.size = some (freshS led) := Heap.get?_push_size _ rfl
      have hT : Shared.TypeIs { s with heap := s.heap.push (freshS led) } (.ref s.heap.objs.size) "set" := ⟨_, hS, rfl⟩
      have hli := PySem.F.called_set.init.lookup
      have hbi := PySem.F.called_set.init.bind (.ref s.heap.objs.size)
      repeat (any_goals (first | assumption | wp_step))
      refine codeAny_mono (codeAny_call_builtin (R := wants (fun r s2 => r = .none ∧ ∃ h' tk, s2 = { s with heap := h', toks := tk } ∧ SetPost prog w s xs items.size h') E) PySem.F.called_set.init.plain PySem.F.entry_set_init (check_set_init_1 hT ?_)) fun r2 s2 hr2 => ?_
      · have ho1 : (s.heap.push (freshS led)).get? l = some o := Heap.get?_push_of_some _ ho
        have hty : Shared.TypeIs { s with heap := s.heap.push (freshS led) } (.ref l) T := ⟨o, ho1, hcl⟩
        unfold Builtin.«set.__init__» noKeywords Builtin.Frozenset.updateFrom
        generalize hPI : pyIter = PI
        obtain ⟨ocls, odict, odata, oslots⟩ := o
        simp only at hcl hdat
        subst hcl
        subst hdat
        wp_walk
        subst hPI
        refine hit ho1 ?_
        refine wpAny_bind (wpAny_runValue ?_)
        have hlS : l < s.heap.objs.size := Heap.lt_size ho
        have eI : (s.heap.push (freshS led)).objs.size = s.heap.objs.size + 1 := Heap.size_push ..
        obtain ⟨St, ⟨W⟩, hst⟩ := hW (A2 := A.in1.in1.in1) (s.heap.push (freshS led)).objs.size s.heap (by simp [hh]) (by rw [eI]; exact Nat.ne_of_lt (Nat.lt_succ_of_lt hlS))
        refine loopD W.toS s.heap.objs.size (by rw [eI]; simp only [List.mem_cons, List.not_mem_nil, or_false, not_or]; exact ⟨Nat.ne_of_lt (Nat.lt_succ_self _), Nat.ne_of_gt hlS⟩) xs (by rw [← StrsAre.len_eq hi, Array.length_toList]) hn (fun i v hv => SS.strs_at hi i v (by rw [Array.getElem?_toList]; exact hv)) (items.size - 0) 0 _ (by omega) (Nat.zero_le _)
          (hst _ (Heap.get?_push_size _ rfl) (Heap.get?_push_of_some _ ho1)) ?hS0 ?hR
        case hS0 =>
          have hget : ((s.heap.push (freshS led)).push { cls := .type Ti, data := .fields #[.ref l, .int 0 0] }).get? s.heap.objs.size = some (freshS led) := Heap.get?_push_of_some _ hS
          exact PyProof.Rows.SetOf_congr ((PyProof.Rows.setObjOf_fresh (knd := PySem.strKind prog w) led).setOf hget (by unfold scanBound; omega)) (fun _ => rfl) rfl
        case hR =>
          intro s' hm hS'
          obtain ⟨h', g', d', tk', os'⟩ := s'
          obtain rfl : g' = s.gens := hm.gens
          obtain rfl : d' = s.drawn := hm.drawn
          obtain rfl : os' = s.os := hm.os
          show wpAny _ _ _ _ _ _
          refine wpAny_pure ?_
          show wpAny _ _ (ret Value.none) _ _ _
          refine wpAny_pure ⟨rfl, h', tk', rfl, hS', fun b ob hb e => ?_⟩
          refine hm.heap b ob ?_ (Heap.get?_push_of_some _ (Heap.get?_push_of_some _ e))
          rw [eI]
          simp only [List.mem_cons, List.not_mem_nil, or_false, not_or]
          exact ⟨Nat.ne_of_lt hb, Nat.ne_of_lt (Nat.lt_succ_of_lt hb)⟩
      · cases r2 with
        | error e => exact hr2
        | ok f2 =>
          cases f2 with
          | ret r =>
            obtain ⟨rfl, h', tk, rfl, hS'⟩ := hr2
            repeat (any_goals (first | assumption | wp_step))
            exact h _ _ hS'
          | _ => exact hr2.elim
    | _ => exact hr.elim
end
namespace PSet
open PySem PySem.Spec PyProof.Rows L2
/-- len(set(xs)), xs a list or tuple of texts -/
def tLenD (K : PySem.W.Frag) (ta : TE) : TE := fun σ H Q => ta σ H fun x H1 => ∃ l, ∃ xs : List Str, x = .ref l ∧ (SqL K H1 l (xs.map V.str) ∨ SqT K H1 l (xs.map V.str)) ∧ xs.length ≤ 1000 ∧ Q (.int (cntD xs xs.length : Nat)) H1
theorem sub_tl : isSubtype (.type "tuple") (.type "set") = pure false := by rw [isSubtype_type]; kernel_rfl
theorem sub_tf : isSubtype (.type "tuple") (.type "frozenset") = pure false := by rw [isSubtype_type]; kernel_rfl
section
variable {X : Cx}
theorem pe_lenD {a : Expr} {ta : TE} {p p2 q pos : Pos} (hc : X.calm = true) (hg : Gl X "len") (hm : X.mg "len" = none) (hg2 : Gl X "set") (hm2 : X.mg "set" = none) (ha : PE X a ta)
    (na : starEach [a] X.env = (false, eval a X.env) :: starEach [] X.env := by rfl) : PE X (.Call (.Name "len" p) [.Call (.Name "set" p2) [a] [] q] [] pos) (tLenD X.K ta) := by
  refine ⟨fun pins s σ H Q I h => ?_⟩
  refine Call_ (ld_blt I hg hm PySem.boot_len ?_)
  refine PyProof.Rows.callWith_builtin1 (PyProof.Rows.args_cons ?_ rfl) rfl rfl
  refine Call_ (ld_blt I hg2 hm2 PyProof.Rows.boot_set ?_)
  refine PyProof.Rows.callWith_type1 (PyProof.Rows.args_cons (thn (ha.run pins s σ H _ I h) fun v s1 ⟨x, H1, I1, r1, q1⟩ => PyProof.Rows.args_nil ?_) na) na rfl
  obtain ⟨l, xs, rfl, hq, h1, q1⟩ := q1
  cases r1
  have fin : ∀ (its : List Value), Vals (xs.map V.str) its → ∀ (h' : Heap) (tk : Nat), SetPost X.prog X.w s1 xs its.toArray.size h' →
      wpAny (model X.prog X.w) X.A (spliced (backTo pos (starEach [] X.env))) (fun vs s2 => wpAny (model X.prog X.w) X.A (call (.builtin "len") (Value.ref s1.heap.objs.size :: vs)) (EP X pins σ Q) X.xe s2) X.xe { s1 with heap := h', toks := tk } := fun its r h' tk ⟨hS, hk⟩ => by
    refine PyProof.Rows.args_nil ?_
    have hl : its.toArray.size = xs.length := by rw [List.size_toArray, ← r.length, List.length_map]
    rw [hl] at hS
    obtain ⟨o, es, ep, t, ho, hex, hd, _, _, _, hf, hn⟩ := hS
    have I2 : Inv X pins σ H1 { s1 with heap := h', toks := tk } := I1.kept fun b o e => hk b o (Heap.lt_size e) e
    exact call_len_set ho hex hd hf (by rw [hn]; have := cntD_le xs xs.length; omega) ⟨.int (cntD xs xs.length : Nat), H1, I2.tok _, ⟨_, by rw [hn]⟩, q1⟩
  have small : ∀ (its : List Value), Vals (xs.map V.str) its → its.toArray.size + 1 < scanBound := fun its r => by
    have : its.toArray.size = xs.length := by rw [List.size_toArray, ← r.length, List.length_map]
    rw [this]
    unfold scanBound
    omega
  rcases hq with hq | hq
  · obtain ⟨its, r, pl, hz⟩ := I1.list hq
    obtain ⟨o, n, ho, hcl, hdd, hdat⟩ := pl
    refine set_from (T := "list") (Ti := "list_iterator") (I1.ok.hd hc) ho hcl hdat PySem.F.sub_list_set PySem.F.sub_list_frozenset (by decide) (by simpa using strsAre_of r) (small its r) (fun e q => wpAny_pyIter_list ⟨o, e, hcl, n, hdat⟩ q) (fun {A2} I g hA hne => ?_) fun h' tk hS => fin its r h' tk hS
    exact ⟨_, ⟨Walks.list hA I l hne its.toArray⟩, fun h2 e1 e2 => ⟨⟨_, e1, rfl, rfl⟩, ⟨o, e2, hcl, n, hdat⟩⟩⟩
  · obtain ⟨its, r, pl, hz⟩ := I1.tuple hq
    obtain ⟨o, ho, hcl, n, hdat⟩ := pl
    refine set_from (T := "tuple") (Ti := "tuple_iterator") (I1.ok.hd hc) ho hcl hdat sub_tl sub_tf (by decide) (by simpa using strsAre_of r) (small its r) (fun e q => wpAny_pyIter_tuple ⟨o, e, hcl, n, hdat⟩ q) (fun {A2} I g hA hne => ?_) fun h' tk hS => fin its r h' tk hS
    exact ⟨_, ⟨Walks.tuple hA I l hne its.toArray⟩, fun h2 e1 e2 => ⟨⟨_, e1, rfl, rfl⟩, ⟨o, e2, hcl, n, hdat⟩⟩⟩
end
end PSet
end Hm
namespace Hm
open PySem PySem.Spec PyProof.Rows L2 Evl
/-! ### a table of the module with text keys -/
abbrev rInK (K : PySem.W.Frag) (d : Addr) : R2 := fun x y H Q => ∃ (z : Str) (r : Option Value), x = .str z ∧ y = .ref d ∧ PySem.W.nsIn K d z = some r ∧ Q (.bl r.isSome) H
abbrev rIxK (K : PySem.W.Frag) (d : Addr) : R2 := fun x y H Q => ∃ (z : Str) (u0 : Value) (v0 : V), x = .ref d ∧ y = .str z ∧ PySem.W.nsIn K d z = some (some u0) ∧ RelV v0 u0 ∧ Q v0 H
section
variable {X : Cx} {d : Addr} {es : Array DictEntry} {n : Nat}
theorem ix_kd (D : KDict X.K X.w d es n) : IxR X (rIxK X.K d) := by
  intro value slice pins s σ H x y v u Q I rx ry h hs
  have hT := kd_type D I
  obtain ⟨z, u0, v0, rfl, rfl, e, r, q⟩ := h
  cases rx
  obtain ⟨t, rfl⟩ := ry
  refine tail_any hT PySem.F.slot_dict_getitem.lookup ?_ hs
  exact wpAny_getItem_of (PySem.strKind_is X.prog X.w z t) (PySem.W.mapOf_K (prog := X.prog) I.kIn D.at_ D.lit) (PySem.W.find_K D.at_ e) ⟨v0, H, I.tok _, r, q⟩
end
end Hm
namespace Hm
open PySem PySem.Spec PyProof.Rows L2 Evl
/-! ### an empty list is false; pop -/
def tTruL (K : PySem.W.Frag) (te : TE) : TT := fun σ H Q => te σ H fun x H' => ∃ k, TruV K x H' k ∧ Q k H'
theorem pt_truL {X : Cx} {e : Expr} {te : TE} (he : PE X e te) (hp : ∀ whole, isTrue e X.env whole = (do let v ← whole; standAt e.pos; holding [v] (truthy v)) := by intro _; rfl) : PT X e (tTruL X.K te) := pt_truth he hp
theorem et_truL {K : PySem.W.Frag} {σ : L2.St} {H : Hp} {te : TE} {p : Addr} {xs : List V} (h : Ev te σ H (.ref p)) (hS : SqL K H p xs) : EvT (tTruL K te) σ H (!xs.isEmpty) := fun H1 e Q q =>
  h H1 e _ fun H2 e2 => ⟨_, .inl ⟨xs, ex_l (e.trans e2) hS, rfl⟩, q H2 e2⟩
theorem q_pop {K : PySem.W.Frag} {σ : L2.St} {H : Hp} {te : TE} {tz : TS} {D : Ends} {i : Nat} {l : Addr} {xs : List V} {y : V} (h : Ev te σ H (.ref l)) (hl : H l = some (.lst (xs ++ [y]))) (k : ∀ H1, Ex H H1 → tz D (σ.set i (some y)) (upd H1 l (.lst xs))) :
    tSeq (tAsg (tBM0 K "list" rPop te) (gName i)) tz D σ H := h H (Ex.refl H) _ fun H1 e1 =>
  ⟨Or.inl ⟨rfl, _, sq_of (e1 _ _ hl)⟩, l, _, y, rfl, rfl, e1 _ _ hl, by simp, by rw [List.dropLast_concat]; exact k H1 e1⟩
abbrev rIsNon : R2 := fun x y H Q => y = .non ∧ Q (.bl (decide (x = .non))) H
abbrev rNotNon : R2 := fun x y H Q => y = .non ∧ Q (.bl (!decide (x = .non))) H
abbrev cTup (K : PySem.W.Frag) : CR1 := fun xs H Q => ∃ p ys, xs = [.ref p] ∧ ((SqL K H p ys ∧ ∀ l, H l = none → Q (.ref l) (upd H l (.tup ys))) ∨ (SqT K H p ys ∧ Q (.ref p) H))
end Hm
namespace Hm
open PySem PySem.Spec PyProof.Rows L2 Evl
/-! ### a name that holds one of several defs; a loop over a list or a tuple; texts in texts -/
abbrev rInStr : R2 := fun x y H Q => ∃ i j, x = .str i ∧ y = .str j ∧ Q (.bl (!(Builtin.Str.occurrences j i 0 j.length 1).isEmpty)) H
abbrev rNotInStr : R2 := fun x y H Q => ∃ i j, x = .str i ∧ y = .str j ∧ Q (.bl (!(!(Builtin.Str.occurrences j i 0 j.length 1).isEmpty))) H
def tCallS (i : Nat) (S : Addr → Sp → Prop) (t : TA) : TE := fun σ H Q => ∃ f sp, σ[i]? = some (some (.ref f)) ∧ S f sp ∧ t σ H fun vs H1 => sp vs H1 Q (fun _ _ _ => False)
section
variable {X : Cx} {CX : CXT} {k i : Nat} {x : Str} {p pos : Pos} {e : Expr} {es : List Expr} {t : TA} {S : Addr → Sp → Prop}
theorem pe_callS (A : ∀ f sp, S f sp → ∃ (k2 : Nat) (fd : FuncData) (ps : List Str), k2 ≤ k ∧ FnOk X.prog X.w X.K X.mg X.base CX k2 f fd ps sp ∧ PySem.W.keepIn X.K (.ref f) = true ∧ Binds X.K fd ps []) (hr : Room k X.A) (hN : X.N[i]? = some x) (hv : Vis X.env.scope x)
    (hx : Passes CX X (fun _ _ _ => False)) (ha : PA X (e :: es) t) (hdb : (x == ("__debug__" : Str)) = false := by decide) (hcd : (x == ("__classdict__" : Str)) = false := by decide)
    (he : starEach (e :: es) X.env = (false, eval e X.env) :: starEach es X.env := by rfl) (hpl : (backTo pos (starEach es X.env)).any (·.1) = false := by rfl) : PE X (.Call (.Name x p) (e :: es) [] pos) (tCallS i S t) := by
  refine ⟨fun pins s σ H Q I h => ?_⟩
  obtain ⟨f, sp, hs, hS, ht⟩ := h
  obtain ⟨k2, fd, ps, hk2, F, hk, hb⟩ := A f sp hS
  refine (pe_callL (i := i) (f := f) (sp := sp) (dvs := []) (E := fun _ _ _ => False) F (hr.mono hk2) hN hv hk hb .nil hx ha hdb hcd he hpl).run pins s σ H Q I ⟨hs, ?_⟩
  have e0 : (fun (vs : List V) (H1 : Hp) => sp (vs ++ []) H1 Q (fun _ _ _ => False)) = fun vs H1 => sp vs H1 Q (fun _ _ _ => False) := by
    funext vs H1
    rw [List.append_nil]
  show t σ H (fun vs H1 => sp (vs ++ []) H1 Q (fun _ _ _ => False))
  rw [e0]
  exact ht
def iAny (K : PySem.W.Frag) (tl : TE) : TI := fun σ H R => iList K tl σ H R ∨ iTup K tl σ H R
theorem pi_any {tg e : Expr} {te : TE} (he : PE X e te) : PI X tg e (iAny X.K te) := by
  refine ⟨fun pins s σ H R I h => ?_⟩
  rcases h with h | h
  · exact (pi_list he).run pins s σ H R I h
  · exact (pi_tup he).run pins s σ H R I h
end
end Hm
namespace Hm
open PySem PySem.Spec PyProof.Rows L2 Evl TL
/-! ### texts: names of readings -/
abbrev rCatStr : R2 := fun x y H Q => ∃ i j, x = V.str i ∧ y = V.str j ∧ i.length + j.length ≤ sizeLine ∧ Q (V.str (i ++ j)) H
abbrev rSplit : V → List V → Hp → VK → Prop := fun x xs H Q => ∃ a b, x = V.str a ∧ xs = [V.str b] ∧ (b.length == 0) = false ∧ a.length + 2 ≤ sizeLine ∧ rNewStrs (Txt.split a b) H Q
abbrev rJoin (K : PySem.W.Frag) : V → List V → Hp → VK → Prop := fun x xs H Q => ∃ a p, ∃ ys : List Str, x = V.str a ∧ xs = [V.ref p] ∧ (SqL K H p (ys.map V.str) ∨ SqT K H p (ys.map V.str)) ∧ (ys.map (·.length)).sum + ys.length * a.length ≤ 16777216 ∧ Q (V.str (Txt.join a ys)) H
abbrev rStarts : V → List V → Hp → VK → Prop := fun x xs H Q => ∃ a b, x = V.str a ∧ xs = [V.str b] ∧ Q (V.bl (Txt.startswith a b)) H
abbrev rIsdigit : V → List V → Hp → VK → Prop := fun x xs H Q => ∃ a, x = V.str a ∧ xs = [] ∧ True ∧ Q (V.bl (Txt.isdigit a)) H
abbrev rIsascii : V → List V → Hp → VK → Prop := fun x xs H Q => ∃ a, x = V.str a ∧ xs = [] ∧ True ∧ Q (V.bl (Txt.isascii a)) H
abbrev cStr : CR1 := fun vs H Q => ∃ i : Int, vs = [V.int i] ∧ i.natAbs.log2 < 1920 ∧ Q (V.str (toString i)) H
abbrev cIntS : CR1 := fun vs H Q => ∃ a n, vs = [V.str a] ∧ PySem.intText? a = some n ∧ a.length ≤ 640 ∧ Q (V.int n) H
abbrev cLenS : CR1 := fun vs H Q => ∃ z : Str, vs = [V.str z] ∧ z.length ≤ sizeLine ∧ Q (V.int (z.length : Int)) H
abbrev rMulS : R2 := fun x y H Q => ∃ i n, x = V.str i ∧ y = V.int n ∧ MulOk i n ∧ Q (V.str (Txt.mul i n)) H
theorem op_mulS {X : Cx} : OpR X (binaryOp .Mult) rMulS := by
  intro pins s σ H x y v u Q I rx ry h
  obtain ⟨i, n, rfl, rfl, hz, q⟩ := h
  obtain ⟨t, rfl⟩ := rx
  obtain ⟨t', rfl⟩ := ry
  exact PySem.SB.mul hz fun t' k => ⟨.str _, H, I.tok _, ⟨_, rfl⟩, q⟩
section
variable {K : PySem.W.Frag} {σ : L2.St} {H : Hp} {ta tb te : TE} {a b : Str}
theorem ev_m1 {r : V → List V → Hp → VK → Prop} {v : V} (ha : Ev ta σ H (.str a)) (hb : Ev tb σ H (.str b)) (hr : ∀ H1, Ex H H1 → ∀ Q : VK, (∀ H2, Ex H1 H2 → Q v H2) → r (.str a) [.str b] H1 Q) : Ev (tM1 r ta tb) σ H v := fun H1 e Q q =>
  ha H1 e _ fun H2 e2 => ⟨⟨a, rfl⟩, hb H2 (e.trans e2) _ fun H3 e3 => hr H3 ((e.trans e2).trans e3) Q fun H4 e4 => q H4 ((e2.trans e3).trans e4)⟩
theorem ev_m0 {r : V → List V → Hp → VK → Prop} {v : V} (ha : Ev ta σ H (.str a)) (hr : ∀ H1, Ex H H1 → ∀ Q : VK, (∀ H2, Ex H1 H2 → Q v H2) → r (.str a) [] H1 Q) : Ev (tM0 r ta) σ H v := fun H1 e Q q =>
  ha H1 e _ fun H2 e2 => ⟨⟨a, rfl⟩, hr H2 (e.trans e2) Q fun H3 e3 => q H3 (e2.trans e3)⟩
theorem el_split (ha : Ev ta σ H (.str a)) (hb : Ev tb σ H (.str b)) (h1 : (b.length == 0) = false) (h2 : a.length ≤ 90000) : EvL (tM1 rSplit ta tb) σ H ((Txt.split a b).map V.str) := fun H1 e Q q =>
  ha H1 e _ fun H2 e2 => ⟨⟨a, rfl⟩, hb H2 (e.trans e2) _ fun H3 e3 => ⟨a, b, rfl, rfl, h1, by rw [sizeLine_eq]; omega, fun p hp => q p _ (fresh_back (e2.trans e3) hp) ((e2.trans e3).trans (Ex.new hp)) upd_same⟩⟩
theorem ev_starts (ha : Ev ta σ H (.str a)) (hb : Ev tb σ H (.str b)) : Ev (tM1 rStarts ta tb) σ H (.bl (Txt.startswith a b)) := ev_m1 ha hb fun H1 _ Q q => ⟨a, b, rfl, rfl, q H1 (Ex.refl H1)⟩
theorem ev_isdigit (ha : Ev ta σ H (.str a)) : Ev (tM0 rIsdigit ta) σ H (.bl (Txt.isdigit a)) := ev_m0 ha fun H1 _ Q q => ⟨a, rfl, rfl, trivial, q H1 (Ex.refl H1)⟩
theorem ev_isascii (ha : Ev ta σ H (.str a)) : Ev (tM0 rIsascii ta) σ H (.bl (Txt.isascii a)) := ev_m0 ha fun H1 _ Q q => ⟨a, rfl, rfl, trivial, q H1 (Ex.refl H1)⟩
theorem ev_join {p : Addr} {ys : List Str} (ha : Ev ta σ H (.str a)) (hb : Ev tb σ H (.ref p)) (hS : SqL K H p (ys.map V.str)) (hz : (ys.map (·.length)).sum + ys.length * a.length ≤ 16777216) : Ev (tM1 (rJoin K) ta tb) σ H (.str (Txt.join a ys)) := fun H1 e Q q =>
  ha H1 e _ fun H2 e2 => ⟨⟨a, rfl⟩, hb H2 (e.trans e2) _ fun H3 e3 => ⟨a, p, ys, rfl, rfl, .inl (ex_l ((e.trans e2).trans e3) hS), hz, q H3 (e2.trans e3)⟩⟩
theorem ev_joinL {ys : List Str} (ha : Ev ta σ H (.str a)) (hb : EvL tb σ H (ys.map V.str)) (hz : (ys.map (·.length)).sum + ys.length * a.length ≤ 16777216) : Ev (tM1 (rJoin K) ta tb) σ H (.str (Txt.join a ys)) := fun H1 e Q q =>
  ha H1 e _ fun H2 e2 => ⟨⟨a, rfl⟩, hb H2 (e.trans e2) _ fun p H3 hp e3 h3 => ⟨a, p, ys, rfl, rfl, .inl (sq_of h3), hz, q H3 (e2.trans e3)⟩⟩
theorem rv_catS (hz : a.length + b.length ≤ 100000) : RV rCatStr (.str a) (.str b) H (.str (a ++ b)) := fun H1 _ Q q => ⟨a, b, rfl, rfl, sz_of hz, q H1 (Ex.refl H1)⟩
theorem rc_str {i : Int} (h : i.natAbs.log2 < 1920) : RC cStr [.int i] H (.str (toString i)) := fun H1 _ Q q => ⟨i, rfl, h, q H1 (Ex.refl H1)⟩
theorem rc_intS {n : Int} (h : PySem.intText? a = some n) (hl : a.length ≤ 640) : RC cIntS [.str a] H (.int n) := fun H1 _ Q q => ⟨a, n, rfl, h, hl, q H1 (Ex.refl H1)⟩
theorem rc_lenS (hl : a.length ≤ 100000) : RC cLenS [.str a] H (.int (a.length : Int)) := fun H1 _ Q q => ⟨a, rfl, sz_of hl, q H1 (Ex.refl H1)⟩
end
/-! ### words that are numbers -/
def num (n : Nat) : Str := Str.ofString (toString ((n : Nat) : Int))
theorem tl_n (n : Nat) : tl (num n) = numL n := tl_num n
def numB (w : Str) : Bool := if (!(Txt.isascii w) || (!(Txt.isdigit w) || decide (4 < w.length))) = true then false else (decide (w = "0") || !(Txt.startswith w "0"))
theorem all_tl {w : Str} {f : Nat → Bool} : w.cps.all f = (tl w).all f := by rw [← Array.all_toList]
theorem isascii_tl (w : Str) : Txt.isascii w = (tl w).all (· < 128) := all_tl
theorem isdigit_tl (w : Str) : Txt.isdigit w = (decide ((tl w).length > 0) && (tl w).all Unicode.isDigit) := by
  unfold Txt.isdigit
  rw [all_tl, len_tl]
theorem starts_tl (w : Str) : Txt.startswith w "0" = ((tl w).head? == some 48) := by
  have h0 : tl ("0" : Str) = [48] := rfl
  have hl : ("0" : Str).length = 1 := rfl
  unfold Txt.startswith
  rw [PySem.StrLaws.subAt_eq, hl, List.drop_zero, len_tl]
  show (decide (0 + 1 ≤ (tl w).length) && ((tl w).take 1 == [48])) = _
  cases tl w with
  | nil => rfl
  | cons c r =>
    show (true && ([c] == [48])) = (some c == some 48)
    rw [Bool.true_and]
    by_cases h : c = 48 <;> simp [h]
theorem dig_ok : ∀ c : Nat, 48 ≤ c → c ≤ 57 → Unicode.isDigit c = true := by
  intro c h1 h2
  have k : ∀ d : Nat, d < 10 → Unicode.isDigit (48 + d) = true := by decide +kernel
  have := k (c - 48) (by omega)
  rwa [show 48 + (c - 48) = c by omega] at this
theorem numL_head {n : Nat} (h : 0 < n) : (numL n).head? ≠ some 48 := by
  induction n using Nat.strongRecOn with
  | ind n ih =>
    by_cases h1 : n < 10
    · rw [numL_lt h1]
      intro q
      have : 48 + n = 48 := Option.some.inj q
      omega
    · rw [numL_step (by omega)]
      have := ih (n / 10) (by omega) (by omega)
      cases e : numL (n / 10) with
      | nil => exact absurd e (numL_ne _)
      | cons c r =>
        rw [e] at this
        exact this
theorem numL_dig {n c : Nat} (h : c ∈ numL n) : 48 ≤ c ∧ c ≤ 57 := by
  refine ⟨Nat.le_of_not_lt fun q => numL_free (Or.inl q) h, Nat.le_of_not_lt fun q => numL_free (Or.inr q) h⟩
theorem num_len {n : Nat} (h : n < 10000) : (num n).length ≤ 4 := by
  rw [len_tl, tl_n]
  exact numL_len (k := 4) (by decide) h
theorem numB_num {n : Nat} (h : n < 10000) : numB (num n) = true := by
  have h1 : Txt.isascii (num n) = true := by
    rw [isascii_tl, tl_n, List.all_eq_true]
    intro c hc
    have := numL_dig hc
    exact decide_eq_true (by omega)
  have h2 : Txt.isdigit (num n) = true := by
    rw [isdigit_tl, tl_n, Bool.and_eq_true, List.all_eq_true]
    refine ⟨decide_eq_true (List.length_pos_iff.mpr (numL_ne n)), fun c hc => ?_⟩
    have := numL_dig hc
    exact dig_ok c this.1 this.2
  unfold numB
  rw [h1, h2, decide_eq_false (by have := num_len h; omega : ¬ 4 < (num n).length)]
  show (decide (num n = "0") || !(Txt.startswith (num n) "0")) = true
  by_cases h0 : n = 0
  · subst h0
    rw [decide_eq_true (show num 0 = "0" from rfl), Bool.true_or]
  · rw [starts_tl, tl_n]
    have := numL_head (Nat.pos_of_ne_zero h0)
    rw [show ((numL n).head? == some 48) = false from by simpa using this]
    simp
/-- a word with a sign that is no digit -/
theorem numB_sign {w : Str} {c : Nat} (h : c ∈ tl w) (hc : Unicode.isDigit c = false) : numB w = false := by
  have h2 : Txt.isdigit w = false := by
    rw [isdigit_tl, Bool.and_eq_false_iff]
    right
    rw [Bool.eq_false_iff]
    intro q
    have := List.all_eq_true.mp q c h
    rw [hc] at this
    cases this
  unfold numB
  rw [h2]
  simp
theorem numB_long {w : Str} (h : 4 < w.length) : numB w = false := by
  unfold numB
  rw [decide_eq_true h]
  simp
theorem numB_nil {w : Str} (h : tl w = []) : numB w = false := by
  have h2 : Txt.isdigit w = false := by
    rw [isdigit_tl, h]
    rfl
  unfold numB
  rw [h2]
  simp
theorem numB_zero {w : Str} {c : Nat} {r : List Nat} (h : tl w = 48 :: c :: r) : numB w = false := by
  have h1 : w ≠ ("0" : Str) := fun q => by
    rw [q] at h
    have : tl ("0" : Str) = [48] := rfl
    rw [this] at h
    cases h
  unfold numB
  split
  · rfl
  · rw [decide_eq_false h1, starts_tl, h]
    rfl
theorem int_of_num {n : Nat} (h : n < 10000) : PySem.intText? (num n) = some (n : Int) := int_num (by have := num_len h; rw [len_tl, tl_n] at this; omega)
theorem num_inj {m n : Nat} (h : num m = num n) : m = n := numL_inj (by rw [← tl_n, ← tl_n, h])
theorem num_free {n s : Nat} (h : s < 48 ∨ 57 < s) : s ∉ tl (num n) := by
  rw [tl_n]
  exact numL_free h
theorem num_ne (n : Nat) : tl (num n) ≠ [] := by
  rw [tl_n]
  exact numL_ne n
/-! ### joining -/
abbrev spc : Str := " "
abbrev nl : Str := "\n"
theorem tl_spc : tl spc = [32] := rfl
theorem tl_nl : tl nl = [10] := rfl
def jn (y : Str) (ws : List Str) : Str := Txt.join y ws
theorem jn_split {y : Str} {s : Nat} (ey : tl y = [s]) (hk : y.cps.all (· < 256) = true) {ws : List Str} (hne : ws ≠ []) (h : ∀ w ∈ ws, s ∉ tl w) : Txt.split (jn y ws) y = ws := split_join (S := []) ey hk hne h
theorem jn_one (y w : Str) : jn y [w] = w := by unfold jn; rw [join_eq]; rfl
theorem tl_nilS : tl (Str.empty) = [] := rfl
theorem jn_nil (y : Str) : jn y [] = Str.empty := by unfold jn; rw [join_eq]; rfl
theorem tl_jn (y : Str) (ws : List Str) : tl (jn y ws) = joinL (tl y) (ws.map tl) := by unfold jn; rw [join_eq, tl_join]
theorem joinL_app (S : List Nat) : ∀ (a b : List (List Nat)), a ≠ [] → b ≠ [] → joinL S (a ++ b) = joinL S a ++ (S ++ joinL S b)
  | [], _, h, _ => absurd rfl h
  | [p], q :: r, _, _ => rfl
  | [p], [], _, h => absurd rfl h
  | p :: q :: r, b, _, hb => by
    show p ++ (S ++ joinL S (q :: r ++ b)) = (p ++ (S ++ joinL S (q :: r))) ++ (S ++ joinL S b)
    rw [joinL_app S (q :: r) b (by simp) hb]
    simp only [List.append_assoc]
/-- a joined text put in the place of a word -/
theorem joinL_in (S : List Nat) (a c b : List (List Nat)) (hc : c ≠ []) : joinL S (a ++ [joinL S c] ++ b) = joinL S (a ++ c ++ b) := by
  have one : joinL S [joinL S c] = joinL S c := rfl
  by_cases ha : a = []
  · subst ha
    by_cases hb : b = []
    · subst hb
      rw [List.append_nil, List.append_nil, List.nil_append, List.nil_append, one]
    · rw [joinL_app S _ b (by simp) hb, joinL_app S _ b (by simpa using hc) hb, List.nil_append, List.nil_append, one]
  · by_cases hb : b = []
    · subst hb
      rw [List.append_nil, List.append_nil, joinL_app S a _ ha (by simp), joinL_app S a _ ha hc, one]
    · rw [joinL_app S _ b (by simp) hb, joinL_app S _ b (by simp [ha]) hb, joinL_app S a _ ha (by simp), joinL_app S a _ ha hc, one]
theorem joinL_len (s : Nat) : ∀ (ws : List (List Nat)) (B : Nat), (∀ w ∈ ws, w.length ≤ B) → (joinL [s] ws).length ≤ ws.length * (B + 1)
  | [], _, _ => Nat.zero_le _
  | [p], B, h => by
    have := h p (List.mem_singleton.mpr rfl)
    show p.length ≤ 1 * (B + 1)
    omega
  | p :: q :: r, B, h => by
    have h1 := h p (List.mem_cons_self ..)
    have h2 := joinL_len s (q :: r) B fun w hw => h w (List.mem_cons_of_mem _ hw)
    show (p ++ ([s] ++ joinL [s] (q :: r))).length ≤ (r.length + 1 + 1) * (B + 1)
    rw [List.length_append, List.length_append]
    have h3 : (q :: r).length = r.length + 1 := rfl
    rw [h3] at h2
    have h4 : (r.length + 1 + 1) * (B + 1) = (r.length + 1) * (B + 1) + (B + 1) := by rw [Nat.succ_mul]
    have h5 : [s].length = 1 := rfl
    omega
theorem mem_joinL {s c : Nat} : ∀ {ws : List (List Nat)}, c ∈ joinL [s] ws → c = s ∨ ∃ w ∈ ws, c ∈ w
  | [], h => nomatch h
  | [p], h => .inr ⟨p, List.mem_singleton.mpr rfl, h⟩
  | p :: q :: r, h => by
    have h : c ∈ p ++ ([s] ++ joinL [s] (q :: r)) := h
    rw [List.mem_append, List.mem_append] at h
    rcases h with h | h | h
    · exact .inr ⟨p, List.mem_cons_self .., h⟩
    · exact .inl (List.mem_singleton.mp h)
    · rcases mem_joinL h with h | ⟨w, hw, h⟩
      · exact .inl h
      · exact .inr ⟨w, List.mem_cons_of_mem _ hw, h⟩
theorem jn_len {y : Str} {s : Nat} (ey : tl y = [s]) {ws : List Str} {B : Nat} (h : ∀ w ∈ ws, w.length ≤ B) : (jn y ws).length ≤ ws.length * (B + 1) := by
  rw [len_tl, tl_jn, ey]
  have := joinL_len s (ws.map tl) B (fun w hw => by
    obtain ⟨z, hz, rfl⟩ := List.mem_map.mp hw
    rw [← len_tl]
    exact h z hz)
  rwa [List.length_map] at this
theorem sum_len {ws : List Str} {B : Nat} (h : ∀ w ∈ ws, w.length ≤ B) : (ws.map (·.length)).sum ≤ ws.length * B := by
  induction ws with
  | nil => exact Nat.zero_le _
  | cons w r ih =>
    have h1 := h w (List.mem_cons_self ..)
    have h2 := ih fun x hx => h x (List.mem_cons_of_mem _ hx)
    show w.length + (r.map (·.length)).sum ≤ (r.length + 1) * B
    rw [Nat.succ_mul]
    omega
/-- a line of numbers -/
def lineOf (ns : List Nat) : Str := jn spc (ns.map num)
def textOf (gs : List (List Nat)) : Str := jn nl (gs.map lineOf)
theorem line_words {ns : List Nat} (h : ns ≠ []) : Txt.split (lineOf ns) spc = ns.map num := by
  refine jn_split tl_spc (by decide +kernel) (fun q => h (List.map_eq_nil_iff.mp q)) (fun w hw => ?_)
  obtain ⟨n, _, rfl⟩ := List.mem_map.mp hw
  exact num_free (by decide)
theorem line_free (ns : List Nat) : 10 ∉ tl (lineOf ns) := by
  unfold lineOf
  rw [tl_jn, tl_spc]
  intro h
  rcases mem_joinL h with h | ⟨w, hw, h⟩
  · cases h
  · obtain ⟨z, hz, rfl⟩ := List.mem_map.mp hw
    obtain ⟨n, _, rfl⟩ := List.mem_map.mp hz
    exact num_free (by decide) h
theorem line_ne {ns : List Nat} (h : ns ≠ []) : tl (lineOf ns) ≠ [] := by
  unfold lineOf
  rw [tl_jn, tl_spc]
  cases ns with
  | nil => exact absurd rfl h
  | cons n r =>
    cases r with
    | nil => exact num_ne n
    | cons m r =>
      show tl (num n) ++ _ ≠ []
      intro q
      exact num_ne n (List.append_eq_nil_iff.mp q).1
theorem line_len {ns : List Nat} (h : ∀ n ∈ ns, n < 10000) : (lineOf ns).length ≤ ns.length * 5 := by
  have := jn_len (B := 4) tl_spc (ws := ns.map num) fun w hw => by
    obtain ⟨n, hn, rfl⟩ := List.mem_map.mp hw
    exact num_len (h n hn)
  rwa [List.length_map] at this
/-- a line that is no line of numbers -/
def BadL (y : Str) : Prop := ∃ ws : List Str, ws ≠ [] ∧ y = jn spc ws ∧ (∀ w ∈ ws, 32 ∉ tl w ∧ 10 ∉ tl w) ∧ (∃ w ∈ ws, numB w = false) ∧ (∀ w ∈ ws, w.length ≤ 6000) ∧ ws.length ≤ 1000
theorem BadL.free {y : Str} (h : BadL y) : 10 ∉ tl y := by
  obtain ⟨ws, h1, rfl, h2, h3, h4, h5⟩ := h
  rw [tl_jn, tl_spc]
  intro q
  rcases mem_joinL q with q | ⟨w, hw, q⟩
  · cases q
  · obtain ⟨z, hz, rfl⟩ := List.mem_map.mp hw
    exact (h2 z hz).2 q
theorem BadL.words {y : Str} (h : BadL y) : ∃ w ∈ Txt.split y spc, numB w = false := by
  obtain ⟨ws, h1, rfl, h2, h3, h4, h5⟩ := h
  rw [jn_split tl_spc (by decide +kernel) h1 fun w hw => (h2 w hw).1]
  exact h3
end Hm
namespace PySem
namespace HmPX
open PySem.W PySem.Calls PyProof.Rows PySem.HandSPX
/-! ### own errors made with keywords -/
section
variable {M : Model} {A : Around} {E : Value → Shared → Prop} {h : Heap} {g : Array GenState} {d : Drawn} {t : Nat} {os : OsState}
variable {nm q : Str} {C N : Addr} {bs bm bmB : List Value} {hdct : Bool} {sn : List Str} {sub : List Value} {ab : Bool} {col : Option Bool} {dd : Option Addr} {k0 k1 k2 k3 k5 : Option Value} {B newId initId : String}
theorem check_new_kw (F : ExcBaseFacts B newId initId bmB) (hT : ∀ X : String, bm.contains (.type X) = bmB.contains (.type X)) {rest : List Value} {kw : List (Str × Value)} {Q : Unit → Shared → Prop}
    (hC : h.get? C = some (excClassObj nm q C N bs bm hdct sn sub ab col dd k0 k1 k2 k3 k5 newId)) (hq : Q () ⟨h, g, d, t, os⟩) : wpAny M A (checkBuiltinCall newId ⟨.ref C :: rest, kw⟩) Q E ⟨h, g, d, t, os⟩ := by
  have hcont : (Value.ref C :: bm).contains (.type B) = true := by rw [List.contains_cons, hT, F.hasB, Bool.or_true]
  have hstar := F.noStar
  simp only [checkBuiltinCall, F.newKind, F.newSplit, F.newRow]
  repeat (first | refine wpAny_loadPart_at hC ?_ | (refine wpAny_isSubtype_exc hC ?_; rw [hcont]) | refine wpAny_staticBase_exc hC ?_ | refine wpAny_madeBy_exc hC ?_ | simp only [bne_self_eq_false, Bool.false_eq_true, if_false] | wp_step)
  exact hq
end
section
variable {prog : Program} {w : World} {A : Around} {E : Value → Shared → Prop} {R : Result → Shared → Prop} {h : Heap} {g : Array GenState} {d : Drawn} {t : Nat} {os : OsState}
variable {nm q : Str} {C N : Addr} {bs bm bmB : List Value} {hdct : Bool} {sn : List Str} {sub : List Value} {ab : Bool} {col : Option Bool} {dd : Option Addr} {k0 k1 k2 k3 k5 : Option Value} {B newId initId : String}
theorem new_kw (F : ExcBaseFacts B newId initId bmB) (hT : ∀ X : String, bm.contains (.type X) = bmB.contains (.type X)) {rest : List Value} {kw : List (Str × Value)}
    (hC : h.get? C = some (excClassObj nm q C N bs bm hdct sn sub ab col dd k0 k1 k2 k3 k5 newId))
    (hq : R (.ok (.ret (.ref (h.objs.size + 1)))) ⟨(h.push { cls := .type "tuple", data := .seq rest.toArray }).push
      { cls := .ref C, data := .fields #[.ref h.objs.size, .none, .none, .none, .bool false, .none] }, g, d, t, os⟩) (hrest : rest.length ≤ sizeLine) :
    codeAny (model prog w) A (.builtin newId ⟨.ref C :: rest, kw⟩) R ⟨h, g, d, t, os⟩ := by
  have hends := F.ends
  have hcB : (Value.ref C :: bm).contains (.type B) = true := by rw [List.contains_cons, hT, F.hasB, Bool.or_true]
  have hcA : (Value.ref C :: bm).contains (.type "AttributeError") = false := by rw [List.contains_cons, hT, F.noAttr]; rfl
  have hcN : (Value.ref C :: bm).contains (.type "NameError") = false := by rw [List.contains_cons, hT, F.noName]; rfl
  refine codeAny_builtinAt F.entry ?_
  unfold Builtin.«BaseException.__new__»
  refine wpAt_bind ?_
  show wpAt _ _ _ (stack >>= _) _ _ _
  refine wpAt_bind (wpAt_stack fun p below => wpAt_of_wpAny ?_)
  wp_walk
  refine wpAt_of_wpAny ?_
  rw [F.owner]
  repeat (first | with_reducible refine wpAny_madeHere_exc F.canon hC ?_ | with_reducible refine wpAny_loadPart_at hC ?_ | (with_reducible refine wpAny_isSubtype_exc hC ?_; first | rw [hcB] | rw [hcA] | rw [hcN]) | wp_step)
  show R _ _
  rw [Heap.size_push]
  exact hq
theorem type_call_kw (F : ExcBaseFacts B newId initId bmB) (hT : ∀ X : String, bm.contains (.type X) = bmB.contains (.type X)) {rest : List Value} {kw : List (Str × Value)} {fI : Addr} {Q : Fin → Shared → Prop}
    (hC : h.get? C = some (excClassObj nm q C N bs bm hdct sn sub ab col dd k0 k1 k2 k3 k5 newId))
    (hi : W.Looks (model prog w) h (typeLookup (.ref C) "__init__") (some (.ref fI))) (hb : ∀ self, W.Looks (model prog w) h (bindSpecial (.ref fI) self) (.ref fI, [self])) (hrest : rest.length ≤ sizeLine)
    (hq : codeAny (model prog w) A (.call (.ref fI) ⟨.ref (h.objs.size + 1) :: rest, kw⟩)
      (fun r s' => match r with | .ok (.ret v) => v = .none ∧ Q (.done (.ret (.ref (h.objs.size + 1)))) s' | .ok _ => False | .error e => E e s')
      ⟨(h.push (W.kdv_tup rest)).push (excO C h.objs.size), g, d, t, os⟩) :
    wpAny (model prog w) A (Builtin.«type.__call__» ⟨.ref C :: rest, kw⟩) Q E ⟨h, g, d, t, os⟩ := by
  repeat (first | with_reducible refine wpAny_loadPart_at hC ?_ | with_reducible refine wpAny_madeBy_exc hC ?_ | wp_step)
  refine codeAny_call_builtin_code (Code.quiet_builtin _ F.quiet) (check_new_kw F hT hC ?_)
  refine new_kw F hT hC ?_ hrest
  show wpAny _ _ _ _ _ _
  have k : ∀ b o, h.get? b = some o → ((h.push (W.kdv_tup rest)).push (excO C h.objs.size)).get? b = some o := fun b o e => Heap.get?_push_of_some _ (Heap.get?_push_of_some _ e)
  have hC₁ := k _ _ hC
  have hget : ((h.push (W.kdv_tup rest)).push (excO C h.objs.size)).get? (h.objs.size + 1) = some (excO C h.objs.size) := by heap_get
  have hcC : (Value.ref C :: bm).contains (.ref C) = true := by simp
  have i1 := hi.keeps k
  have b1 := (hb (.ref (h.objs.size + 1))).keeps k
  unfold isInstance
  repeat (first | with_reducible refine wpAny_loadPart_at hget ?_ | (with_reducible refine wpAny_isSubtype_exc hC₁ ?_; rw [hcC]) | wp_step)
  show wpAny _ _ (typeLookup (.ref C) _) _ _ _
  refine i1.at ?_
  refine wpAny_holding (wpAny_bind (b1.at ?_))
  refine wpAny_bind (wpAny_call (codeAny_mono hq fun r s' z => ?_))
  rcases r with e | (v | _ | _ | _) <;> first | exact z | exact z.elim | skip
  obtain ⟨rfl, z⟩ := z
  first
    | exact wpAny_pure (wpAny_pure z)
    | (wp_walk; exact z)
theorem call_kw (F : ExcBaseFacts B newId initId bmB) (hT : ∀ X : String, bm.contains (.type X) = bmB.contains (.type X)) {rest : List Value} {kw : List (Str × Value)} {fI : Addr}
    (hC : h.get? C = some (excClassObj nm q C N bs bm hdct sn sub ab col dd k0 k1 k2 k3 k5 newId))
    (hi : W.Looks (model prog w) h (typeLookup (.ref C) "__init__") (some (.ref fI))) (hb : ∀ self, W.Looks (model prog w) h (bindSpecial (.ref fI) self) (.ref fI, [self])) (hrest : rest.length ≤ sizeLine)
    (hq : codeAny (model prog w) (A.under (.builtin "type.__call__" ⟨.ref C :: rest, kw⟩)) (.call (.ref fI) ⟨.ref (h.objs.size + 1) :: rest, kw⟩) (W.InitBack (h.objs.size + 1) R)
      ⟨(h.push (W.kdv_tup rest)).push (excO C h.objs.size), g, d, t, os⟩) :
    codeAny (model prog w) A (.call (.ref C) ⟨rest, kw⟩) R ⟨h, g, d, t, os⟩ := by
  have f1 := tc_lookup
  have f2 := tc_bind (.ref C)
  have hTy : (⟨h, g, d, t, os⟩ : Shared).TypeIs (.ref C) "type" := ⟨_, hC, rfl⟩
  refine codeAny_of_tree ?_
  show wpAny _ _ (callAny (.ref C) _) _ _ _
  repeat (any_goals (first | assumption | with_reducible refine wpAny_loadPart_at hC ?_ | wp_step))
  refine ⟨rfl, ?_⟩
  refine codeAny_call_builtin_at (Code.quiet_builtin _ (by decide +kernel)) entry_typeCall (wpAny_check_type_call_sub hC (type_call_kw F hT hC hi hb hrest ?_))
  refine codeAny_mono hq fun r s' z => ?_
  rcases r with e | (v | _ | _ | _) <;> exact z
end
/-! ### isinstance of an own error with a dict -/
section
variable {prog : Program} {w : World} {A : Around} {E : Value → Shared → Prop} {s : Shared} {K : Frag} {x D : Addr} {ox : Obj} {od : Option Obj}
theorem findObj_dataD {C : Addr} {name : Str} {a g : Value} (hc : (clsIn K C).isSome = true) (ha : findIn K (.ref C) name = some (some a)) (hg : specialIn K a "__get__" = some (some g)) (ht : takesIn K a = some true) : findObj K C od name = some (.bind g a) := by
  obtain ⟨cd, hc⟩ := Option.isSome_iff_exists.mp hc
  unfold findObj
  rw [hc, Option.bind_some, ha, Option.bind_some]
  simp [hg, ht]
theorem kin_classD {Q : Option Value → Shared → Prop} (hga : findIn K (.ref D) "__getattribute__" = some (some (.builtin "BaseException.__getattribute__"))) (hgt : findIn K (.ref D) "__getattr__" = some none) (hsub : subIn K (.ref D) (.type "BaseException") = some true)
    (hdct : hasDictIn K D = true) (ha : findIn K (.ref D) "__class__" = some (some (.builtin "object.__class__")))
    (hn : specialIn K (.builtin "object.__class__") "__get__" = some (some (.builtin "getset_descriptor.__get__"))) (htk : takesIn K (.builtin "object.__class__") = some true) (hm : mroIn K D (.type "object") = some true)
    (X : K.In s.heap) (I : InstAt s.heap x ox D od) (h : Q (some (.ref D)) { s with toks := s.toks + 1 }) : wpAny (model prog w) A (getAttr? (.ref x) "__class__") Q E s := by
  have hf : findObj K D od "__class__" = some (.bind (.builtin "getset_descriptor.__get__") (.builtin "object.__class__")) := findObj_dataD (by obtain ⟨cd, hc, _⟩ := any_some hdct; rw [hc]; rfl) ha hn htk
  obtain ⟨hp, g, d, t, os⟩ := s
  have L0 := I.type (M := model prog w)
  have L1 := looks_findIn (M := model prog w) X hga
  have L2 := looks_findIn (M := model prog w) X hgt
  have L3 := looks_find (M := model prog w) X I hf
  have sub : Looks (model prog w) hp (isInstance (.ref x) (.type "BaseException")) true := L0.andThen (looks_subIn X hsub)
  have hx0 : (false && onTheHeap (Value.builtin "BaseException.__getattribute__")) = false := rfl
  have hx2 : (Value.builtin "BaseException.__getattribute__" == Value.builtin "object.__getattribute__") = false := by decide +kernel
  have hx1 : (onTheHeap (Value.ref D) && Value.builtin "BaseException.__getattribute__" == Value.builtin "object.__getattribute__") = false := by rw [hx2]; rfl
  unfold getAttr? getAttrBy? getAttrBy
  refine wpAny_bind (wpAny_mkText (wpAny_bind (wpAny_attempt (wpAny_holding (wpAny_bind (L0.at (wpAny_bind (L1.at ?_))))))))
  show wpAny _ _ (if (onTheHeap (Value.ref D) && Value.builtin "BaseException.__getattribute__" == Value.builtin "object.__getattribute__") = true then _ else _) _ _ _
  rw [hx1, if_neg Bool.false_ne_true]
  unfold getAttrByItsOwn hookBefore
  refine wpAny_bind ?_
  rw [if_pos (show onTheHeap (Value.ref D) = true from rfl)]
  refine L2.at ?_
  refine wpAny_bind (wpAny_attempt (wpAny_holding ?_))
  unfold callGetattribute
  rw [hx0, if_neg Bool.false_ne_true]
  unfold boundAndCalled
  rw [PySem.F.excAttr_ValueError.ga.bind (.ref x)]
  refine wpAny_bind (wpAny_pure ?_)
  show wpAny _ _ (call (.builtin "BaseException.__getattribute__") [.ref x, .str "__class__" t]) _ _ _
  refine wpAny_call (codeAny_call_builtin PySem.F.excAttr_ValueError.ga.plain PySem.F.entry_bexc_ga ?_)
  refine @check_slot (model prog w) _ _ ⟨hp, g, d, t + 1, os⟩ "BaseException.__getattribute__" "BaseException" "__getattribute__" (.ref x) [.str "__class__" t] [] _ (by decide +kernel) (by decide +kernel) sub (PySem.F.args_bexc_ga (.ref x) (.str "__class__" t)) ?_
  unfold Builtin.«object.__getattribute__»
  refine wpAny_bind (wpAny_of_eq (a := ((Value.ref x : Value), [Value.str "__class__" t])) (by first | rfl | (simp only [slotArgs]; rfl)) ?_)
  refine wpAny_bind (wpAny_pure (wpAny_bind (L0.at (wpAny_bind (L3.at ?_)))))
  show wpAny _ _ (holding [Value.builtin "object.__class__"] (call (.builtin "getset_descriptor.__get__") [.builtin "object.__class__", .ref x, .ref D]) >>= ret) _ _ _
  refine wpAny_bind (wpAny_holding (wpAny_call (class_get (s := ⟨hp, g, d, t + 1, os⟩) (ox := ox) (od := od) X I hm ?_)))
  refine wpAny_pure ?_
  show wpAny _ _ (handedOut (.ref D)) _ _ _
  rw [handedOut_of (v := .ref D) rfl]
  first
    | exact wpAny_pure (wpAny_pure h)
    | exact wpAny_pure h
    | exact wpAny_pure (wpAny_bind (wpAny_pure (wpAny_pure h)))
theorem kitx_errD (hga : findIn K (.ref D) "__getattribute__" = some (some (.builtin "BaseException.__getattribute__"))) (hgt : findIn K (.ref D) "__getattr__" = some none) (hsub : subIn K (.ref D) (.type "BaseException") = some true) (hdct : hasDictIn K D = true) (ha : findIn K (.ref D) "__class__" = some (some (.builtin "object.__class__")))
    (hn : specialIn K (.builtin "object.__class__") "__get__" = some (some (.builtin "getset_descriptor.__get__"))) (htk : takesIn K (.builtin "object.__class__") = some true) (hm : mroIn K D (.type "object") = some true) :
    KitX K (.ref x) (.ref D) (fun h => InstAt h x ox D od) where
  ty := fun _ _ _ I => I.type
  it := fun _ _ X _ => by
    obtain ⟨cdD, hcD, _⟩ := any_some hdct
    unfold clsIn at hcD
    split at hcD
    · rename_i c' d' cd' sl' ho
      intro A' Q' E' s' k q
      unfold isType loadHead
      exact wpAny_bind (wpAny_loadPart (k _ _ (X _ _ ho)) (wpAny_pure q))
    · cases hcD
  ne := fun h tp dd its n sl X htp => by
    obtain ⟨cdD, hcD, _⟩ := any_some hdct
    refine Bool.eq_false_iff.mpr fun q => ?_
    have e : D = tp := Value.ref.inj (beq_iff_eq.mp q)
    subst e
    unfold clsIn at hcD
    split at hcD
    · rename_i c' d' cd' sl' ho
      have z := (X _ _ ho).symm.trans htp
      cases z
    · cases hcD
  ca := fun X I k => kin_classD hga hgt hsub hdct ha hn htk hm X I k
end
end HmPX
end PySem
namespace Hm
open PySem PySem.Spec PyProof.Rows L2 Evl NdefX
/-! ### errors as values -/
/-- at a an error of the class at C, not raised, with the attributes fs -/
def ErrAt (H : Hp) (a C : Addr) (fs : List (Str × V)) : Prop := (fs = [] ∧ H a = some (exo a C none)) ∨ ∃ d, H a = some (exo a C (some d)) ∧ H d = some (exd d fs)
theorem ErrAt.ex {H H' : Hp} {a C : Addr} {fs : List (Str × V)} (h : ErrAt H a C fs) (e : Ex H H') : ErrAt H' a C fs := by
  rcases h with ⟨h, q⟩ | ⟨d, q, r⟩
  · exact .inl ⟨h, e _ _ q⟩
  · exact .inr ⟨d, e _ _ q, e _ _ r⟩
/-- C(e, .., k = v, ..), an own error -/
def tMkE (C : Addr) (n m : Nat) (sp : Sp) (gV : List V → List V → List V) (t tk : TA) : TE := fun σ H Q => t σ H fun vs H1 => tk σ H1 fun zs H2 => vs.length = n ∧ zs.length = m ∧
  ∀ a, H2 a = none → sp (gV (.ref a :: vs) zs) (upd H2 a (exo a C none)) (fun v H3 => v = .non ∧ Q (.ref a) H3) (fun _ _ _ => False)
section
variable {X : Cx} {CX : CXT} {k n : Nat} {fI C : Addr} {fd : FuncData} {ps ks : List Str} {sp : Sp} {x : Str} {p pos : Pos} {e : Expr} {es : List Expr} {kws : List Keyword} {t tk : TA} {g : List Value → List Value → List Value} {gV : List V → List V → List V}
theorem run_mkE {pins : List (Addr × Obj)} {σ : L2.St} {H : Hp} {s : Shared} {Q : VK} {us ws : List Value} {vs zs : List V} (T : OexC X.K C) (iC : PySem.W.findIn X.K (.ref C) "__init__" = some (some (.ref fI))) (tI : PySem.W.typeIn X.K (.ref fI) = some (.type "function"))
    (F1 : FnOk X.prog X.w X.K X.mg X.base CX k fI fd ps sp) (hr : Room (k + 1) X.A) (hb : KBn X.K fd ps (n + 1) ks g gV) (hn : n ≤ 1000)
    (hx : Passes CX X (fun _ _ _ => False)) (I : Inv X pins σ H s) (r : Vals vs us) (rz : Vals zs ws) (l1 : vs.length = n) (l2 : zs.length = ks.length)
    (h : ∀ a, H a = none → sp (gV (.ref a :: vs) zs) (upd H a (exo a C none)) (fun v H2 => v = .non ∧ Q (.ref a) H2) (fun _ _ _ => False)) :
    wpAny (model X.prog X.w) X.A (call (.ref C) us (ks.zip ws)) (EP X pins σ Q) X.xe s := by
  obtain ⟨nm, q, N, bs, bm, sn, sub, ab, col, dd, k0, k1, k2, k3, k5, hC, hbm⟩ := T.cls
  obtain ⟨hp, gg, dr, tk, os⟩ := s
  have hsz : hp.objs.size ≤ hp.objs.size + 1 := Nat.le_succ _
  have hno : H (hp.objs.size + 1) = none := I.hok.fresh hsz
  have hq := h (hp.objs.size + 1) hno
  have kk : ∀ b o, hp.get? b = some o → ((hp.push (PySem.W.kdv_tup us)).push (PySem.HandSPX.excO C hp.objs.size)).get? b = some o := fun b o e => Heap.get?_push_of_some _ (Heap.get?_push_of_some _ e)
  have hget : ((hp.push (PySem.W.kdv_tup us)).push (PySem.HandSPX.excO C hp.objs.size)).get? (hp.objs.size + 1) = some (PySem.HandSPX.excO C hp.objs.size) := by heap_get
  have I2 : Inv X pins σ (upd H (hp.objs.size + 1) (exo (hp.objs.size + 1) C none)) ⟨(hp.push (PySem.W.kdv_tup us)).push (PySem.HandSPX.excO C hp.objs.size), gg, dr, tk, os⟩ :=
    I.laid (t' := tk) (a := hp.objs.size + 1) (o := exo (hp.objs.size + 1) C none) (h' := (hp.push (PySem.W.kdv_tup us)).push (PySem.HandSPX.excO C hp.objs.size)) kk hsz (exo_ok hget)
  have r1 : Vals (V.ref (hp.objs.size + 1) :: vs) (Value.ref (hp.objs.size + 1) :: us) := .cons rfl r
  have r2 := hb.rel r1 rz
  have e1 : (Value.ref (hp.objs.size + 1) :: us).length = n + 1 := r1.length.symm.trans (congrArg Nat.succ l1)
  have hus : us.length ≤ sizeLine := by
    rw [← Paired.length r, l1, sizeLine_eq]
    omega
  refine wpAny_call (PySem.HmPX.call_kw F.excBase_ValueError (fun Y => PySem.HandSPX.refsVE_contains Y bm hbm) (I.kIn _ _ hC) (PySem.W.looks_findIn I.kIn iC) (fun self => PySem.W.bind_fn I.kIn self tI) hus
    (codeAny_mono (F1.run _ X.stack _ _ ⟨Value.ref (hp.objs.size + 1) :: us, ks.zip ws⟩ (g (Value.ref (hp.objs.size + 1) :: us) ws) _ _ (fun _ _ _ => False) (hr.make C us (ks.zip ws)) (I2.env0.make C us (ks.zip ws)) (hb.to _ (Value.ref (hp.objs.size + 1) :: us) ws I2.kIn e1 (rz.length.symm.trans l2)) r2 hq) fun r s' hq' => ?_))
  cases r with
  | error er => exact hx pins σ _ _ er s' I2 hq'
  | ok fl =>
    cases fl with
    | ret u =>
      obtain ⟨v, H', I3, rv, ev, q3⟩ := I2.after hq'
      subst ev
      exact ⟨rv, ⟨V.ref (hp.objs.size + 1), H', I3, rfl, q3⟩⟩
    | next => exact False.elim hq'
    | brk => exact False.elim hq'
    | cont => exact False.elim hq'
/-- C() -/
theorem pe_mkE0 (T : OexC X.K C) (iC : PySem.W.findIn X.K (.ref C) "__init__" = some (some (.ref fI))) (tI : PySem.W.typeIn X.K (.ref fI) = some (.type "function"))
    (F1 : FnOk X.prog X.w X.K X.mg X.base CX k fI fd ps sp) (hr : Room (k + 1) X.A) (hg : Gl X x) (hm : X.mg x = some (.ref C)) (hb : KBn X.K fd ps 1 [] g gV) (hx : Passes CX X (fun _ _ _ => False))
    (hdb : (x == ("__debug__" : Str)) = false := by decide) : PE X (.Call (.Name x p) [] [] pos) (tMkE C 0 0 sp gV tNil tNil) := by
  refine ⟨fun pins s σ H Q I h => ?_⟩
  refine wpAny_Call_Name_kw (ld_glob I hg hm ?_ hdb)
  refine PySem.W.callWith_K0 I.kIn T.kC ?_
  obtain ⟨_, _, h⟩ := (show (0 : Nat) = 0 ∧ (0 : Nat) = 0 ∧ _ from h)
  exact run_mkE (us := []) (vs := []) (ws := []) (zs := []) (n := 0) (ks := []) T iC tI F1 hr hb (by decide) hx I .nil .nil rfl rfl h
/-- C(e, ..) -/
theorem pe_mkE (hn : n ≤ 1000) (T : OexC X.K C) (iC : PySem.W.findIn X.K (.ref C) "__init__" = some (some (.ref fI))) (tI : PySem.W.typeIn X.K (.ref fI) = some (.type "function"))
    (F1 : FnOk X.prog X.w X.K X.mg X.base CX k fI fd ps sp) (hr : Room (k + 1) X.A) (hg : Gl X x) (hm : X.mg x = some (.ref C)) (hb : KBn X.K fd ps (n + 1) [] g gV) (hx : Passes CX X (fun _ _ _ => False)) (ha : PA X (e :: es) t)
    (hdb : (x == ("__debug__" : Str)) = false := by decide) (he : starEach (e :: es) X.env = (false, eval e X.env) :: starEach es X.env := by rfl) (hpl : (backTo pos (starEach es X.env)).any (·.1) = false := by rfl) :
    PE X (.Call (.Name x p) (e :: es) [] pos) (tMkE C n 0 sp gV t tNil) := by
  refine ⟨fun pins s σ H Q I h => ?_⟩
  refine wpAny_Call_Name_kw (ld_glob I hg hm ?_ hdb)
  refine PySem.W.callWith_K (h₀ := X.base) I.ok.mod.kin T.kC (thn (ha.run pos pins s σ H _ I h) fun us s1 ⟨vs, H1, I1, r1, hz, _, q1⟩ => ⟨I1.kIn, ?_⟩) he hpl
  exact run_mkE (ws := []) (zs := []) (n := n) (ks := []) T iC tI F1 hr hb hn hx I1 r1 .nil hz rfl q1
/-- C(k = v, ..) -/
theorem pe_mkEK (T : OexC X.K C) (iC : PySem.W.findIn X.K (.ref C) "__init__" = some (some (.ref fI))) (tI : PySem.W.typeIn X.K (.ref fI) = some (.type "function"))
    (F1 : FnOk X.prog X.w X.K X.mg X.base CX k fI fd ps sp) (hr : Room (k + 1) X.A) (hg : Gl X x) (hm : X.mg x = some (.ref C)) (hb : KBn X.K fd ps 1 ks g gV) (hx : Passes CX X (fun _ _ _ => False)) (hkw : PK X kws tk)
    (hall : (backToKw pos (keywordEach kws X.env)).all (·.1.isSome) = true := by rfl) (hks : (backToKw pos (keywordEach kws X.env)).filterMap (·.1) = ks := by rfl) (hdb : (x == ("__debug__" : Str)) = false := by decide)
    (hpl : ((backTo pos (starEach [] X.env)).any (·.1) || (backToKw pos (keywordEach kws X.env)).any (·.1.isNone)) = false := by rfl) :
    PE X (.Call (.Name x p) [] kws pos) (tMkE C 0 ks.length sp gV tNil tk) := by
  refine ⟨fun pins s σ H Q I h => ?_⟩
  refine wpAny_Call_Name_kw (ld_glob I hg hm ?_ hdb)
  refine PySem.W.callWith_KW0 (h₀ := X.base) I.ok.mod.kin T.kC hall ?_ hpl
  refine thn (hkw.run pos pins s σ H _ I h) fun ws s2 ⟨zs, H2, I2, rz, l1, l2, q2⟩ => ⟨I2.kIn, ?_⟩
  rw [hks]
  exact run_mkE (us := []) (vs := []) (n := 0) T iC tI F1 hr hb (by decide) hx I2 .nil rz rfl l2 q2
end
/-- values by place, then keywords in the parameters' order turned about -/
abbrev gR {α : Type} (us ws : List α) : List α := us ++ ws.reverse
theorem vals_rev : ∀ {vs : List V} {us : List Value}, Vals vs us → Vals vs.reverse us.reverse
  | _, _, .nil => .nil
  | _, _, .cons h k => by
    rw [List.reverse_cons, List.reverse_cons]
    exact (vals_rev k).append (.cons h .nil)
theorem kbn_of {K : PySem.W.Frag} {fd : FuncData} {ps ks : List Str} {n : Nat} (h : ∀ us ws : List Value, us.length = n → ws.length = ks.length → bindArgs fd ⟨us, ks.zip ws⟩ = pure (ps.zip (gR us ws))) : KBn K fd ps n ks gR gR :=
  ⟨fun s us ws _ l1 l2 => BindsTo.of_looks fun M => .of_pure (h us ws l1 l2), fun r1 r2 => r1.append (vals_rev r2)⟩
/-! ### f-strings -/
def tFs (ts : List TE) : TE := fun σ H Q => tJs ts Str.empty σ H fun out H1 => Q (.str out) H1
inductive FsL (σ : L2.St) (H : Hp) : List TE → Prop where
  | nil : FsL σ H []
  | cons {t : TE} {ts : List TE} {y : Str} (h : Ev t σ H (.str y)) (l : y.length ≤ 2000) (r : FsL σ H ts) : FsL σ H (t :: ts)
theorem FsL.ex {σ : L2.St} {H H' : Hp} {ts : List TE} (h : FsL σ H ts) (e : Ex H H') : FsL σ H' ts := by
  induction h with
  | nil => exact .nil
  | cons h l r ih => exact .cons (fun H1 e1 => h H1 (e.trans e1)) l ih
theorem fs_run {σ : L2.St} {ts : List TE} : ∀ {H : Hp} {acc : Str}, FsL σ H ts → acc.length + 2000 * ts.length ≤ 50000 → ∃ out, ∀ H1, Ex H H1 → ∀ Q : Str → Hp → Prop, (∀ H2, Ex H1 H2 → Q out H2) → tJs ts acc σ H1 Q := by
  induction ts with
  | nil => exact fun {H acc} _ _ => ⟨acc, fun H1 _ Q q => q H1 (Ex.refl H1)⟩
  | cons t ts ih =>
    intro H acc h hl
    cases h with
    | @cons _ _ y h l r =>
      rw [List.length_cons] at hl
      have hy : (acc ++ y).length = acc.length + y.length := PySem.Str.length_append acc y
      obtain ⟨out, q⟩ := ih (acc := acc ++ y) r (by omega)
      exact ⟨out, fun H1 e1 Q k => h H1 e1 _ fun H2 e2 => ⟨y, rfl, by rw [hy, sizeLine_eq]; omega, q H2 (e1.trans e2) Q fun H3 e3 => k H3 (e2.trans e3)⟩⟩
theorem fs_ev {σ : L2.St} {H : Hp} {ts : List TE} (h : FsL σ H ts) (hl : ts.length ≤ 10) : ∃ out, Ev (tFs ts) σ H (.str out) := by
  obtain ⟨out, q⟩ := fs_run (acc := Str.empty) h (by show 0 + _ ≤ _; omega)
  exact ⟨out, fun H1 e1 Q k => q H1 e1 _ k⟩
theorem ev_fmtI {σ : L2.St} {H : Hp} {te : TE} {i : Int} (h : Ev te σ H (.int i)) (hi : i.natAbs.log2 < 1900) : Ev (tFmt te) σ H (.str (toString i)) := fun H1 e1 Q q => h H1 e1 _ fun H2 e2 => .inr ⟨i, rfl, by omega, q H2 e2⟩
theorem ev_fmtS {σ : L2.St} {H : Hp} {te : TE} {y : Str} (h : Ev te σ H (.str y)) (hy : y.length ≤ 2000) : Ev (tFmt te) σ H (.str y) := fun H1 e1 Q q => h H1 e1 _ fun H2 e2 => .inl ⟨y, rfl, by rw [sizeLine_eq]; omega, q H2 e2⟩
theorem int_len {i : Int} (hi : i.natAbs.log2 < 1900) : (Str.ofString (toString i)).length ≤ 2000 := by
  have e := int_text_length_le (k := 1900) (by decide) hi
  rw [PySem.ofString_length]; omega
/-- what is known of the object at such an error -/
theorem inst_err {X : Cx} {pins : List (Addr × Obj)} {σ : L2.St} {H : Hp} {s : Shared} {a C : Addr} {fs : List (Str × V)} (I : Inv X pins σ H s) (h : ErrAt H a C fs) : ∃ (ox : Obj) (od : Option Obj), PySem.W.InstAt s.heap a ox C od := by
  rcases h with ⟨_, q⟩ | ⟨d, q, r⟩
  · obtain ⟨t1, e⟩ := exo_at I.hok q
    exact ⟨_, none, ⟨e, rfl, rfl, True.intro⟩⟩
  · obtain ⟨t1, e⟩ := exo_at I.hok q
    obtain ⟨mA, ⟨o, es, ep, ho, _⟩, _⟩ := exd_at I.hok r
    exact ⟨_, some o, ⟨e, rfl, rfl, ho⟩⟩
/-- isinstance(e, c) -/
def rIsErr (K : PySem.W.Frag) : List V → Hp → VK → Prop := fun xs H Q => ∃ (a D : Addr) (fs : List (Str × V)) (c : V) (cv : Value) (b : Bool), xs = [.ref a, c] ∧ ErrAt H a D fs ∧ ExcC K D ∧ (∀ u, RelV c u → u = cv) ∧ PySem.W.kitOne K (.ref D) cv = some b ∧ Q (.bl b) H
theorem call_isErr {X : Cx} : CallR X (.builtin "isinstance") (rIsErr X.K) := by
  intro pins s σ H xs us Q I r h
  obtain ⟨a, D, fs, c, cv, b, rfl, ea, C, hcv, e, q⟩ := h
  cases r with
  | cons rx rr =>
    cases rr with
    | cons rt rr =>
      cases rr
      cases rx
      have ec := hcv _ rt
      subst ec
      obtain ⟨ox, od, J⟩ := inst_err I ea
      exact PySem.W.kia_one (PySem.HmPX.kitx_errD C.hg C.hk C.hs C.hd C.ha C.hn C.ht C.hm) I.kIn J e (fun z => nomatch z) fun tk => ⟨.bl b, H, I.kept (t' := tk) fun _ _ z => z, rfl, q⟩
/-- e.f of such an error -/
def tErF (K : PySem.W.Frag) (f : Str) (te : TE) : TE := fun σ H Q => te σ H fun x H1 => ∃ (a C : Addr) (fs : List (Str × V)) (v : V), x = .ref a ∧ ErrAt H1 a C fs ∧ ExcC K C ∧ PySem.W.findIn K (.ref C) f = some none ∧ fs.lookup f = some v ∧ Q v H1
theorem pe_erF {X : Cx} {e : Expr} {te : TE} {pos : Pos} {n : Str} (he : PE X e te) (hb : attributeBase e n X.env (eval e X.env) = eval e X.env := by rfl) : PE X (.Attribute e n pos) (tErF X.K n te) := by
  refine ⟨fun pins s σ H Q I h => ?_⟩
  refine attr_of hb (thn (he.run pins s σ H _ I h) fun u s1 hh => ?_)
  obtain ⟨x, H1, I1, rx, a, C, fs, v, ex, ea, T, hno, l, q⟩ := hh
  subst ex
  obtain rfl : u = Value.ref a := rx
  rcases ea with ⟨rfl, _⟩ | ⟨d, ea, ed⟩
  · cases l
  obtain ⟨t1, e1⟩ := exo_at I1.hok ea
  obtain ⟨mA, hns, hr⟩ := exd_at I1.hok ed
  obtain ⟨od, ho, hl⟩ := lookIn_ns hns
  obtain ⟨u, hu, ru⟩ := RelO.some_of (v := v) (o := mA n) (by rw [← l]; exact hr n)
  have J : PySem.W.InstAt s1.heap a _ C (some od) := ⟨e1, rfl, rfl, ho⟩
  exact HandSPX.exc_get I1.kIn J T.hg T.hk T.hs (PySem.W.findObj_own T.hd hno rfl (by rw [hl, hu])) (handed_of ru) ⟨v, H1, I1.tok _, ru, q⟩
end Hm
namespace Hm
open PySem PySem.Spec PyProof.Rows L2 Evl
/-! ### the law's draws -/
def sp_Lpick (K : PySem.W.Frag) : Sp := fun vs H Q _ => ∃ (t : Addr) (m : Int), vs = [.ref t, .int m] ∧ Tp (H t) ∧ 1 ≤ m ∧ m ≤ 1000000 ∧
  ∀ (d : Int) H', 0 ≤ d → d < m → Tp (H' t) → ExO t H H' → Q (.int d) H'
abbrev nm_Lpick : List Str := ["_law_tape_here", "_law_many", "_law_digit", "_law_mixed"]
abbrev pr_Lpick : List Str := ["_law_tape_here", "_law_many"]
def t_Lpick (K : PySem.W.Frag) : TS :=
  (tSeq (tIfS (tTest (tOp zGe (tOp (rIxL K) (tVar 0) (tC (.int 0))) (tOp zPow (tC (.int 10)) (tC (.int 18))))) (tSeq (tAsg (tOp zMod (tCB cInt (tCons (tOp (rIxL K) (tVar 0) (tC (.int 0))) tNil)) (tVar 1)) (gName 2))
      (tSeq (tAsg (tOp zDiv (tOp (rIxL K) (tVar 0) (tC (.int 0))) (tVar 1)) (gSub (tVar 0) (tC (.int 0)) rSetL))
      (tRet (tVar 2)))) tNext)
  (tSeq (tAsg (tOp zMod (tCB cInt (tCons (tOp zAdd (tOp zAdd (tOp zMul (tOp (rIxL K) (tVar 0) (tC (.int 1))) (tC (.int 48271))) (tOp zMul (tOp (rIxL K) (tVar 0) (tC (.int 0))) (tC (.int 69621)))) (tC (.int 11))) tNil)) (tC (.int 2147483647))) (gSub (tVar 0) (tC (.int 1)) rSetL))
  (tSeq (tAsg (tOp zMod (tCB cInt (tCons (tOp zAdd (tOp zAdd (tOp zMul (tOp (rIxL K) (tVar 0) (tC (.int 1))) (tOp (rIxL K) (tVar 0) (tC (.int 1)))) (tOp zMul (tOp (rIxL K) (tVar 0) (tC (.int 1))) (tC (.int 40692)))) (tC (.int 7))) tNil)) (tC (.int 2147483399))) (gName 3))
  (tRet (tOp zMod (tCB cInt (tCons (tOp zDiv (tVar 3) (tC (.int 64))) tNil)) (tVar 1))))))
abbrev Wt_Lpick (K : PySem.W.Frag) (vs : List V) (H : Hp) (Q : VK) : Prop := t_Lpick K { nx := fun _ H' => Q .non H', rt := Q } (start nm_Lpick vs) H
theorem ln_Lpick {K : PySem.W.Frag} (vs : List V) (H : Hp) (Q : VK) (E : XK) (h : sp_Lpick K vs H Q E) : vs.length = pr_Lpick.length := by
  obtain ⟨_, _, rfl, _⟩ := h
  rfl
theorem ev_ix0 {K : PySem.W.Frag} {σ : L2.St} {H : Hp} {t : Addr} {x y : Int} {i : Nat} (hs : σ[i]? = some (some (.ref t))) (h : H t = some (.lst [.int x, .int y])) : Ev (tOp (rIxL K) (tVar i) (tC (.int 0))) σ H (.int x) :=
  ev_op (ev_var hs) ev_c (rv_ixL (sq_of h) rfl)
theorem ev_ix1 {K : PySem.W.Frag} {σ : L2.St} {H : Hp} {t : Addr} {x y : Int} {i : Nat} (hs : σ[i]? = some (some (.ref t))) (h : H t = some (.lst [.int x, .int y])) : Ev (tOp (rIxL K) (tVar i) (tC (.int 1))) σ H (.int y) :=
  ev_op (ev_var hs) ev_c (rv_ixL (sq_of h) rfl)
theorem fmod_pos {a b : Int} (h : 0 < b) : 0 ≤ a.fmod b ∧ a.fmod b < b := ⟨Int.fmod_nonneg_of_pos a h, Int.fmod_lt_of_pos a h⟩
theorem fdiv_nn {a b : Int} (ha : 0 ≤ a) (hb : 0 < b) : 0 ≤ a.fdiv b := Int.fdiv_nonneg ha (Int.le_of_lt hb)
theorem rd_Lpick0 {K : PySem.W.Frag} (vs : List V) (H : Hp) (Q : VK) (E : XK) (h : sp_Lpick K vs H Q E) : Wt_Lpick K vs H Q := by
  obtain ⟨t, m, rfl, ⟨x, y, ht, hx, hy, hy2⟩, hm, hm2, k⟩ := h
  show t_Lpick K _ [some (.ref t), some (.int m), none, none] H
  have hm0 : m ≠ 0 := by omega
  refine q_when (b := decide ((10 : Int) ^ (18 : Int).toNat ≤ x)) (et_test (ev_op (ev_ix0 rfl ht) (ev_op ev_c ev_c (rv_I ⟨by decide, by decide, by decide⟩)) rv_I0)) (fun hb H1 e1 => ?_) (fun hb H1 e1 => ?_)
  · have ht1 := e1 _ _ ht
    refine q_asg (ev_op (ev_cb (ea_1 (ev_ix0 rfl ht1)) rc_int) (ev_var rfl) (rv_I hm0)) (fun H2 e2 => ?_)
    have ht2 := e2 _ _ ht1
    refine q_setL (j := 0) ht2 (ev_op (ev_ix0 rfl ht2) (ev_var rfl) (rv_I ⟨hm0, by omega⟩)) (ev_var rfl) ev_c (by show 0 < 2; decide) (fun H3 e3 => ?_)
    refine s_ret (ev_var rfl) (fun H4 e4 => ?_)
    obtain ⟨d1, d2⟩ := fmod_pos (a := x) (b := m) (by omega)
    refine k _ _ d1 d2 ⟨_, _, e4 _ _ upd_same, fdiv_nn hx (by omega), hy, hy2⟩ ?_
    exact ((ExO.of (e1.trans (e2.trans e3))).upd).trans (ExO.of e4)
  · have hb := of_decide_eq_false hb
    have hx2 : x < 1000000000000000000 := by
      have : (10 : Int) ^ (18 : Int).toNat = 1000000000000000000 := by decide
      omega
    have ht1 := e1 _ _ ht
    refine q_setL (j := 1) ht1 (ev_op (ev_cb (ea_1 (ev_op (ev_op (ev_op (ev_ix1 rfl ht1) ev_c (rv_I (Or.inr ⟨by decide, by decide⟩))) (ev_op (ev_ix0 rfl ht1) ev_c (rv_I (Or.inr ⟨by decide, by decide⟩))) rv_I0) ev_c rv_I0)) rc_int) ev_c (rv_I (by decide))) (ev_var rfl) ev_c (by show 1 < 2; decide) (fun H2 e2 => ?_)
    obtain ⟨z1, z2⟩ := fmod_pos (a := y * 48271 + x * 69621 + 11) (b := 2147483647) (by decide)
    have ht2 : (upd H2 t (.lst ([V.int x, V.int y].set 1 (V.int ((y * 48271 + x * 69621 + 11).fmod 2147483647))))) t = some (.lst [.int x, .int ((y * 48271 + x * 69621 + 11).fmod 2147483647)]) := upd_same
    have hz : ∀ z : Int, z = (y * 48271 + x * 69621 + 11).fmod 2147483647 → 0 ≤ z ∧ z < 2147483647 := fun z e => by rw [e]; exact ⟨z1, z2⟩
    revert ht2
    generalize (y * 48271 + x * 69621 + 11).fmod 2147483647 = z at *
    intro ht2
    have hz := hz z rfl
    refine q_asg (ev_op (ev_cb (ea_1 (ev_op (ev_op (ev_op (ev_ix1 rfl ht2) (ev_ix1 rfl ht2) (rv_I (Or.inr ⟨by omega, by omega⟩))) (ev_op (ev_ix1 rfl ht2) ev_c (rv_I (Or.inr ⟨by decide, by decide⟩))) rv_I0) ev_c rv_I0)) rc_int) ev_c (rv_I (by decide))) (fun H3 e3 => ?_)
    refine s_ret (ev_op (ev_cb (ea_1 (ev_op (ev_var rfl) ev_c (rv_I ⟨by decide, by decide⟩))) rc_int) (ev_var rfl) (rv_I hm0)) (fun H4 e4 => ?_)
    obtain ⟨d1, d2⟩ := fmod_pos (a := ((z * z + z * 40692 + 7).fmod 2147483399).fdiv 64) (b := m) (by omega)
    refine k _ _ d1 d2 ⟨x, z, e4 _ _ (e3 _ _ ht2), hx, hz.1, hz.2⟩ ?_
    exact ((ExO.of (e1.trans e2)).upd).trans (ExO.of (e3.trans e4))
theorem rd_Lpick {K : PySem.W.Frag} (F : KF K) (vs : List V) (H : Hp) (Q : VK) (E : XK) (h : sp_Lpick K vs H Q E) : Wt_Lpick K vs H Q := rd_Lpick0 vs H Q E h
def sp_Ltape (K : PySem.W.Frag) : Sp := fun vs H Q _ => ∃ (a : Addr) (zs : List Int) (k : Int), vs = [.ref a, .int k] ∧ SqL K H a (zs.map V.int) ∧ 0 ≤ k ∧ k ≤ 100 ∧
  ∀ p H', H p = none → Tp (H' p) → Ex H H' → Q (.ref p) H'
abbrev nm_Ltape : List Str := ["_law_script", "_law_k", "_law_cell"]
abbrev pr_Ltape : List Str := ["_law_script", "_law_k"]
def t_Ltape (K : PySem.W.Frag) : TS :=
  (tSeq (tAsg (tC (.int 0)) (gName 2))
  (tSeq (tIfS (tTest (tOp (rNeD K) (tVar 0) (tLst tNil))) (tAsg (tOp (rIxL K) (tVar 0) (tOp zMod (tCB cInt (tCons (tVar 1) tNil)) (tCB (cLen K) (tCons (tVar 0) tNil)))) (gName 2)) tNext)
  (tRet (tLst (tCons (tCB cAbs (tCons (tVar 2) tNil)) (tCons (tOp zAdd (tOp zMul (tC (.int 7919)) (tVar 1)) (tC (.int 104729))) tNil))))))
abbrev Wt_Ltape (K : PySem.W.Frag) (vs : List V) (H : Hp) (Q : VK) : Prop := t_Ltape K { nx := fun _ H' => Q .non H', rt := Q } (start nm_Ltape vs) H
theorem ln_Ltape {K : PySem.W.Frag} (vs : List V) (H : Hp) (Q : VK) (E : XK) (h : sp_Ltape K vs H Q E) : vs.length = pr_Ltape.length := by
  obtain ⟨_, _, _, rfl, _⟩ := h
  rfl
theorem dpAll_ints {K : PySem.W.Frag} {H : Hp} : ∀ zs : List Int, DpAll K H (zs.map V.int) (zs.map PyData.int)
  | [] => .nil
  | z :: r => .cons (.int z) (dpAll_ints r)
theorem shaped_ints (zs : List Int) : SeqAt.shaped (.list (zs.map PyData.int)) = true := by
  have h : ∀ zs : List Int, PyData.canLayAll0 (zs.map PyData.int) = true ∧ PyData.depthAll (zs.map PyData.int) = 0 := by
    intro zs
    induction zs with
    | nil => exact ⟨by simp [PyData.canLayAll0], by simp [PyData.depthAll]⟩
    | cons n r ih => exact ⟨by simp [PyData.canLayAll0, PyData.canLay0, ih.1], by simp [PyData.depthAll, PyData.depth, ih.2]⟩
  obtain ⟨h1, h2⟩ := h zs
  have e1 : PyData.canLay0 (.list (zs.map PyData.int)) = true := by simp [PyData.canLay0, h1]
  have e2 : PyData.depth (.list (zs.map PyData.int)) ≤ 64 := by simp [PyData.depth, h2]
  unfold SeqAt.shaped
  rw [e1, decide_eq_true e2]
  rfl
theorem eqv_nil (zs : List Int) : PyData.eqv (.list (zs.map PyData.int)) (.list []) = zs.isEmpty := by
  cases zs <;> simp [PyData.eqv, PyData.eqvAll]
theorem rd_Ltape0 {K : PySem.W.Frag} (vs : List V) (H : Hp) (Q : VK) (E : XK) (h : sp_Ltape K vs H Q E) : Wt_Ltape K vs H Q := by
  obtain ⟨a, zs, k, rfl, hS, k0, k1, q⟩ := h
  show t_Ltape K _ [some (.ref a), some (.int k), none] H
  refine q_asg ev_c (fun H1 e1 => ?_)
  have hS1 := ex_l e1 hS
  have fin : ∀ (c : Int) (H2 : Hp), Ex H H2 → tRet (tLst (tCons (tCB cAbs (tCons (tVar 2) tNil)) (tCons (tOp zAdd (tOp zMul (tC (.int 7919)) (tVar 1)) (tC (.int 104729))) tNil))) { nx := fun _ H' => Q .non H', rt := Q } [some (.ref a), some (.int k), some (.int c)] H2 := by
    intro c H2 e2
    refine s_retL (el_lst (ea_2 (ev_cb (ea_1 (ev_var rfl)) rc_abs) (ev_op (ev_op ev_c (ev_var rfl) (rv_I (Or.inl ⟨by decide, by decide⟩))) ev_c rv_I0)) (by show 2 ≤ 100000; decide)) (fun p H3 hp e3 h3 => ?_)
    refine q p H3 (fresh_back e2 hp) ⟨_, _, h3, ?_, by dsimp only; omega, by dsimp only; omega⟩ (e2.trans e3)
    split <;> omega
  refine q_when (b := !zs.isEmpty) (et_test (ev_opL (xs := []) (ev_var rfl) (el_lst ea_nil (Nat.zero_le _)) (fun p H2 hp e2 => ?_))) (fun hb H2 e2 => ?_) (fun hb H2 e2 => ?_)
  · rw [← eqv_nil]
    exact rv_neD' (Dp.lst (ex_l e2 hS1) (dpAll_ints zs)) (Dp.lst (sq_of hp) .nil) (shaped_ints zs) (by decide)
  · have hS2 := ex_l e2 hS1
    have hl : 0 < zs.length := by
      cases zs with
      | nil => cases hb
      | cons z r => exact Nat.succ_pos _
    have hl2 : (zs.map V.int).length = zs.length := List.length_map ..
    obtain ⟨m1, m2⟩ := fmod_pos (a := k) (b := ((zs.map V.int).length : Int)) (by omega)
    have hj : (k.fmod ((zs.map V.int).length : Int)).toNat < zs.length := by omega
    have hat : atI (zs.map V.int) (k.fmod ((zs.map V.int).length : Int)) = some (.int (zs[(k.fmod ((zs.map V.int).length : Int)).toNat]'hj)) := by
      refine at_of (j := (k.fmod ((zs.map V.int).length : Int)).toNat) (by omega) ?_
      rw [List.getElem?_map, List.getElem?_eq_getElem hj]
      rfl
    refine s_asg (ev_op (ev_var rfl) (ev_op (ev_cb (ea_1 (ev_var rfl)) rc_int) (ev_cb (ea_1 (ev_var rfl)) (rc_len hS2)) (rv_I (by omega))) (rv_ixL hS2 hat)) (fun H3 e3 => ?_)
    exact fin _ H3 (e1.trans (e2.trans e3))
  · exact fin 0 H2 (e1.trans e2)
theorem rd_Ltape {K : PySem.W.Frag} (F : KF K) (vs : List V) (H : Hp) (Q : VK) (E : XK) (h : sp_Ltape K vs H Q E) : Wt_Ltape K vs H Q := rd_Ltape0 vs H Q E h
end Hm
namespace Hm
open PySem PySem.Spec PyProof.Rows L2 Evl
section
variable {K : PySem.W.Frag} {σ : L2.St} {H : Hp} {ta tb te : TE} {D : Ends} {tz : TS}
theorem q_asgC {sp : Sp} {E : XK} {ta : TA} {vs : List V} {i : Nat} (h : EvA ta σ H vs) (k : ∀ H1, Ex H H1 → sp vs H1 (fun v H2 => tz D (σ.set i (some v)) H2) E) : tSeq (tAsg (tCall sp [] E ta) (gName i)) tz D σ H :=
  h H (Ex.refl H) _ fun H1 e => by
    show sp (vs ++ []) H1 _ E
    rw [List.append_nil]
    exact k H1 e
theorem s_asgC {sp : Sp} {E : XK} {ta : TA} {vs : List V} {i : Nat} (h : EvA ta σ H vs) (k : ∀ H1, Ex H H1 → sp vs H1 (fun v H2 => D.nx (σ.set i (some v)) H2) E) : tAsg (tCall sp [] E ta) (gName i) D σ H :=
  h H (Ex.refl H) _ fun H1 e => by
    show sp (vs ++ []) H1 _ E
    rw [List.append_nil]
    exact k H1 e
theorem s_retC {sp : Sp} {E : XK} {ta : TA} {vs : List V} (h : EvA ta σ H vs) (k : ∀ H1, Ex H H1 → sp vs H1 D.rt E) : tRet (tCall sp [] E ta) D σ H :=
  h H (Ex.refl H) _ fun H1 e => by
    show sp (vs ++ []) H1 _ E
    rw [List.append_nil]
    exact k H1 e
theorem el_cat {xs ys : List V} (ha : EvL ta σ H xs) (hb : EvL tb σ H ys) (hz : xs.length + ys.length ≤ 100000) : EvL (tOp rCat ta tb) σ H (xs ++ ys) := fun H1 e Q q =>
  ha H1 e _ fun p H2 _ e2 h2 => hb H2 (e.trans e2) _ fun p' H3 _ e3 h3 => ⟨p, p', xs, ys, rfl, rfl, e3 _ _ h2, h3, sz_of hz, fun r hr => q r _ (fresh_back (e2.trans e3) hr) ((e2.trans e3).trans (Ex.new hr)) upd_same⟩
end
theorem given_all (n : Nat) (v : Nat → V) : given n (fun _ => true) v = (List.range n).map v := by
  show ((List.range n).filter fun _ => true).map v = _
  rw [List.filter_eq_self.mpr fun _ _ => rfl]
theorem cut_to {xs : List V} {j : Nat} (h : j ≤ xs.length) : cutV xs none (some (j : Int)) = xs.take j := by
  unfold cutV
  rw [HT.sIx_none, HT.sIx_nat, Nat.min_eq_left h]
  rfl
theorem cut_from {xs : List V} {j : Nat} (h : j ≤ xs.length) : cutV xs (some (j : Int)) none = xs.drop j := by
  unfold cutV
  rw [HT.sIx_none, HT.sIx_nat, Nat.min_eq_left h]
  rw [List.take_of_length_le (by rw [List.length_drop]; exact Nat.le_refl _)]
theorem L_take (ns : List Nat) (j : Nat) : (L ns).take j = L (ns.take j) := by unfold L; rw [List.map_take]
theorem L_drop (ns : List Nat) (j : Nat) : (L ns).drop j = L (ns.drop j) := by unfold L; rw [List.map_drop]
theorem perm_out {l : List Nat} {j : Nat} (h : j < l.length) : (fn l j :: (l.take j ++ l.drop (j + 1))).Perm l := by
  have e : l = l.take j ++ fn l j :: l.drop (j + 1) := by
    have h2 : l.drop j = fn l j :: l.drop (j + 1) := by
      rw [List.drop_eq_getElem_cons h]
      have h3 := fn_get h
      rw [List.getElem?_eq_getElem h] at h3
      rw [Option.some.inj h3]
    rw [← h2, List.take_append_drop]
  have h4 : (l.take j ++ fn l j :: l.drop (j + 1)).Perm (fn l j :: (l.take j ++ l.drop (j + 1))) := List.perm_middle
  rw [← e] at h4
  exact h4.symm

def sp_Lnexts (K : PySem.W.Frag) : Sp := fun vs H Q _ => ∃ (t : Addr) (e : Nat), vs = [.ref t, .int (e : Int)] ∧ Tp (H t) ∧ e ≤ 60 ∧
  ∀ p H' ns, H p = none → H' p = some (.lst (L ns)) → IsP ns → ns.length = 2 * e → Tp (H' t) → ExO t H H' → Q (.ref p) H'
abbrev nm_Lnexts : List Str := ["_law_tape_here", "_law_edges", "_law_k", "_law_left", "_law_nexts_here", "_law_at"]
abbrev pr_Lnexts : List Str := ["_law_tape_here", "_law_edges"]
def t_Lnexts (K : PySem.W.Frag) : TS :=
  (tSeq (tAsg (tLc (iRng1 (tCons (tOp zMul (tC (.int 2)) (tVar 1)) tNil)) (gName 2) tYes (tVar 2) [2]) (gName 3))
  (tSeq (tAsg (tLst tNil) (gName 4))
  (tSeq (tFor (iRng1 (tCons (tOp zMul (tC (.int 2)) (tVar 1)) tNil)) (gName 2) (tSeq (tAsg (tCall (sp_Lpick K) [] E0 (tCons (tVar 0) (tCons (tCB (cLen K) (tCons (tVar 3) tNil)) tNil))) (gName 5))
      (tSeq (tDrop (tBM K "list" rAppend (tVar 4) (tCons (tOp (rIxL K) (tVar 3) (tVar 5)) tNil)))
      (tAsg (tOp rCat (tSl (rSlL K) (tVar 3) tNoPart (tPart (tVar 5))) (tSl (rSlL K) (tVar 3) (tPart (tOp zAdd (tVar 5) (tC (.int 1)))) tNoPart)) (gName 3)))))
  (tRet (tVar 4)))))
abbrev Wt_Lnexts (K : PySem.W.Frag) (vs : List V) (H : Hp) (Q : VK) : Prop := t_Lnexts K { nx := fun _ H' => Q .non H', rt := Q } (start nm_Lnexts vs) H
theorem ln_Lnexts {K : PySem.W.Frag} (vs : List V) (H : Hp) (Q : VK) (E : XK) (h : sp_Lnexts K vs H Q E) : vs.length = pr_Lnexts.length := by
  obtain ⟨_, _, rfl, _⟩ := h
  rfl
theorem tp_ne {H : Hp} {t p : Addr} (h : Tp (H t)) (hp : H p = none) : p ≠ t := by
  obtain ⟨_, _, h, _⟩ := h
  exact (ne_of_none h hp).symm
theorem tp_ex {H H' : Hp} {t : Addr} (h : Tp (H t)) (e : Ex H H') : Tp (H' t) := by
  obtain ⟨x, y, h, r⟩ := h
  exact ⟨x, y, e _ _ h, r⟩
theorem rd_Lnexts0 {K : PySem.W.Frag} (vs : List V) (H : Hp) (Q : VK) (E : XK) (h : sp_Lnexts K vs H Q E) : Wt_Lnexts K vs H Q := by
  obtain ⟨t, e, rfl, ht, he, k⟩ := h
  show t_Lnexts K _ [some (.ref t), some (.int (e : Int)), none, none, none, none] H
  have hn : ∀ σ H1, σ[1]? = some (some (V.int (e : Int))) → EvA (tCons (tOp zMul (tC (.int 2)) (tVar 1)) tNil) σ H1 [.int (2 * (e : Int))] := fun σ H1 hs => ea_1 (ev_op ev_c (ev_var hs) (rv_I (Or.inl ⟨by decide, by decide⟩)))
  have h2 : ((2 * (e : Int)).toNat) = 2 * e := by omega
  refine q_asgL (xs := L (List.range (2 * e))) ?_ (fun pl H1 hpl e1 h1 => ?_)
  · have := el_lcR1 (σ := [some (.ref t), some (.int (e : Int)), none, none, none, none]) (H := H) (j := 2) (vs := [2]) (t := tYes) (te := tVar 2) (fun _ => true) (fun i => vi i) (hn _ H rfl) (by omega) (fun _ => rfl) (fun i H1 _ _ => et_yes) (fun i H1 _ _ _ => ev_var rfl)
    rw [given_all, h2] at this
    exact this
  refine q_asgL (el_lst ea_nil (Nat.zero_le _)) (fun pn H2 hpn e2 hp2 => ?_)
  have hpn0 : H pn = none := fresh_back e1 hpn
  have hpt : pn ≠ t := tp_ne ht hpn0
  refine q_forR1 (hn _ _ rfl) (by omega) (fun i σ' H' => ∃ (left done : List Nat) (pl : Addr) (v2 v5 : Option V), σ' = [some (.ref t), some (.int (e : Int)), v2, some (.ref pl), some (.ref pn), v5] ∧
      H' pl = some (.lst (L left)) ∧ H' pn = some (.lst (L done)) ∧ pl ≠ pn ∧ pl ≠ t ∧ Tp (H' t) ∧ ExO t H H' ∧ (done ++ left).Perm (List.range (2 * e)) ∧ done.length = i) ?_ ?_ ?_
  · intro H3 e3
    refine ⟨List.range (2 * e), [], pl, _, _, rfl, e3 _ _ (e2 _ _ h1), e3 _ _ hp2, ne_of_none h1 hpn, tp_ne ht hpl, tp_ex (tp_ex (tp_ex ht e1) e2) e3, ExO.of (e1.trans (e2.trans e3)), ?_, rfl⟩
    exact List.Perm.refl _
  · rintro i σ' H' hi ⟨left, done, pl, v2, v5, rfl, a1, a2, a3, a4, a5, a6, a7, a8⟩
    have hlen : done.length + left.length = 2 * e := by
      have := a7.length_eq
      rw [List.length_append, List.length_range] at this
      exact this
    have hleft : 0 < left.length := by omega
    refine q_asgC (ea_2 (ev_var rfl) (ev_cb (ea_1 (ev_var rfl)) (rc_len (sq_of a1)))) (fun H1 e1 => ?_)
    refine ⟨t, _, rfl, tp_ex a5 e1, by rw [L_len]; omega, by rw [L_len]; omega, fun d H2 d0 d1 t2 x2 => ?_⟩
    have b1 : H2 pl = some (.lst (L left)) := x2 _ _ a4 (e1 _ _ a1)
    have b2 : H2 pn = some (.lst (L done)) := x2 _ _ hpt (e1 _ _ a2)
    rw [L_len] at d1
    obtain ⟨j, rfl⟩ : ∃ j : Nat, d = (j : Int) := ⟨d.toNat, by omega⟩
    have hj : j < left.length := by omega
    have hx2 : ExO t H H2 := a6.trans ((ExO.of e1).trans x2)
    refine q_app b2 (ev_var rfl) (ev_op (ev_var rfl) (ev_var rfl) (rv_ixL (sq_of b1) (L_at hj))) (by rw [L_len]; omega) (fun H3 e3 => ?_)
    have c1 : (upd H3 pn (.lst (L done ++ [vi (fn left j)]))) pl = some (.lst (L left)) := by
      rw [upd_ne a3]
      exact e3 _ _ b1
    have el1 := el_sl (K := K) (te := tVar 3) (tl := tNoPart) (th := tPart (tVar 5)) (σ := [some (.ref t), some (.int (e : Int)), some (vi i), some (.ref pl), some (.ref pn), some (vi j)]) (ev_var rfl) eo_none (eo_some (ev_var rfl)) (sq_of c1)
    have el2 := el_sl (K := K) (te := tVar 3) (tl := tPart (tOp zAdd (tVar 5) (tC (.int 1)))) (th := tNoPart) (σ := [some (.ref t), some (.int (e : Int)), some (vi i), some (.ref pl), some (.ref pn), some (vi j)]) (ev_var rfl) (eo_some (ev_op (ev_var rfl) ev_c rv_I0)) eo_none (sq_of c1)
    have ej : ((j : Int) + 1) = ((j + 1 : Nat) : Int) := by omega
    rw [cut_to (by rw [L_len]; omega), L_take] at el1
    simp only [ej] at el2
    rw [cut_from (by rw [L_len]; omega), L_drop] at el2
    refine s_asgL (el_cat el1 el2 (by rw [L_len, L_len, List.length_take, List.length_drop]; omega)) (fun pq H4 hpq e4 h4 => ?_)
    have hq1 : pq ≠ pn := (ne_of_none upd_same hpq).symm
    have t3 : Tp ((upd H3 pn (.lst (L done ++ [vi (fn left j)]))) t) := by
      rw [upd_ne hpt.symm]
      exact tp_ex t2 e3
    have hq2 : pq ≠ t := tp_ne t3 hpq
    refine ⟨left.take j ++ left.drop (j + 1), done ++ [fn left j], pq, _, _, rfl, by rw [h4, L_app], by rw [e4 _ _ upd_same, L_app]; rfl, hq1, hq2, tp_ex t3 e4, ((hx2.trans (ExO.of e3)).mut hpn0).trans (ExO.of e4), ?_, by rw [List.length_append]; show done.length + 1 = i + 1; omega⟩
    refine List.Perm.trans ?_ a7
    rw [List.append_assoc]
    exact List.Perm.append_left _ (perm_out hj)
  · rintro σ' H' ⟨left, done, pl, v2, v5, rfl, a1, a2, a3, a4, a5, a6, a7, a8⟩
    rw [h2] at a8
    have hlen : done.length + left.length = 2 * e := by
      have := a7.length_eq
      rw [List.length_append, List.length_range] at this
      exact this
    have hl0 : left = [] := List.eq_nil_of_length_eq_zero (by omega)
    subst hl0
    rw [List.append_nil] at a7
    refine s_ret (ev_var rfl) (fun H1 e1 => ?_)
    exact k pn H1 done hpn0 (e1 _ _ a2) ⟨by rw [a8]; exact a7⟩ a8 (tp_ex a5 e1) (a6.trans (ExO.of e1))

theorem rd_Lnexts {K : PySem.W.Frag} (F : KF K) (vs : List V) (H : Hp) (Q : VK) (E : XK) (h : sp_Lnexts K vs H Q E) : Wt_Lnexts K vs H Q := rd_Lnexts0 vs H Q E h
def sp_Lsize (K : PySem.W.Frag) : Sp := fun vs H Q _ => ∃ t : Addr, vs = [.ref t] ∧ Tp (H t) ∧ ∀ (e : Nat) H', e ≤ 30 → Tp (H' t) → ExO t H H' → Q (.int (e : Int)) H'
abbrev nm_Lsize : List Str := ["_law_tape_here", "_law_choice"]
abbrev pr_Lsize : List Str := ["_law_tape_here"]
def t_Lsize (K : PySem.W.Frag) : TS :=
  (tSeq (tAsg (tCall (sp_Lpick K) [] E0 (tCons (tVar 0) (tCons (tC (.int 32)) tNil))) (gName 1))
  (tSeq (tIfS (tTest (tOp rEq (tVar 1) (tC (.int 0)))) (tRet (tC (.int 30))) tNext)
  (tSeq (tIfS (tTest (tOp zLt (tVar 1) (tC (.int 5)))) (tRet (tCall (sp_Lpick K) [] E0 (tCons (tVar 0) (tCons (tC (.int 13)) tNil)))) tNext)
  (tRet (tCall (sp_Lpick K) [] E0 (tCons (tVar 0) (tCons (tC (.int 8)) tNil)))))))
abbrev Wt_Lsize (K : PySem.W.Frag) (vs : List V) (H : Hp) (Q : VK) : Prop := t_Lsize K { nx := fun _ H' => Q .non H', rt := Q } (start nm_Lsize vs) H
theorem ln_Lsize {K : PySem.W.Frag} (vs : List V) (H : Hp) (Q : VK) (E : XK) (h : sp_Lsize K vs H Q E) : vs.length = pr_Lsize.length := by
  obtain ⟨_, rfl, _⟩ := h
  rfl
theorem rd_Lsize {K : PySem.W.Frag} (F : KF K) (vs : List V) (H : Hp) (Q : VK) (E : XK) (h : sp_Lsize K vs H Q E) : Wt_Lsize K vs H Q := by
  obtain ⟨t, rfl, ht, k⟩ := h
  show t_Lsize K _ [some (.ref t), none] H
  have dr : ∀ (m : Int) σ H2, σ[0]? = some (some (V.ref t)) → 1 ≤ m → m ≤ 30 → Tp (H2 t) → ExO t H H2 → tRet (tCall (sp_Lpick K) [] E0 (tCons (tVar 0) (tCons (tC (.int m)) tNil))) { nx := fun _ H' => Q .non H', rt := Q } σ H2 := by
    intro m σ H2 hs m1 m2 t2 x2
    refine s_retC (ea_2 (ev_var hs) ev_c) (fun H3 e3 => ?_)
    refine ⟨t, m, rfl, tp_ex t2 e3, m1, by omega, fun d H4 d0 d1 t4 x4 => ?_⟩
    obtain ⟨j, rfl⟩ : ∃ j : Nat, d = (j : Int) := ⟨d.toNat, by omega⟩
    exact k j H4 (by omega) t4 (x2.trans ((ExO.of e3).trans x4))
  refine q_asgC (ea_2 (ev_var rfl) ev_c) (fun H1 e1 => ?_)
  refine ⟨t, 32, rfl, tp_ex ht e1, by decide, by decide, fun d H2 d0 d1 t2 x2 => ?_⟩
  have hx2 : ExO t H H2 := (ExO.of e1).trans x2
  refine q_when (b := decide (V.int d = V.int 0)) (et_test (ev_op (ev_var rfl) ev_c (rv_eq rfl))) (fun _ H3 e3 => ?_) (fun _ H3 e3 => ?_)
  · refine s_ret ev_c (fun H4 e4 => ?_)
    exact k 30 H4 (by omega) (tp_ex t2 (e3.trans e4)) (hx2.trans (ExO.of (e3.trans e4)))
  · refine q_when (b := decide (d < 5)) (et_test (ev_op (ev_var rfl) ev_c rv_I0)) (fun _ H4 e4 => ?_) (fun _ H4 e4 => ?_)
    · exact dr 13 _ H4 rfl (by decide) (by decide) (tp_ex t2 (e3.trans e4)) (hx2.trans (ExO.of (e3.trans e4)))
    · exact dr 8 _ H4 rfl (by decide) (by decide) (tp_ex t2 (e3.trans e4)) (hx2.trans (ExO.of (e3.trans e4)))

/-! ### the law's rounds -/
def sp_Ltwin (K : PySem.W.Frag) : Sp := fun vs H Q _ => ∃ h : Nat, vs = [vi h] ∧ ∀ H', Ex H H' → Q (vi (tw h)) H'
abbrev nm_Ltwin : List Str := ["_law_half"]
abbrev pr_Ltwin : List Str := ["_law_half"]
def t_Ltwin (K : PySem.W.Frag) : TS :=
  (tRet (tOp zSub (tOp zAdd (tVar 0) (tC (.int 1))) (tOp zMul (tC (.int 2)) (tOp zMod (tCB cInt (tCons (tVar 0) tNil)) (tC (.int 2))))))
abbrev Wt_Ltwin (K : PySem.W.Frag) (vs : List V) (H : Hp) (Q : VK) : Prop := t_Ltwin K { nx := fun _ H' => Q .non H', rt := Q } (start nm_Ltwin vs) H
theorem ln_Ltwin {K : PySem.W.Frag} (vs : List V) (H : Hp) (Q : VK) (E : XK) (h : sp_Ltwin K vs H Q E) : vs.length = pr_Ltwin.length := by
  obtain ⟨_, rfl, _⟩ := h
  rfl
theorem tw_int (h : Nat) : (h : Int) + 1 - 2 * (h : Int).fmod 2 = ((tw h : Nat) : Int) := by
  rw [Int.fmod_eq_emod_of_nonneg _ (by decide)]
  unfold tw
  split <;> omega
theorem rd_Ltwin {K : PySem.W.Frag} (F : KF K) (vs : List V) (H : Hp) (Q : VK) (E : XK) (h : sp_Ltwin K vs H Q E) : Wt_Ltwin K vs H Q := by
  obtain ⟨h, rfl, k⟩ := h
  show t_Ltwin K _ [some (vi h)] H
  refine s_ret (v := vi (tw h)) (ev_is (ev_op (ev_op (ev_var rfl) ev_c rv_I0) (ev_op ev_c (ev_op (ev_cb (ea_1 (ev_var rfl)) rc_int) ev_c (rv_I (by decide))) (rv_I (Or.inl ⟨by decide, by decide⟩))) rv_I0) (by show V.int ((h : Int) + 1 - 2 * (h : Int).fmod 2) = V.int _; rw [tw_int])) (fun H1 e1 => k H1 e1)
theorem spv_Ltwin {K : PySem.W.Frag} {H : Hp} (h : Nat) : SpV (sp_Ltwin K) [vi h] H (vi (tw h)) := fun H1 _ Q q E => ⟨h, rfl, q⟩

def sp_Lturned (K : PySem.W.Frag) : Sp := fun vs H Q _ => ∃ (a : Addr) (ns : List Nat) (h : Nat), vs = [.ref a, vi h] ∧ SqL K H a (L ns) ∧ IsP ns ∧ ns.length ≤ 1000 ∧ h < ns.length ∧
  ∀ H', Ex H H' → Q (vi (tw (bk ns h))) H'
abbrev nm_Lturned : List Str := ["_law_nexts_here", "_law_half", "_law_k"]
abbrev pr_Lturned : List Str := ["_law_nexts_here", "_law_half"]
def t_Lturned (K : PySem.W.Frag) : TS :=
  (tSeq (tFor (iRng1 (tCons (tCB (cLen K) (tCons (tVar 0) tNil)) tNil)) (gName 2) (tIfS (tTest (tOp rEq (tOp (rIxL K) (tVar 0) (tVar 2)) (tVar 1))) (tRet (tCall (sp_Ltwin K) [] E0 (tCons (tVar 2) tNil))) tNext))
  (tRet (tUn zNeg (tC (.int 1)))))
abbrev Wt_Lturned (K : PySem.W.Frag) (vs : List V) (H : Hp) (Q : VK) : Prop := t_Lturned K { nx := fun _ H' => Q .non H', rt := Q } (start nm_Lturned vs) H
theorem ln_Lturned {K : PySem.W.Frag} (vs : List V) (H : Hp) (Q : VK) (E : XK) (h : sp_Lturned K vs H Q E) : vs.length = pr_Lturned.length := by
  obtain ⟨_, _, _, rfl, _⟩ := h
  rfl
theorem rd_Lturned {K : PySem.W.Frag} (F : KF K) (vs : List V) (H : Hp) (Q : VK) (E : XK) (h : sp_Lturned K vs H Q E) : Wt_Lturned K vs H Q := by
  obtain ⟨a, ns, h, rfl, hS, hP, hl, hh, k⟩ := h
  show t_Lturned K _ [some (.ref a), some (vi h), none] H
  refine q_forR1 (n := (ns.length : Int)) (ea_1 (ev_is (ev_cb (ea_1 (ev_var rfl)) (rc_len hS)) (by rw [L_len]))) (by omega) (fun i σ' H' => ∃ v, σ' = [some (.ref a), some (vi h), v] ∧ Ex H H' ∧ i ≤ bk ns h) ?_ ?_ ?_
  · intro H1 e1
    exact ⟨none, rfl, e1, Nat.zero_le _⟩
  · rintro i σ' H' hi ⟨v, rfl, ex, hb⟩
    have hi' : i < ns.length := by omega
    refine s_when (b := decide (vi (fn ns i) = vi h)) (et_test (ev_op (ev_op (ev_var rfl) (ev_var rfl) (rv_ixL (ex_l ex hS) (L_at hi'))) (ev_var rfl) (rv_eq rfl))) (fun ht H1 e1 => ?_) (fun hf H1 e1 => ?_)
    · have e0 : fn ns i = h := by
        have := of_decide_eq_true ht
        injection this with this
        omega
      have e2 : i = bk ns h := by rw [← e0, bk_fn hP hi']
      refine s_retC (ea_1 (ev_var rfl)) (fun H2 e2' => ?_)
      refine ⟨i, rfl, fun H3 e3 => ?_⟩
      show Q (vi (tw i)) H3
      rw [e2]
      exact k H3 (ex.trans (e1.trans (e2'.trans e3)))
    · refine ⟨_, rfl, ex.trans e1, ?_⟩
      have e0 : i ≠ bk ns h := fun e => by
        refine (of_decide_eq_false hf) ?_
        rw [e, fn_bk hP hh]
      omega
  · rintro σ' H' ⟨v, rfl, ex, hb⟩
    have := bk_lt hP hh
    rw [Int.toNat_natCast] at hb
    omega
theorem spv_Lturned {K : PySem.W.Frag} {H : Hp} {a : Addr} {ns : List Nat} {h : Nat} (hS : SqL K H a (L ns)) (hP : IsP ns) (hl : ns.length ≤ 1000) (hh : h < ns.length) : SpV (sp_Lturned K) [.ref a, vi h] H (vi (tw (bk ns h))) :=
  fun H1 e Q q E => ⟨a, ns, h, rfl, ex_l e hS, hP, hl, hh, q⟩

/-- one step of a face, of a corner -/
def stp (ns : List Nat) (b : Bool) (x : Nat) : Nat := if b then fn ns x else tw (bk ns x)
theorem pf_stp {ns : List Nat} (h : IsP ns) (h2 : ns.length % 2 = 0) (b : Bool) : Pf (stp ns b) ns.length := by
  cases b with
  | true => exact pf_fn h
  | false => exact pf_turn h h2
def sp_Lround (K : PySem.W.Frag) : Sp := fun vs H Q _ => ∃ (a : Addr) (ns : List Nat) (h : Nat) (b : Bool), vs = [.ref a, vi h, .bl b] ∧ SqL K H a (L ns) ∧ IsP ns ∧ ns.length % 2 = 0 ∧ ns.length ≤ 1000 ∧ h < ns.length ∧
  ∀ p H', H p = none → Ex H H' → H' p = some (.lst (L (rnd (stp ns b) ns.length h))) → Q (.ref p) H'
abbrev nm_Lround : List Str := ["_law_nexts_here", "_law_half", "_law_by_face", "_law_found", "_law_after"]
abbrev pr_Lround : List Str := ["_law_nexts_here", "_law_half", "_law_by_face"]
def t_Lround (K : PySem.W.Frag) : TS :=
  (tSeq (tAsg (tLst (tCons (tVar 1) tNil)) (gName 3))
  (tSeq (tAsg (tIf (tB (tVar 2)) (tOp (rIxL K) (tVar 0) (tVar 1)) (tCall (sp_Lturned K) [] E0 (tCons (tVar 0) (tCons (tVar 1) tNil)))) (gName 4))
  (tSeq (tWhile (tAnd (tTest (tOp rNe (tVar 4) (tVar 1))) (tTest (tOp zLe (tCB (cLen K) (tCons (tVar 3) tNil)) (tCB (cLen K) (tCons (tVar 0) tNil))))) (tSeq (tDrop (tBM K "list" rAppend (tVar 3) (tCons (tVar 4) tNil)))
      (tAsg (tIf (tB (tVar 2)) (tOp (rIxL K) (tVar 0) (tVar 4)) (tCall (sp_Lturned K) [] E0 (tCons (tVar 0) (tCons (tVar 4) tNil)))) (gName 4))))
  (tRet (tVar 3)))))
abbrev Wt_Lround (K : PySem.W.Frag) (vs : List V) (H : Hp) (Q : VK) : Prop := t_Lround K { nx := fun _ H' => Q .non H', rt := Q } (start nm_Lround vs) H
theorem ln_Lround {K : PySem.W.Frag} (vs : List V) (H : Hp) (Q : VK) (E : XK) (h : sp_Lround K vs H Q E) : vs.length = pr_Lround.length := by
  obtain ⟨_, _, _, _, rfl, _⟩ := h
  rfl
theorem ev_stp {K : PySem.W.Frag} {σ : L2.St} {H : Hp} {a : Addr} {ns : List Nat} {b : Bool} {i x : Nat} (hS : SqL K H a (L ns)) (hP : IsP ns) (hl : ns.length ≤ 1000) (s0 : σ[0]? = some (some (.ref a))) (s2 : σ[2]? = some (some (.bl b))) (si : σ[i]? = some (some (vi x))) (hx : x < ns.length) :
    Ev (tIf (tB (tVar 2)) (tOp (rIxL K) (tVar 0) (tVar i)) (tCall (sp_Lturned K) [] E0 (tCons (tVar 0) (tCons (tVar i) tNil)))) σ H (vi (stp ns b x)) := by
  refine ev_if (b := b) (et_B (ev_var s2)) (fun hb => ?_) (fun hb => ?_)
  · subst hb
    exact ev_op (ev_var s0) (ev_var si) (rv_ixL hS (L_at hx))
  · subst hb
    exact ev_call (ea_2 (ev_var s0) (ev_var si)) (spv_Lturned hS hP hl hx)
theorem range_map_snoc {α : Type} (f : Nat → α) (k : Nat) : (List.range (k + 1)).map f = (List.range k).map f ++ [f k] := by
  rw [List.range_succ, List.map_append]
  rfl
theorem rd_Lround {K : PySem.W.Frag} (F : KF K) (vs : List V) (H : Hp) (Q : VK) (E : XK) (h : sp_Lround K vs H Q E) : Wt_Lround K vs H Q := by
  obtain ⟨a, ns, h, b, rfl, hS, hP, h2, hl, hh, kk⟩ := h
  show t_Lround K _ [some (.ref a), some (vi h), some (.bl b), none, none] H
  have PF := pf_stp hP h2 b
  obtain ⟨p1, p2, p3⟩ := per_spec PF hh
  have p0 := per_pos (stp ns b) ns.length h
  refine q_asgL (el_lst (ea_1 (ev_var rfl)) (by show 1 ≤ 100000; decide)) (fun p H1 hp e1 h1 => ?_)
  refine q_asg (ev_stp (i := 1) (x := h) (ex_l e1 hS) hP hl rfl rfl rfl hh) (fun H2 e2 => ?_)
  refine q_while (fun m σ' H' => ∃ k, 1 ≤ k ∧ k ≤ per (stp ns b) ns.length h ∧ m = per (stp ns b) ns.length h - k ∧ σ' = [some (.ref a), some (vi h), some (.bl b), some (.ref p), some (vi (itr (stp ns b) k h))] ∧
      H' p = some (.lst (L ((List.range k).map fun j => itr (stp ns b) j h))) ∧ Ex H H') (per (stp ns b) ns.length h - 1) ?_ ?_
  · exact ⟨1, Nat.le_refl _, p0, rfl, rfl, e2 _ _ h1, e1.trans e2⟩
  · rintro m σ' H' ⟨k, k1, k2, rfl, rfl, a1, ex⟩
    refine ⟨_, et_and (et_test (ev_op (ev_var rfl) (ev_var rfl) (rv_ne rfl))) (fun _ => et_test (ev_op (ev_cb (ea_1 (ev_var rfl)) (rc_len (sq_of a1))) (ev_cb (ea_1 (ev_var rfl)) (rc_len (ex_l ex hS))) rv_I0)), fun hb H1 e1 => ?_, fun hb H1 e1 => ?_⟩
    · obtain ⟨b1, b2⟩ := Bool.and_eq_true_iff.mp hb
      have hne : itr (stp ns b) k h ≠ h := fun e => by
        rw [e] at b1
        simp at b1
      have hk : k < per (stp ns b) ns.length h := by
        refine Nat.lt_of_le_of_ne k2 fun e => hne ?_
        rw [e]
        exact p1
      refine ⟨_, fun σ2 H2 hN => ⟨per (stp ns b) ns.length h - (k + 1), by omega, hN⟩, ?_⟩
      refine q_app (e1 _ _ a1) (ev_var rfl) (ev_var rfl) (by rw [L_len, List.length_map, List.length_range]; omega) (fun H2 e2 => ?_)
      have ex2 : Ex H (upd H2 p (.lst (L ((List.range k).map fun j => itr (stp ns b) j h) ++ [vi (itr (stp ns b) k h)]))) := Ex.mut (ex.trans (e1.trans e2)) hp
      refine s_asg (ev_stp (i := 4) (ex_l ex2 hS) hP hl rfl rfl rfl (itr_lt PF hh k)) (fun H3 e3 => ?_)
      refine ⟨k + 1, by omega, by omega, rfl, rfl, ?_, ex2.trans e3⟩
      rw [e3 _ _ upd_same, range_map_snoc, L_app]
      rfl
    · have hk : k = per (stp ns b) ns.length h := by
        refine Classical.byContradiction fun hne => ?_
        have h3 := p3 k (by omega) (by omega)
        have c1 : (!decide (vi (itr (stp ns b) k h) = vi h)) = true := by
          rw [decide_eq_false (fun e => h3 (by injection e with e; omega))]
          rfl
        have c2 : decide (((L ((List.range k).map fun j => itr (stp ns b) j h)).length : Int) ≤ ((L ns).length : Int)) = true := by
          rw [L_len, L_len, List.length_map, List.length_range]
          exact decide_eq_true (by omega)
        have c3 : ((!decide (vi (itr (stp ns b) k h) = vi h)) && decide (((L ((List.range k).map fun j => itr (stp ns b) j h)).length : Int) ≤ ((L ns).length : Int))) = true := by
          rw [c1, c2]
          rfl
        exact Bool.false_ne_true (hb.symm.trans c3)
      refine s_ret (ev_var rfl) (fun H2 e2 => ?_)
      refine kk p H2 hp (ex.trans (e1.trans e2)) ?_
      rw [e2 _ _ (e1 _ _ a1), hk]
      rfl
theorem spl_Lround {K : PySem.W.Frag} {H : Hp} {a : Addr} {ns : List Nat} {h : Nat} {b : Bool} (hS : SqL K H a (L ns)) (hP : IsP ns) (h2 : ns.length % 2 = 0) (hl : ns.length ≤ 1000) (hh : h < ns.length) : SpL (sp_Lround K) [.ref a, vi h, .bl b] H (L (rnd (stp ns b) ns.length h)) :=
  fun H1 e Q q E => ⟨a, ns, h, b, rfl, ex_l e hS, hP, h2, hl, hh, fun p H' hp ex hq => q p H' hp ex hq⟩

def sp_Lrounds (K : PySem.W.Frag) : Sp := fun vs H Q _ => ∃ (a : Addr) (ns : List Nat) (b : Bool), vs = [.ref a, .bl b] ∧ SqL K H a (L ns) ∧ IsP ns ∧ ns.length % 2 = 0 ∧ ns.length ≤ 1000 ∧
  ∀ p H', H p = none → Ex H H' → LLn H H' p (cycs (stp ns b) ns.length ns.length) → Q (.ref p) H'
abbrev nm_Lrounds : List Str := ["_law_nexts_here", "_law_by_face", "_law_found", "_law_half", "_law_members"]
abbrev pr_Lrounds : List Str := ["_law_nexts_here", "_law_by_face"]
def t_Lrounds (K : PySem.W.Frag) : TS :=
  (tSeq (tAsg (tLst tNil) (gName 2))
  (tSeq (tFor (iRng1 (tCons (tCB (cLen K) (tCons (tVar 0) tNil)) tNil)) (gName 3) (tSeq (tAsg (tCall (sp_Lround K) [] E0 (tCons (tVar 0) (tCons (tVar 3) (tCons (tVar 1) tNil)))) (gName 4))
      (tIfS (tTest (tOp rEq (tCB (rMin K) (tCons (tVar 4) tNil)) (tVar 3))) (tDrop (tBM K "list" rAppend (tVar 2) (tCons (tVar 4) tNil))) tNext)))
  (tRet (tVar 2))))
abbrev Wt_Lrounds (K : PySem.W.Frag) (vs : List V) (H : Hp) (Q : VK) : Prop := t_Lrounds K { nx := fun _ H' => Q .non H', rt := Q } (start nm_Lrounds vs) H
theorem ln_Lrounds {K : PySem.W.Frag} (vs : List V) (H : Hp) (Q : VK) (E : XK) (h : sp_Lrounds K vs H Q E) : vs.length = pr_Lrounds.length := by
  obtain ⟨_, _, _, rfl, _⟩ := h
  rfl
theorem rd_Lrounds {K : PySem.W.Frag} (F : KF K) (vs : List V) (H : Hp) (Q : VK) (E : XK) (h : sp_Lrounds K vs H Q E) : Wt_Lrounds K vs H Q := by
  obtain ⟨a, ns, b, rfl, hS, hP, h2, hl, kk⟩ := h
  show t_Lrounds K _ [some (.ref a), some (.bl b), none, none, none] H
  have PF := pf_stp hP h2 b
  refine q_asgL (el_lst ea_nil (Nat.zero_le _)) (fun p H1 hp e1 h1 => ?_)
  refine q_forR1 (n := (ns.length : Int)) (ea_1 (ev_is (ev_cb (ea_1 (ev_var rfl)) (rc_len (ex_l e1 hS))) (by rw [L_len]))) (by omega)
    (fun i σ' H' => ∃ v3 v4 as, σ' = [some (.ref a), some (.bl b), some (.ref p), v3, v4] ∧ Ex H H' ∧ H' p = some (.lst (as.map V.ref)) ∧ LA H' as (cycs (stp ns b) ns.length i) ∧ (∀ x ∈ as, H x = none ∧ x ≠ p) ∧ as.length ≤ i) ?_ ?_ ?_
  · intro H2 e2
    exact ⟨_, _, [], rfl, e1.trans e2, e2 _ _ h1, .nil, fun x hx => (nomatch hx), Nat.le_refl _⟩
  · rintro i σ' H' hi ⟨v3, v4, as, rfl, ex, a1, a2, a3, a4⟩
    have hi' : i < ns.length := by omega
    refine q_asgL (el_call (ea_cons (ev_var rfl) (ea_2 (ev_var rfl) (ev_var rfl))) (spl_Lround (ex_l ex hS) hP h2 hl hi')) (fun pm H2 hpm e2 h2' => ?_)
    have hr0 := per_pos (stp ns b) ns.length i
    have hself := rnd_self PF hi'
    have hne : 0 < (rnd (stp ns b) ns.length i).length := by rw [rnd_length]; exact hr0
    -- the least of the round
    obtain ⟨mm, hm1, hm2⟩ : ∃ mm, mm ∈ rnd (stp ns b) ns.length i ∧ ∀ y ∈ rnd (stp ns b) ns.length i, mm ≤ y := by
      have key : ∀ l : List Nat, l ≠ [] → ∃ mm, mm ∈ l ∧ ∀ y ∈ l, mm ≤ y := by
        intro l
        induction l with
        | nil => intro h; exact absurd rfl h
        | cons x r ih =>
          intro _
          by_cases hr : r = []
          · subst hr
            exact ⟨x, List.mem_cons_self .., fun y hy => by rcases List.mem_cons.mp hy with rfl | hy; exact Nat.le_refl _; cases hy⟩
          · obtain ⟨mm, q1, q2⟩ := ih hr
            by_cases hx : x ≤ mm
            · exact ⟨x, List.mem_cons_self .., fun y hy => by
                rcases List.mem_cons.mp hy with rfl | hy
                · exact Nat.le_refl _
                · exact Nat.le_trans hx (q2 y hy)⟩
            · exact ⟨mm, List.mem_cons_of_mem _ q1, fun y hy => by
                rcases List.mem_cons.mp hy with rfl | hy
                · omega
                · exact q2 y hy⟩
      exact key _ fun e => by rw [e] at hself; cases hself
    have hmin : Ev (tCB (rMin K) (tCons (tVar 4) tNil)) [some (.ref a), some (.bl b), some (.ref p), some (vi i), some (.ref pm)] H2 (vi mm) := by
      refine ev_cb (ea_1 (ev_var rfl)) (rc_min (ns := (rnd (stp ns b) ns.length i).map fun n : Nat => (n : Int)) (by rw [← L_int]; exact sq_of h2') (by rw [List.length_map]; exact hne) fun m' q1 q2 => ?_)
      obtain ⟨z, z1, rfl⟩ := List.mem_map.mp q1
      have := hm2 z z1
      have := q2 (mm : Int) (List.mem_map.mpr ⟨mm, hm1, rfl⟩)
      omega
    refine s_when (b := decide (vi mm = vi i)) (et_test (ev_op hmin (ev_var rfl) (rv_eq rfl))) (fun hb H3 e3 => ?_) (fun hb H3 e3 => ?_)
    · have e0 : mm = i := by
        have := of_decide_eq_true hb
        injection this with this
        omega
      have hmn : isMin (stp ns b) ns.length i = true := isMin_iff.mpr fun y hy => by
        have := hm2 y hy
        omega
      have ex3 := ex.trans (e2.trans e3)
      refine s_app (e3 _ _ (e2 _ _ a1)) (ev_var rfl) (ev_var rfl) (by rw [List.length_map]; omega) (fun H4 e4 => ?_)
      have hpp : pm ≠ p := (ne_of_none a1 hpm).symm
      refine ⟨_, _, as ++ [pm], rfl, Ex.mut (ex3.trans e4) hp, ?_, ?_, fun x hx => ?_, by rw [List.length_append]; show as.length + 1 ≤ i + 1; omega⟩
      · rw [upd_same, List.map_append]
        rfl
      · rw [cycs_yes hmn]
        refine paired_snoc (LA.upd (LA.ex a2 (e2.trans (e3.trans e4))) fun x hx => (a3 x hx).2) ?_
        show upd H4 p _ pm = _
        rw [upd_ne hpp]
        exact e4 _ _ (e3 _ _ h2')
      · rcases List.mem_append.mp hx with hx | hx
        · exact a3 x hx
        · rw [List.mem_singleton.mp hx]
          exact ⟨fresh_back ex hpm, hpp⟩
    · have hmn : ¬ isMin (stp ns b) ns.length i = true := fun hm => by
        refine (of_decide_eq_false hb) ?_
        have h5 := isMin_iff.mp hm mm hm1
        have h6 := hm2 i hself
        have : mm = i := by omega
        rw [this]
      refine ⟨_, _, as, rfl, ex.trans (e2.trans e3), e3 _ _ (e2 _ _ a1), ?_, a3, by omega⟩
      rw [cycs_no hmn]
      exact LA.ex a2 (e2.trans e3)
  · rintro σ' H' ⟨v3, v4, as, rfl, ex, a1, a2, a3, a4⟩
    rw [Int.toNat_natCast] at a2
    refine s_ret (ev_var rfl) (fun H2 e2 => ?_)
    exact kk p H2 hp (ex.trans e2) ⟨as, e2 _ _ a1, LA.ex a2 e2, a3⟩
end Hm
/-! len(set(xs)), xs ints of any number -/
namespace Hm
open PySem PySem.Spec PyProof.Rows
def fmI (ns : List Int) (i : Nat) : List Int := PyProof.Rows.firstMet (fun i => ns.getD i 0) i
def cntI (ns : List Int) : Nat := (fmI ns ns.length).length
theorem fmI_succ (ns : List Int) (i : Nat) : fmI ns (i + 1) = if (fmI ns i).any (· == ns.getD i 0) then fmI ns i else fmI ns i ++ [ns.getD i 0] := PyProof.Rows.firstMet_succ _ _
theorem fmI_len (ns : List Int) : ∀ i, (fmI ns i).length ≤ i
  | 0 => Nat.le_refl _
  | i + 1 => by
    have h := fmI_len ns i
    rw [fmI_succ]
    split
    · omega
    · rw [List.length_append]
      show _ + 1 ≤ _
      omega
theorem fmI_full (ns : List Int) : ∀ i, i ≤ ns.length → (fmI ns i).length = i → fmI ns i = ns.take i ∧ (ns.take i).Nodup
  | 0, _, _ => ⟨rfl, List.nodup_nil⟩
  | i + 1, hi, h => by
    rw [fmI_succ] at h ⊢
    have hlt : i < ns.length := hi
    have e1 : ns.getD i 0 = ns[i] := by
      rw [List.getD_eq_getElem?_getD, List.getElem?_eq_getElem hlt] <;> rfl
    have e2 : ns.take (i + 1) = ns.take i ++ [ns[i]] := by
      rw [List.take_add_one, List.getElem?_eq_getElem hlt] <;> rfl
    by_cases hb : (fmI ns i).any (· == ns.getD i 0) = true
    · rw [if_pos hb] at h
      have := fmI_len ns i
      omega
    · rw [if_neg hb] at h ⊢
      rw [List.length_append] at h
      have h2 : [ns.getD i 0].length = 1 := rfl
      obtain ⟨q1, q2⟩ := fmI_full ns i (by omega) (by omega)
      rw [q1, e1, e2]
      refine ⟨rfl, ?_⟩
      refine List.nodup_append.mpr ⟨q2, by simp, fun x hx y hy e => ?_⟩
      have hy := List.mem_singleton.mp hy
      refine hb (List.any_eq_true.mpr ⟨x, by rw [q1]; exact hx, ?_⟩)
      rw [e1, e, hy]
      exact beq_self_eq_true _
theorem cntI_iff (ns : List Int) : cntI ns = ns.length ↔ ns.Nodup := by
  constructor
  · intro h
    have := (fmI_full ns ns.length (Nat.le_refl _) h).2
    rwa [List.take_length] at this
  · intro h
    unfold cntI fmI
    rw [RZ.firstMet_nodup h ns.length (Nat.le_refl _), List.take_length]
namespace PSetI
open PySem PySem.Spec PyProof.Rows L2
def tLenI (K : PySem.W.Frag) (ta : TE) : TE := fun σ H Q => ta σ H fun x H1 => ∃ (l : Addr) (ns : List Int), x = .ref l ∧ SqL K H1 l (ns.map V.int) ∧ ns.length ≤ 4000 ∧ Q (.int (cntI ns : Nat)) H1
theorem pe_lenI {X : Cx} {a : Expr} {ta : TE} {p p2 q pos : Pos} (hc : X.calm = true) (hg : Gl X "len") (hm : X.mg "len" = none) (hg2 : Gl X "set") (hm2 : X.mg "set" = none) (ha : PE X a ta)
    (na : starEach [a] X.env = (false, eval a X.env) :: starEach [] X.env := by rfl) : PE X (.Call (.Name "len" p) [.Call (.Name "set" p2) [a] [] q] [] pos) (tLenI X.K ta) := by
  refine ⟨fun pins s σ H Q I h => ?_⟩
  refine Call_ (ld_blt I hg hm PySem.boot_len ?_)
  refine PyProof.Rows.callWith_builtin1 (PyProof.Rows.args_cons ?_ rfl) rfl rfl
  refine Call_ (ld_blt I hg2 hm2 PyProof.Rows.boot_set ?_)
  refine PyProof.Rows.callWith_type1 (PyProof.Rows.args_cons (thn (ha.run pins s σ H _ I h) fun v s1 ⟨x, H1, I1, r1, q1⟩ => PyProof.Rows.args_nil ?_) na) na rfl
  obtain ⟨l, ns, rfl, hq, hl, q1⟩ := q1
  cases r1
  obtain ⟨its, r, pl, hz⟩ := I1.list hq
  have hlen : its.toArray.size = ns.length := by rw [List.size_toArray, ← r.length, List.length_map]
  refine call_set_list (I1.ok.hd hc) pl.isList (by simpa using RZ.intsAre_vals r) (by rw [hlen]; unfold scanBound; omega) fun h' tk hS hk => ?_
  refine PyProof.Rows.args_nil ?_
  rw [hlen] at hS
  obtain ⟨o, es, ep, t, ho, hex, hd, _, _, _, hf, hn⟩ := hS
  have I2 : Inv X pins σ H1 { s1 with heap := h', toks := tk } := I1.kept fun b o e => hk b o (Heap.lt_size e) e
  have hb := fmI_len ns ns.length
  exact call_len_set ho hex hd hf (by rw [hn]; unfold fmI at hb; omega) ⟨.int (cntI ns : Nat), H1, I2.tok _, ⟨_, by rw [hn]; rfl⟩, q1⟩
end PSetI
end Hm
namespace Hm
open PySem PySem.Spec PyProof.Rows L2 Evl
/-! ### the program: what is a mesh -/
def isI : V → Bool
  | .int _ => true
  | _ => false
/-- an int or a bool -/
def IB (v : V) : Prop := (∃ i, v = .int i) ∨ (∃ b, v = .bl b)
def sp_isinteger (K : PySem.W.Frag) : Sp := fun vs H Q _ => ∃ v : V, vs = [v] ∧ IB v ∧ ∀ H', Ex H H' → Q (.bl (isI v)) H'
abbrev nm_isinteger : List Str := ["value"]
abbrev pr_isinteger : List Str := ["value"]
def t_isinteger (K : PySem.W.Frag) : TS :=
  (tRet (tAndV (tCB (rIsi K) (tCons (tVar 0) (tCons (tC (.ty "int")) tNil))) (tNotV (tCB (rIsi K) (tCons (tVar 0) (tCons (tC (.ty "bool")) tNil))))))
abbrev Wt_isinteger (K : PySem.W.Frag) (vs : List V) (H : Hp) (Q : VK) : Prop := t_isinteger K { nx := fun _ H' => Q .non H', rt := Q } (start nm_isinteger vs) H
theorem ln_isinteger {K : PySem.W.Frag} (vs : List V) (H : Hp) (Q : VK) (E : XK) (h : sp_isinteger K vs H Q E) : vs.length = pr_isinteger.length := by
  obtain ⟨_, rfl, _⟩ := h
  rfl
theorem rd_isinteger0 {K : PySem.W.Frag} (vs : List V) (H : Hp) (Q : VK) (E : XK) (h : sp_isinteger K vs H Q E) : Wt_isinteger K vs H Q := by
  obtain ⟨v, rfl, hv, k⟩ := h
  show t_isinteger K _ [some v] H
  rcases hv with ⟨i, rfl⟩ | ⟨b, rfl⟩
  · refine s_ret (v := .bl (true && !false)) (ev_andV (ev_cb (ea_2 (ev_var rfl) ev_c) (rc_isi (.ty "int") (fun H1 _ => .base (.int i)) (kit_ty (by decide +kernel)))) (fun _ => ev_notV (ev_cb (ea_2 (ev_var rfl) ev_c) (rc_isi (.ty "bool") (fun H1 _ => .base (.int i)) (kit_ty (by decide +kernel)))))) (fun H1 e1 => k H1 e1)
  · refine s_ret (v := .bl (true && !true)) (ev_andV (ev_cb (ea_2 (ev_var rfl) ev_c) (rc_isi (.ty "int") (fun H1 _ => .base (.bl b)) (kit_ty (by decide +kernel)))) (fun _ => ev_notV (ev_cb (ea_2 (ev_var rfl) ev_c) (rc_isi (.ty "bool") (fun H1 _ => .base (.bl b)) (kit_ty (by decide +kernel)))))) (fun H1 e1 => k H1 e1)
theorem rd_isinteger {K : PySem.W.Frag} (F : KF K) (vs : List V) (H : Hp) (Q : VK) (E : XK) (h : sp_isinteger K vs H Q E) : Wt_isinteger K vs H Q := rd_isinteger0 vs H Q E h
theorem spv_isinteger {K : PySem.W.Frag} {H : Hp} {v : V} (h : IB v) : SpV (sp_isinteger K) [v] H (.bl (isI v)) := fun H1 _ Q q E => ⟨v, rfl, h, q⟩

def dZ (zs : List Int) : PyData := .list (zs.map PyData.int)
theorem eqv_Zs : ∀ zs ys : List Int, PyData.eqvAll (zs.map PyData.int) (ys.map PyData.int) = decide (zs = ys)
  | [], [] => by simp [PyData.eqvAll]
  | [], _ :: _ => by simp [PyData.eqvAll]
  | _ :: _, [] => by simp [PyData.eqvAll]
  | n :: r, m :: s => by
    have h := eqv_Zs r s
    simp only [List.map_cons, PyData.eqvAll, PyData.eqv, h]
    by_cases e : n = m <;> simp [e]
theorem eqv_dZ (zs ys : List Int) : PyData.eqv (dZ zs) (dZ ys) = decide (zs = ys) := by
  unfold dZ
  simp only [PyData.eqv]
  exact eqv_Zs zs ys
theorem rv_eqZ {K : PySem.W.Frag} {H : Hp} {a b : Addr} {ns ms : List Int} (h1 : SqL K H a (ns.map V.int)) (h2 : SqL K H b (ms.map V.int)) : RV (rEqD K) (.ref a) (.ref b) H (.bl (decide (ns = ms))) := by
  rw [← eqv_dZ]
  exact rv_eqD' (Dp.lst h1 (dpAll_ints _)) (Dp.lst h2 (dpAll_ints _)) (shaped_ints _) (shaped_ints _)
theorem el_rg1 {K : PySem.W.Frag} {σ : L2.St} {H : Hp} {te : TE} {n : Nat} (h : Ev te σ H (.int (n : Int))) (hn : n ≤ 100000) : EvL (tLstRg (tRg1 te)) σ H (((List.range n).map fun i : Nat => (i : Int)).map V.int) := fun H1 e Q q =>
  h H1 e _ fun H2 e2 => ⟨(n : Int), rfl, RgOk.of_le (by omega) (by omega) (by omega) (by omega), fun p hp => by
    have e3 : rgV 0 (n : Int) = ((List.range n).map fun i : Nat => (i : Int)).map V.int := by
      unfold rgV
      rw [List.map_map, Int.sub_zero, Int.toNat_natCast]
      refine List.map_congr_left fun i _ => ?_
      show V.int (0 + (i : Int)) = V.int (i : Int)
      rw [Int.zero_add]
    rw [e3]
    exact q p _ (fresh_back e2 hp) (e2.trans (Ex.new hp)) upd_same⟩
section
variable {K : PySem.W.Frag} {σ : L2.St} {H H' : Hp} {ta tb tc te tx : TE} {x y z v : V} {r r' : R2}
theorem ev_chain {a b : Bool} (ha : Ev ta σ H x) (hb : Ev tb σ H y) (hr : RV r x y H (.bl a)) (hc : a = true → Ev tc σ H z) (hr2 : a = true → RV r' y z H (.bl b)) : Ev (tChain r r' ta tb tc) σ H (.bl (a && b)) := fun H1 e Q q =>
  ha H1 e _ fun H2 e2 => hb H2 (e.trans e2) _ fun H3 e3 => hr H3 ((e.trans e2).trans e3) _ fun H4 e4 => ⟨a, rfl, by
    have e5 := ((e.trans e2).trans e3).trans e4
    cases a with
    | false => exact q H4 ((e2.trans e3).trans e4)
    | true => exact hc rfl H4 e5 _ fun H5 e6 => hr2 rfl H5 (e5.trans e6) _ fun H6 e7 => q H6 (((e2.trans e3).trans e4).trans (e6.trans e7))⟩
theorem ev_lenSI {p : Addr} {ns : List Int} (h : Ev ta σ H (.ref p)) (hS : SqL K H p (ns.map V.int)) (hl : ns.length ≤ 4000) : Ev (PSetI.tLenI K ta) σ H (.int (cntI ns : Nat)) := fun H1 e Q q =>
  h H1 e _ fun H2 e2 => ⟨p, ns, rfl, ex_l (e.trans e2) hS, hl, q H2 e2⟩
end
/-- numbers below n, each once -/
def Below (xs : List V) (n : Nat) : Prop := ∃ ns, xs = L ns ∧ ns.Nodup ∧ ∀ x ∈ ns, x < n
def okN (n : Nat) : V → Bool
  | .int i => decide (0 ≤ i) && decide (i < (n : Int))
  | _ => false
theorem okN_ints {n : Nat} : ∀ {xs : List V}, (∀ x ∈ xs, okN n x = true) → ∃ ns : List Nat, xs = L ns ∧ ∀ x ∈ ns, x < n
  | [], _ => ⟨[], rfl, fun _ h => nomatch h⟩
  | x :: r, h => by
    obtain ⟨ns, e, b⟩ := okN_ints (xs := r) fun y hy => h y (List.mem_cons_of_mem _ hy)
    have hx := h x (List.mem_cons_self ..)
    cases x with
    | int i =>
      have hx : (decide (0 ≤ i) && decide (i < (n : Int))) = true := hx
      rw [Bool.and_eq_true] at hx
      have h0 := of_decide_eq_true hx.1
      have h1 := of_decide_eq_true hx.2
      refine ⟨i.toNat :: ns, ?_, fun y hy => ?_⟩
      · rw [e]
        show V.int i :: L ns = V.int ((i.toNat : Nat) : Int) :: L ns
        have e3 : ((i.toNat : Nat) : Int) = i := by omega
        rw [e3]
      · rcases List.mem_cons.mp hy with rfl | hy
        · omega
        · exact b y hy
    | _ => cases hx
theorem okN_L {n : Nat} {ns : List Nat} (h : ∀ x ∈ ns, x < n) : ∀ x ∈ L ns, okN n x = true := by
  intro x hx
  obtain ⟨m, hm, rfl⟩ := List.mem_map.mp hx
  have := h m hm
  show (decide ((0 : Int) ≤ (m : Int)) && decide ((m : Int) < (n : Int))) = true
  rw [decide_eq_true (by omega), decide_eq_true (by omega)]
  rfl
theorem L_inj {a b : List Nat} (h : L a = L b) : a = b := by
  induction a generalizing b with
  | nil => cases b with
    | nil => rfl
    | cons _ _ => cases h
  | cons x r ih => cases b with
    | nil => cases h
    | cons y s =>
      injection h with h1 h2
      injection h1 with h1
      rw [ih h2, show x = y by omega]
theorem nodup_cast {ns : List Nat} : (ns.map fun n : Nat => (n : Int)).Nodup ↔ ns.Nodup := by
  rw [List.nodup_iff_pairwise_ne, List.nodup_iff_pairwise_ne, List.pairwise_map]
  exact ⟨fun h => h.imp fun e q => e (by rw [q]), fun h => h.imp fun e q => e (by omega)⟩
def sp_arehalves (K : PySem.W.Frag) : Sp := fun vs H Q _ => ∃ (a : Addr) (xs : List V) (n : Nat), vs = [.ref a, vi n] ∧ SqL K H a xs ∧ xs.length ≤ 4000 ∧ (∀ x ∈ xs, IB x) ∧
  ∀ b H', (b = true ↔ Below xs n) → Ex H H' → Q (.bl b) H'
abbrev nm_arehalves : List Str := ["numbers", "count", "number"]
abbrev pr_arehalves : List Str := ["numbers", "count"]
def t_arehalves (K : PySem.W.Frag) : TS :=
  (tSeq (tIfS (tNot (tB (tCB (rAll K) (tCons (tLc (iList K (tVar 0)) (gName 2) tYes (tAndV (tCall (sp_isinteger K) [] E0 (tCons (tVar 2) tNil)) (tChain zLe zLt (tC (.int 0)) (tVar 2) (tVar 1))) [2]) tNil)))) (tRet (tC (.bl false))) tNext)
  (tRet (tOp rEq (PSetI.tLenI K (tVar 0)) (tCB (cLen K) (tCons (tVar 0) tNil)))))
abbrev Wt_arehalves (K : PySem.W.Frag) (vs : List V) (H : Hp) (Q : VK) : Prop := t_arehalves K { nx := fun _ H' => Q .non H', rt := Q } (start nm_arehalves vs) H
theorem ln_arehalves {K : PySem.W.Frag} (vs : List V) (H : Hp) (Q : VK) (E : XK) (h : sp_arehalves K vs H Q E) : vs.length = pr_arehalves.length := by
  obtain ⟨_, _, _, rfl, _⟩ := h
  rfl
theorem rd_arehalves0 {K : PySem.W.Frag} (vs : List V) (H : Hp) (Q : VK) (E : XK) (h : sp_arehalves K vs H Q E) : Wt_arehalves K vs H Q := by
  obtain ⟨a, xs, n, rfl, hS, hz, hI, k⟩ := h
  show t_arehalves K _ [some (.ref a), some (vi n), none] H
  have hb : ((List.range xs.length).map fun i => okN n (xs.getD i .non)).all id = true ↔ ∀ x ∈ xs, okN n x = true := by
    rw [List.all_eq_true]
    constructor
    · intro h x hx
      obtain ⟨i, hi, e⟩ := List.mem_iff_getElem.mp hx
      have := h (okN n (xs.getD i .non)) (List.mem_map.mpr ⟨i, List.mem_range.mpr hi, rfl⟩)
      rw [List.getD_eq_getElem?_getD, List.getElem?_eq_getElem hi] at this
      rw [← e]
      exact this
    · intro h y hy
      obtain ⟨i, hi, rfl⟩ := List.mem_map.mp hy
      have hi := List.mem_range.mp hi
      show okN n (xs.getD i .non) = true
      rw [List.getD_eq_getElem?_getD, List.getElem?_eq_getElem hi]
      exact h _ (List.getElem_mem hi)
  have hcomp : EvL (tLc (iList K (tVar 0)) (gName 2) tYes (tAndV (tCall (sp_isinteger K) [] E0 (tCons (tVar 2) tNil)) (tChain zLe zLt (tC (.int 0)) (tVar 2) (tVar 1))) [2]) [some (.ref a), some (vi n), none] H (((List.range xs.length).map fun i => okN n (xs.getD i .non)).map V.bl) := by
    have := el_lcL (K := K) (σ := [some (.ref a), some (vi n), none]) (H := H) (j := 2) (vs := [2]) (t := tYes) (tl := tVar 0) (te := tAndV (tCall (sp_isinteger K) [] E0 (tCons (tVar 2) tNil)) (tChain zLe zLt (tC (.int 0)) (tVar 2) (tVar 1))) (fun _ => true) (fun i => .bl (okN n (xs.getD i .non))) (ev_var rfl) hS (by omega) (fun _ => rfl) (fun i x H1 _ _ => et_yes) (fun i x H1 _ hx _ => by
      have e : xs.getD i .non = x := by rw [List.getD_eq_getElem?_getD, hx]; rfl
      rw [e]
      have hib := hI x (List.mem_of_getElem? hx)
      rcases id hib with ⟨z, rfl⟩ | ⟨b, rfl⟩
      · exact ev_is (v := .bl (true && (decide (0 ≤ z) && decide (z < (n : Int))))) (ev_andV (ev_call (ea_1 (ev_var rfl)) (spv_isinteger hib)) (fun _ => ev_chain ev_c (ev_var rfl) rv_I0 (fun _ => ev_var rfl) (fun _ => rv_I0))) (by rw [Bool.true_and]; rfl)
      · exact ev_is (v := .bl (false && false)) (ev_andV (ev_call (ea_1 (ev_var rfl)) (spv_isinteger hib)) (fun hb => nomatch hb)) rfl)
    rw [given_all] at this
    rw [List.map_map]
    exact this
  refine q_when (et_not (et_B (ev_cbN hcomp (fun p H1 hp _ => rc_all (sq_of hp))))) (fun hb1 H1 e1 => ?_) (fun hb1 H1 e1 => ?_)
  · refine s_ret ev_c (fun H2 e2 => k false H2 ⟨fun h => (nomatch h), fun hg => ?_⟩ (e1.trans e2))
    obtain ⟨ns, rfl, _, h2⟩ := hg
    rw [hb.mpr (okN_L h2)] at hb1
    cases hb1
  · have hall : ∀ x ∈ xs, okN n x = true := hb.mp (by
      cases q : ((List.range xs.length).map fun i => okN n (xs.getD i .non)).all id with
      | true => rfl
      | false => rw [q] at hb1; cases hb1)
    obtain ⟨ns, rfl, hlt⟩ := okN_ints hall
    have hS1 := ex_l e1 hS
    have hS2 := hS1
    rw [L_int] at hS2
    rw [L_len] at hz
    refine s_ret (v := .bl (decide (V.int (cntI (ns.map fun n : Nat => (n : Int)) : Nat) = V.int ((L ns).length : Int)))) (ev_op (ev_lenSI (ev_var rfl) hS2 (by rw [List.length_map]; exact hz)) (ev_cb (ea_1 (ev_var rfl)) (rc_len hS1)) (rv_eq rfl)) (fun H2 e2 => ?_)
    refine k _ H2 ?_ (e1.trans e2)
    have hc := cntI_iff (ns.map fun n : Nat => (n : Int))
    rw [List.length_map, nodup_cast] at hc
    rw [decide_eq_true_iff, L_len]
    constructor
    · intro h
      injection h with h
      exact ⟨ns, rfl, hc.mp (by omega), hlt⟩
    · rintro ⟨ms, e, hn, _⟩
      have e := L_inj e
      subst e
      rw [hc.mpr hn]
theorem rd_arehalves {K : PySem.W.Frag} (F : KF K) (vs : List V) (H : Hp) (Q : VK) (E : XK) (h : sp_arehalves K vs H Q E) : Wt_arehalves K vs H Q := rd_arehalves0 vs H Q E h
theorem spv_hT {K : PySem.W.Frag} {H : Hp} {a : Addr} {xs : List V} {n : Nat} (hS : SqL K H a xs) (hl : xs.length ≤ 4000) (hI : ∀ v ∈ xs, IB v) {b : Bool} (h : b = true ↔ Below xs n) : SpV (sp_arehalves K) [.ref a, vi n] H (.bl b) := fun H1 e Q q E =>
  ⟨a, xs, n, rfl, ex_l e hS, hl, hI, fun b' H' hb ex => by
    rw [Bool.eq_iff_iff.mpr (hb.trans h.symm)]
    exact q H' ex⟩
theorem isP_below {ns : List Nat} (hn : ns.Nodup) (h : ∀ x ∈ ns, x < ns.length) : IsP ns := ⟨(List.perm_ext_iff_of_nodup hn List.nodup_range).mpr fun x => by
  rw [List.mem_range]
  refine ⟨h x, fun hx => Classical.byContradiction fun hno => ?_⟩
  have := nodup_le ns.length (x :: ns) (List.nodup_cons.mpr ⟨hno, hn⟩) (fun y hy => by
    rcases List.mem_cons.mp hy with rfl | hy
    · exact hx
    · exact h y hy)
  rw [List.length_cons] at this
  omega⟩
/-- a list of numbers that are the halves of a mesh, each once -/
def Good (xs : List V) : Prop := ∃ ns, xs = L ns ∧ IsP ns ∧ ns.length % 2 = 0
def sp_areallhalves (K : PySem.W.Frag) : Sp := fun vs H Q _ => ∃ (a : Addr) (xs : List V), vs = [.ref a] ∧ SqL K H a xs ∧ xs.length ≤ 4000 ∧ (∀ x ∈ xs, IB x) ∧
  ∀ b H', (b = true ↔ Good xs) → Ex H H' → Q (.bl b) H'
abbrev nm_areallhalves : List Str := ["numbers"]
abbrev pr_areallhalves : List Str := ["numbers"]
def t_areallhalves (K : PySem.W.Frag) : TS :=
  (tRet (tAndV (tOp rEq (tOp zMod (tCB (cLen K) (tCons (tVar 0) tNil)) (tC (.int 2))) (tC (.int 0))) (tCall (sp_arehalves K) [] E0 (tCons (tVar 0) (tCons (tCB (cLen K) (tCons (tVar 0) tNil)) tNil)))))
abbrev Wt_areallhalves (K : PySem.W.Frag) (vs : List V) (H : Hp) (Q : VK) : Prop := t_areallhalves K { nx := fun _ H' => Q .non H', rt := Q } (start nm_areallhalves vs) H
theorem ln_areallhalves {K : PySem.W.Frag} (vs : List V) (H : Hp) (Q : VK) (E : XK) (h : sp_areallhalves K vs H Q E) : vs.length = pr_areallhalves.length := by
  obtain ⟨_, _, rfl, _⟩ := h
  rfl
theorem good_below {xs : List V} : Good xs ↔ xs.length % 2 = 0 ∧ Below xs xs.length := by
  constructor
  · rintro ⟨ns, rfl, hP, h2⟩
    rw [L_len]
    exact ⟨h2, ns, rfl, hP.nodup, fun x hx => hP.mem.mp hx⟩
  · rintro ⟨h2, ns, rfl, hn, h⟩
    rw [L_len] at h2 h
    exact ⟨ns, rfl, isP_below hn h, h2⟩
theorem isI_L (ns : List Nat) : ∀ x ∈ L ns, isI x = true := by
  intro x hx
  obtain ⟨n, _, rfl⟩ := List.mem_map.mp hx
  rfl
theorem ints_of : ∀ {xs : List V}, (∀ x ∈ xs, isI x = true) → ∃ zs : List Int, xs = zs.map V.int
  | [], _ => ⟨[], rfl⟩
  | x :: r, h => by
    obtain ⟨zs, e⟩ := ints_of (xs := r) fun y hy => h y (List.mem_cons_of_mem _ hy)
    have hx := h x (List.mem_cons_self ..)
    cases x with
    | int i => exact ⟨i :: zs, by rw [e]; rfl⟩
    | _ => cases hx
theorem map_int_inj {a b : List Int} (h : a.map V.int = b.map V.int) : a = b := by
  induction a generalizing b with
  | nil => cases b with
    | nil => rfl
    | cons _ _ => cases h
  | cons x r ih => cases b with
    | nil => cases h
    | cons y s =>
      injection h with h1 h2
      injection h1 with h1
      rw [h1, ih h2]
theorem good_ints {zs ns' : List Int} (hp : ns'.Perm zs) (hs : ns'.Pairwise (· ≤ ·)) (h2 : zs.length % 2 = 0) : ns' = (List.range zs.length).map (fun i : Nat => (i : Int)) ↔ Good (zs.map V.int) := by
  constructor
  · intro e
    subst e
    have hz : ∀ z ∈ zs, 0 ≤ z := fun z hz => by
      obtain ⟨i, _, rfl⟩ := List.mem_map.mp (hp.mem_iff.mpr hz)
      omega
    have key : ∀ zs : List Int, (∀ z ∈ zs, 0 ≤ z) → zs = (zs.map Int.toNat).map fun i : Nat => (i : Int) := by
      intro zs
      induction zs with
      | nil => intro _; rfl
      | cons z r ih =>
        intro h
        rw [List.map_cons, List.map_cons, ← ih fun y hy => h y (List.mem_cons_of_mem _ hy)]
        have := h z (List.mem_cons_self ..)
        rw [show (((z.toNat : Nat)) : Int) = z by omega]
    have e := key zs hz
    refine ⟨zs.map Int.toNat, ?_, ⟨?_⟩, by rw [List.length_map]; exact h2⟩
    · rw [L_int, ← e]
    · rw [List.length_map]
      have hq := hp.map Int.toNat
      rw [List.map_map] at hq
      have e3 : (List.range zs.length).map (Int.toNat ∘ fun i : Nat => (i : Int)) = List.range zs.length := by
        rw [List.map_congr_left (g := id) (fun i _ => by show ((i : Nat) : Int).toNat = i; omega), List.map_id]
      rw [e3] at hq
      exact hq.symm
  · rintro ⟨ns, e, hP, _⟩
    rw [L_int] at e
    have e := map_int_inj e
    subst e
    refine List.Perm.eq_of_pairwise (le := (· ≤ ·)) (fun a b _ _ h1 h2 => Int.le_antisymm h1 h2) hs ?_ ?_
    · rw [List.pairwise_map]
      exact List.Pairwise.imp (fun h => by omega) List.pairwise_lt_range
    · rw [List.length_map]
      exact hp.trans (hP.perm.map _)
theorem rcl_sorted {K : PySem.W.Frag} {H : Hp} {a : Addr} {zs : List Int} {r : List Int} (hS : SqL K H a (zs.map V.int)) (hu : ∀ ns' : List Int, ns'.Perm zs → ns'.Pairwise (· ≤ ·) → ns' = r) : RCL (rSortedI K) [.ref a] H (r.map V.int) := fun H1 e Q q =>
  ⟨a, zs, rfl, ex_l e hS, fun ns' p h1 h2 hp => by
    rw [hu ns' h1 h2]
    exact q p _ hp (Ex.new hp) upd_same⟩
theorem sort_ex (zs : List Int) : ∃ r : List Int, r.Perm zs ∧ r.Pairwise (· ≤ ·) ∧ ∀ ns' : List Int, ns'.Perm zs → ns'.Pairwise (· ≤ ·) → ns' = r := by
  refine ⟨zs.mergeSort (fun a b => decide (a ≤ b)), List.mergeSort_perm _ _, ?_, fun ns' h1 h2 => ?_⟩
  · refine List.Pairwise.imp (fun h => of_decide_eq_true h) (List.pairwise_mergeSort (le := fun a b => decide (a ≤ b)) (fun a b c h1 h2 => ?_) (fun a b => ?_) zs)
    · have h1 := of_decide_eq_true h1
      have h2 := of_decide_eq_true h2
      exact decide_eq_true (Int.le_trans h1 h2)
    · rw [Bool.or_eq_true]
      rcases Int.le_total a b with h | h
      · exact .inl (decide_eq_true h)
      · exact .inr (decide_eq_true h)
  · refine List.Perm.eq_of_pairwise (le := (· ≤ ·)) (fun a b _ _ h1 h2 => Int.le_antisymm h1 h2) h2 ?_ (h1.trans (List.mergeSort_perm _ _).symm)
    refine List.Pairwise.imp (fun h => of_decide_eq_true h) (List.pairwise_mergeSort (le := fun a b => decide (a ≤ b)) (fun a b c h1 h2 => ?_) (fun a b => ?_) zs)
    · have h1 := of_decide_eq_true h1
      have h2 := of_decide_eq_true h2
      exact decide_eq_true (Int.le_trans h1 h2)
    · rw [Bool.or_eq_true]
      rcases Int.le_total a b with h | h
      · exact .inl (decide_eq_true h)
      · exact .inr (decide_eq_true h)
theorem rd_areallhalves {K : PySem.W.Frag} (F : KF K) (vs : List V) (H : Hp) (Q : VK) (E : XK) (h : sp_areallhalves K vs H Q E) : Wt_areallhalves K vs H Q := by
  obtain ⟨a, xs, rfl, hS, hz, hI, k⟩ := h
  show t_areallhalves K _ [some (.ref a)] H
  obtain ⟨b, hb⟩ : ∃ b : Bool, b = true ↔ Below xs xs.length := by
    by_cases h : Below xs xs.length
    · exact ⟨true, fun _ => h, fun _ => rfl⟩
    · exact ⟨false, (fun q => nomatch q), fun q => absurd q h⟩
  refine s_ret (v := .bl (decide (V.int ((xs.length : Int).fmod 2) = V.int 0) && b)) (ev_andV (ev_op (ev_op (ev_cb (ea_1 (ev_var rfl)) (rc_len hS)) ev_c (rv_I (by decide))) ev_c (rv_eq rfl)) (fun _ => ev_call (ea_2 (ev_var rfl) (ev_cb (ea_1 (ev_var rfl)) (rc_len hS))) (spv_hT hS hz hI hb))) (fun H1 e1 => k _ H1 ?_ e1)
  rw [good_below, Bool.and_eq_true, hb, decide_eq_true_iff]
  have e : V.int ((xs.length : Int).fmod 2) = V.int 0 ↔ xs.length % 2 = 0 := by
    rw [Int.fmod_eq_emod_of_nonneg _ (by decide)]
    constructor
    · intro h
      injection h with h
      omega
    · intro h
      congr 1
      omega
  rw [e]
end Hm
namespace Hm
open PySem PySem.Spec PyProof.Rows L2 Evl
/-! ### the program: links back, rounds -/
section
variable {K : PySem.W.Frag} {σ : L2.St} {H : Hp} {ta tb te tv tn : TE} {D : Ends} {tz : TS} {y v : V}
theorem replicate_flatten {v : V} : ∀ n : Nat, (List.replicate n [v]).flatten = List.replicate n v
  | 0 => rfl
  | n + 1 => by
    rw [List.replicate_succ, List.flatten_cons, replicate_flatten n, List.replicate_succ]
    rfl
theorem el_rep1 {n : Nat} (hv : Ev tv σ H v) (hn : Ev tn σ H (.int (n : Int))) (hz : n ≤ 100000) : EvL (tOp rRep (tLst (tCons tv tNil)) tn) σ H (List.replicate n v) := fun H1 e Q q =>
  el_lst (ea_1 hv) (by show 1 ≤ 100000; decide) H1 e _ fun p H2 _ e2 h2 => hn H2 (e.trans e2) _ fun H3 e3 => ⟨p, (n : Int), [v], rfl, rfl, e3 _ _ h2, by omega, by omega, sz_of (by show 1 * (n : Int).toNat ≤ 100000; omega), fun r hr => by
    have e4 : (List.replicate ((n : Int).toNat) [v]).flatten = List.replicate n v := by rw [Int.toNat_natCast, replicate_flatten]
    rw [e4]
    exact q r _ (fresh_back (e2.trans e3) hr) ((e2.trans e3).trans (Ex.new hr)) upd_same⟩
theorem q_fld {a C dx : Addr} {fs : List (Str × V)} {f : Str} (hv : Ev tv σ H y) (ha : Ev ta σ H (.ref a)) (ho : H a = some (.ins C dx fs)) (hc : Cls K C) (hn : NoAttr K C f) (hl : fs.length < 1000) (k : ∀ H1, Ex H H1 → tz D σ (upd H1 a (.ins C dx (putF f y fs)))) : tSeq (sFld K ta tv f) tz D σ H :=
  hv H (Ex.refl H) _ fun H1 e1 => ha H1 e1 _ fun H2 e2 => ⟨a, C, dx, fs, rfl, e2 _ _ (e1 _ _ ho), hc, hn, hl, k H2 (e1.trans e2)⟩
theorem q_fldL {a C dx : Addr} {fs : List (Str × V)} {f : Str} {xs : List V} (hv : EvL tv σ H xs) (ha : Ev ta σ H (.ref a)) (ho : H a = some (.ins C dx fs)) (hc : Cls K C) (hn : NoAttr K C f) (hl : fs.length < 1000) (k : ∀ p H1, H p = none → Ex H H1 → H1 p = some (.lst xs) → tz D σ (upd H1 a (.ins C dx (putF f (.ref p) fs)))) : tSeq (sFld K ta tv f) tz D σ H :=
  hv H (Ex.refl H) _ fun p H1 hp e1 h1 => ha H1 e1 _ fun H2 e2 => ⟨a, C, dx, fs, rfl, e2 _ _ (e1 _ _ ho), hc, hn, hl, k p H2 hp (e1.trans e2) (e2 _ _ h1)⟩
theorem s_fldL {a C dx : Addr} {fs : List (Str × V)} {f : Str} {xs : List V} (hv : EvL tv σ H xs) (ha : Ev ta σ H (.ref a)) (ho : H a = some (.ins C dx fs)) (hc : Cls K C) (hn : NoAttr K C f) (hl : fs.length < 1000) (k : ∀ p H1, H p = none → Ex H H1 → H1 p = some (.lst xs) → D.nx σ (upd H1 a (.ins C dx (putF f (.ref p) fs)))) : sFld K ta tv f D σ H :=
  hv H (Ex.refl H) _ fun p H1 hp e1 h1 => ha H1 e1 _ fun H2 e2 => ⟨a, C, dx, fs, rfl, e2 _ _ (e1 _ _ ho), hc, hn, hl, k p H2 hp (e1.trans e2) (e2 _ _ h1)⟩
end
def bkUp (ns : List Nat) (i : Nat) : List Nat := (List.range ns.length).map fun h => if bk ns h < i then bk ns h else 0
theorem bkUp_zero (ns : List Nat) : L (bkUp ns 0) = List.replicate ns.length (.int 0) := by
  unfold L bkUp
  rw [List.map_map]
  refine List.eq_replicate_iff.mpr ⟨by rw [List.length_map, List.length_range], fun b hb => ?_⟩
  obtain ⟨i, _, rfl⟩ := List.mem_map.mp hb
  rfl
theorem bkUp_all {ns : List Nat} (h : IsP ns) : bkUp ns ns.length = prevs ns := by
  unfold bkUp prevs
  refine List.map_congr_left fun x hx => ?_
  rw [if_pos (bk_lt h (List.mem_range.mp hx))]
theorem bkUp_succ {ns : List Nat} (h : IsP ns) {i : Nat} (hi : i < ns.length) : (L (bkUp ns i)).set (fn ns i) (vi i) = L (bkUp ns (i + 1)) := by
  refine List.ext_getElem? fun j => ?_
  have hb : ∀ i, (L (bkUp ns i)).length = ns.length := fun i => by rw [L_len]; unfold bkUp; rw [List.length_map, List.length_range]
  by_cases hj : j < ns.length
  · have gt : ∀ i, (L (bkUp ns i))[j]? = some (vi (if bk ns j < i then bk ns j else 0)) := fun i => by
      unfold L bkUp
      rw [List.map_map, List.getElem?_map, List.getElem?_range hj]
      rfl
    by_cases e : fn ns i = j
    · rw [← e, List.getElem?_set_self (by rw [hb, e]; exact hj), e, gt, ← e, bk_fn h hi, if_pos (by omega)]
    · rw [List.getElem?_set_ne e, gt, gt]
      have hne : bk ns j ≠ i := fun q => e (by rw [← q, fn_bk h hj])
      by_cases q : bk ns j < i
      · rw [if_pos q, if_pos (by omega)]
      · rw [if_neg q, if_neg (by omega)]
  · rw [List.getElem?_eq_none (by rw [List.length_set, hb]; omega), List.getElem?_eq_none (by rw [hb]; omega)]
def sp_inverse (K : PySem.W.Frag) : Sp := fun vs H Q _ => ∃ (a : Addr) (ns : List Nat), vs = [.ref a] ∧ SqL K H a (L ns) ∧ IsP ns ∧ ns.length ≤ 1000 ∧
  ∀ p H', H p = none → Ex H H' → H' p = some (.lst (L (prevs ns))) → Q (.ref p) H'
abbrev nm_inverse : List Str := ["links", "back", "half", "other"]
abbrev pr_inverse : List Str := ["links"]
def t_inverse (K : PySem.W.Frag) : TS :=
  (tSeq (tAsg (tOp rRep (tLst (tCons (tC (.int 0)) tNil)) (tCB (cLen K) (tCons (tVar 0) tNil))) (gName 1))
  (tSeq (tFor (iEnum K (tCons (tVar 0) tNil)) (gTup K 2 (gCons (gName 2) (gCons (gName 3) gNil))) (tAsg (tVar 2) (gSub (tVar 1) (tVar 3) rSetL)))
  (tRet (tVar 1))))
abbrev Wt_inverse (K : PySem.W.Frag) (vs : List V) (H : Hp) (Q : VK) : Prop := t_inverse K { nx := fun _ H' => Q .non H', rt := Q } (start nm_inverse vs) H
theorem ln_inverse {K : PySem.W.Frag} (vs : List V) (H : Hp) (Q : VK) (E : XK) (h : sp_inverse K vs H Q E) : vs.length = pr_inverse.length := by
  obtain ⟨_, _, rfl, _⟩ := h
  rfl
theorem rd_inverse {K : PySem.W.Frag} (F : KF K) (vs : List V) (H : Hp) (Q : VK) (E : XK) (h : sp_inverse K vs H Q E) : Wt_inverse K vs H Q := by
  obtain ⟨a, ns, rfl, hS, hP, hl, k⟩ := h
  show t_inverse K _ [some (.ref a), none, none, none] H
  refine q_asgL (el_rep1 (n := ns.length) ev_c (ev_is (ev_cb (ea_1 (ev_var rfl)) (rc_len hS)) (by rw [L_len])) (by omega)) (fun p H1 hp e1 h1 => ?_)
  rw [← bkUp_zero] at h1
  refine ⟨.ref a, rfl, a, L ns, rfl, ex_l e1 hS, ?_⟩
  refine for_it (walk_enum (xs := L ns)) (fun i σ' H' => ∃ v2 v3, σ' = [some (.ref a), some (.ref p), v2, v3] ∧ Ex H H' ∧ H' p = some (.lst (L (bkUp ns i)))) ⟨_, _, rfl, e1, h1⟩ ?_ ?_ ?_
  · rintro i σ' H' _ ⟨v2, v3, rfl, ex, _⟩
    exact ex_l ex hS
  · rintro i x σ' H2 H3 hi ⟨v2, v3, rfl, ex, hb⟩ ⟨T, x1, x2, rfl, hT, rfl, e2, e3⟩
    rw [L_len] at hi
    have e2 : vi i = x1 := Option.some.inj e2
    have e3 : (L ns)[i]? = some x2 := e3
    rw [L_get hi] at e3
    have e3 := Option.some.inj e3
    subst e2 e3
    have exT : Ex H2 (upd H2 T (.tup [vi i, vi (fn ns i)])) := Ex.new hT
    refine ⟨T, [vi i, vi (fn ns i)], rfl, .inl (.inl upd_same), rfl, vi i, [vi (fn ns i)], rfl, vi (fn ns i), [], rfl, rfl, ?_⟩
    refine s_setL (j := fn ns i) (exT _ _ hb) (ev_var rfl) (ev_var rfl) (ev_var rfl) (by rw [L_len]; unfold bkUp; rw [List.length_map, List.length_range]; exact (pf_fn hP).lt i hi) (fun H4 e4 => ?_)
    refine ⟨_, _, rfl, Ex.mut ((ex.trans exT).trans e4) hp, ?_⟩
    rw [upd_same, bkUp_succ hP hi]
  · rintro σ' H' ⟨v2, v3, rfl, ex, hb⟩
    rw [L_len, bkUp_all hP] at hb
    refine s_ret (ev_var rfl) (fun H2 e2 => k p H2 hp (ex.trans e2) (e2 _ _ hb))
theorem spl_inverse {K : PySem.W.Frag} {H : Hp} {a : Addr} {ns : List Nat} (hS : SqL K H a (L ns)) (hP : IsP ns) (hl : ns.length ≤ 1000) : SpL (sp_inverse K) [.ref a] H (L (prevs ns)) :=
  fun H1 e Q q E => ⟨a, ns, rfl, ex_l e hS, hP, hl, fun p H' hp ex hq => q p H' hp ex hq⟩

def sp_rounds (K : PySem.W.Frag) : Sp := fun vs H Q _ => ∃ (a : Addr) (ns : List Nat), vs = [.ref a] ∧ SqL K H a (L ns) ∧ IsP ns ∧ ns.length ≤ 1000 ∧
  ∀ p H', H p = none → Ex H H' → LLn H H' p (cycs (fn ns) ns.length ns.length) → Q (.ref p) H'
abbrev nm_rounds : List Str := ["links", "found", "seen", "start", "members", "half"]
abbrev pr_rounds : List Str := ["links"]
def t_rounds (K : PySem.W.Frag) : TS :=
  (tSeq (tAsg (tLst tNil) (gName 1))
  (tSeq (tAsg (tOp rRep (tLst (tCons (tC (.bl false)) tNil)) (tCB (cLen K) (tCons (tVar 0) tNil))) (gName 2))
  (tSeq (tFor (iRng1 (tCons (tCB (cLen K) (tCons (tVar 0) tNil)) tNil)) (gName 3) (tIfS (tNot (tB (tOp (rIxL K) (tVar 2) (tVar 3)))) (tSeq (tAsg (tLst tNil) (gName 4))
        (tSeq (tAsg (tVar 3) (gName 5))
        (tSeq (tWhile (tNot (tB (tOp (rIxL K) (tVar 2) (tVar 5)))) (tSeq (tAsg (tC (.bl true)) (gSub (tVar 2) (tVar 5) rSetL))
            (tSeq (tDrop (tBM K "list" rAppend (tVar 4) (tCons (tVar 5) tNil)))
            (tAsg (tOp (rIxL K) (tVar 0) (tVar 5)) (gName 5)))))
        (tDrop (tBM K "list" rAppend (tVar 1) (tCons (tVar 4) tNil)))))) tNext))
  (tRet (tVar 1)))))
abbrev Wt_rounds (K : PySem.W.Frag) (vs : List V) (H : Hp) (Q : VK) : Prop := t_rounds K { nx := fun _ H' => Q .non H', rt := Q } (start nm_rounds vs) H
theorem ln_rounds {K : PySem.W.Frag} (vs : List V) (H : Hp) (Q : VK) (E : XK) (h : sp_rounds K vs H Q E) : vs.length = pr_rounds.length := by
  obtain ⟨_, _, rfl, _⟩ := h
  rfl
theorem bl_get {bs : List Bool} {i : Nat} (h : i < bs.length) : atI (bs.map V.bl) ((i : Nat) : Int) = some (.bl (bs.getD i false)) := by
  refine atI_nat ?_
  rw [List.getElem?_map, List.getD_eq_getElem?_getD, List.getElem?_eq_getElem h]
  rfl
theorem bs_set {bs : List Bool} {i j : Nat} (h : j < bs.length) : (bs.set i true).getD j false = true ↔ bs.getD j false = true ∨ j = i := by
  by_cases e : i = j
  · subst e
    rw [List.getD_eq_getElem?_getD, List.getElem?_set_self h]
    simp
  · rw [List.getD_eq_getElem?_getD, List.getElem?_set_ne e, ← List.getD_eq_getElem?_getD]
    constructor
    · exact .inl
    · rintro (h | h)
      · exact h
      · exact absurd h.symm e
theorem rd_rounds {K : PySem.W.Frag} (F : KF K) (vs : List V) (H : Hp) (Q : VK) (E : XK) (h : sp_rounds K vs H Q E) : Wt_rounds K vs H Q := by
  obtain ⟨a, ns, rfl, hS, hP, hl, kk⟩ := h
  show t_rounds K _ [some (.ref a), none, none, none, none, none] H
  have PF := pf_fn hP
  refine q_asgL (el_lst ea_nil (Nat.zero_le _)) (fun pF H1 hpF e1 h1 => ?_)
  refine q_asgL (el_rep1 (n := ns.length) ev_c (ev_is (ev_cb (ea_1 (ev_var rfl)) (rc_len (ex_l e1 hS))) (by rw [L_len])) (by omega)) (fun pS H2 hpS e2 h2 => ?_)
  have hpS0 : H pS = none := fresh_back e1 hpS
  have hSF : pS ≠ pF := (ne_of_none h1 hpS).symm
  refine q_forR1 (n := (ns.length : Int)) (ea_1 (ev_is (ev_cb (ea_1 (ev_var rfl)) (rc_len (ex_l (e1.trans e2) hS))) (by rw [L_len]))) (by omega)
    (fun i σ' H' => ∃ (v3 v4 v5 : Option V) (as : List Addr) (bs : List Bool), σ' = [some (.ref a), some (.ref pF), some (.ref pS), v3, v4, v5] ∧ Ex H H' ∧ H' pF = some (.lst (as.map V.ref)) ∧ H' pS = some (.lst (bs.map V.bl)) ∧ LA H' as (cycs (fn ns) ns.length i) ∧
      (∀ x ∈ as, H x = none ∧ x ≠ pF ∧ x ≠ pS) ∧ as.length ≤ i ∧ bs.length = ns.length ∧ ∀ j, j < ns.length → (bs.getD j false = true ↔ Sn (fn ns) ns.length i j)) ?_ ?_ ?_
  · intro H3 e3
    refine ⟨_, _, _, [], List.replicate ns.length false, rfl, e1.trans (e2.trans e3), e3 _ _ (e2 _ _ h1), by rw [List.map_replicate]; exact e3 _ _ h2, .nil, fun x hx => (nomatch hx), Nat.le_refl _, List.length_replicate .., fun j hj => ?_⟩
    constructor
    · intro h
      rw [List.getD_eq_getElem?_getD, List.getElem?_replicate] at h
      rw [if_pos hj] at h
      cases h
    · rintro ⟨s, h, _⟩
      exact absurd h (Nat.not_lt_zero _)
  · rintro i σ' H' hi ⟨v3, v4, v5, as, bs, rfl, ex, a1, a2, a3, a4, a5, a6, a7⟩
    have hi' : i < ns.length := by omega
    refine s_when (b := !(bs.getD i false)) (et_not (et_B (ev_op (ev_var rfl) (ev_var rfl) (rv_ixL (sq_of a2) (bl_get (by omega)))))) (fun hb H3 e3 => ?_) (fun hb H3 e3 => ?_)
    · have hns : ¬ Sn (fn ns) ns.length i i := fun h => by
        rw [(a7 i hi').mpr h] at hb
        cases hb
      have hmin : isMin (fn ns) ns.length i = true := by
        refine Classical.byContradiction fun h => hns ((sn_iff_notMin PF hi').mpr h)
      obtain ⟨p1, p2, p3⟩ := per_spec PF hi'
      have p0 := per_pos (fn ns) ns.length i
      refine q_asgL (el_lst ea_nil (Nat.zero_le _)) (fun pM H4 hpM e4 h4 => ?_)
      have hpM0 : H pM = none := fresh_back (ex.trans e3) hpM
      have hMF : pM ≠ pF := (ne_of_none (e3 _ _ a1) hpM).symm
      have hMS : pM ≠ pS := (ne_of_none (e3 _ _ a2) hpM).symm
      have hMa : ∀ x ∈ as, x ≠ pM := LA.fresh (LA.ex a3 e3) hpM
      refine q_asg (ev_var rfl) (fun H5 e5 => ?_)
      refine q_while (fun m σ' H' => ∃ (k : Nat) (bs' : List Bool), k ≤ per (fn ns) ns.length i ∧ m = per (fn ns) ns.length i - k ∧ σ' = [some (.ref a), some (.ref pF), some (.ref pS), some (vi i), some (.ref pM), some (vi (itr (fn ns) k i))] ∧ Ex H H' ∧
        H' pF = some (.lst (as.map V.ref)) ∧ H' pS = some (.lst (bs'.map V.bl)) ∧ H' pM = some (.lst (L ((List.range k).map fun j => itr (fn ns) j i))) ∧ LA H' as (cycs (fn ns) ns.length i) ∧ bs'.length = ns.length ∧
        ∀ j, j < ns.length → (bs'.getD j false = true ↔ Sn (fn ns) ns.length i j ∨ j ∈ (List.range k).map fun j => itr (fn ns) j i)) (per (fn ns) ns.length i) ?_ ?_
      · refine ⟨0, bs, Nat.zero_le _, rfl, rfl, ex.trans (e3.trans (e4.trans e5)), e5 _ _ (e4 _ _ (e3 _ _ a1)), e5 _ _ (e4 _ _ (e3 _ _ a2)), e5 _ _ h4, LA.ex a3 (e3.trans (e4.trans e5)), a6, fun j hj => ?_⟩
        rw [a7 j hj]
        constructor
        · exact .inl
        · rintro (h | h)
          · exact h
          · cases h
      · rintro m σ' H6 ⟨k, bs', k1, rfl, rfl, ex6, b1, b2, b3, b4, b5, b6⟩
        have hlt : itr (fn ns) k i < ns.length := itr_lt PF hi' k
        refine ⟨!(bs'.getD (itr (fn ns) k i) false), et_not (et_B (ev_op (ev_var rfl) (ev_var rfl) (rv_ixL (sq_of b2) (bl_get (by omega))))), fun hb2 H7 e7 => ?_, fun hb2 H7 e7 => ?_⟩
        · have hk : k < per (fn ns) ns.length i := by
            refine Nat.lt_of_le_of_ne k1 fun e => ?_
            have h9 : bs'.getD (itr (fn ns) k i) false = true := (b6 _ hlt).mpr (.inr (by
              rw [e, p1]
              exact List.mem_map.mpr ⟨0, List.mem_range.mpr (by omega), rfl⟩))
            rw [h9] at hb2
            cases hb2
          refine ⟨_, fun σ2 H2 hN => ⟨per (fn ns) ns.length i - (k + 1), by omega, hN⟩, ?_⟩
          refine q_setL (j := itr (fn ns) k i) (e7 _ _ b2) ev_c (ev_var rfl) (ev_var rfl) (by rw [List.length_map]; omega) (fun H8 e8 => ?_)
          have x8 : Ex H (upd H8 pS (.lst ((bs'.map V.bl).set (itr (fn ns) k i) (.bl true)))) := Ex.mut (ex6.trans (e7.trans e8)) hpS0
          have c1 : (upd H8 pS (.lst ((bs'.map V.bl).set (itr (fn ns) k i) (.bl true)))) pM = some (.lst (L ((List.range k).map fun j => itr (fn ns) j i))) := by
            rw [upd_ne hMS]
            exact e8 _ _ (e7 _ _ b3)
          refine q_app c1 (ev_var rfl) (ev_var rfl) (by rw [L_len, List.length_map, List.length_range]; omega) (fun H9 e9 => ?_)
          have x9 : Ex H (upd H9 pM (.lst (L ((List.range k).map fun j => itr (fn ns) j i) ++ [vi (itr (fn ns) k i)]))) := Ex.mut (x8.trans e9) hpM0
          refine s_asg (ev_op (ev_var rfl) (ev_var rfl) (rv_ixL (ex_l x9 hS) (L_at hlt))) (fun H10 e10 => ?_)
          refine ⟨k + 1, bs'.set (itr (fn ns) k i) true, by omega, rfl, rfl, x9.trans e10, ?_, ?_, ?_, ?_, by rw [List.length_set]; exact b5, fun j hj => ?_⟩
          · refine e10 _ _ ?_
            rw [upd_ne hMF.symm]
            refine e9 _ _ ?_
            rw [upd_ne hSF.symm]
            exact e8 _ _ (e7 _ _ b1)
          · refine e10 _ _ ?_
            rw [upd_ne hMS.symm]
            refine e9 _ _ ?_
            rw [upd_same, List.map_set]
          · rw [e10 _ _ upd_same, range_map_snoc, L_app]
            rfl
          · refine LA.ex (LA.upd (LA.ex (LA.upd (LA.ex b4 (e7.trans e8)) fun x hx => (a4 x hx).2.2) e9) hMa) e10
          · rw [bs_set (by omega), b6 j hj, range_map_snoc, List.mem_append, List.mem_singleton]
            constructor
            · rintro ((h | h) | h)
              · exact .inl h
              · exact .inr (.inl h)
              · exact .inr (.inr h)
            · rintro (h | h | h)
              · exact .inl (.inl h)
              · exact .inl (.inr h)
              · exact .inr h
        · have hk : k = per (fn ns) ns.length i := by
            refine Classical.byContradiction fun hne => ?_
            have hkl : k < per (fn ns) ns.length i := by omega
            have h9 : bs'.getD (itr (fn ns) k i) false = true := by
              cases q : bs'.getD (itr (fn ns) k i) false with
              | true => rfl
              | false => rw [q] at hb2; cases hb2
            rcases (b6 _ hlt).mp h9 with h | h
            · exact sn_itr PF hi' hns k h
            · exact rnd_take_nodup PF hi' hkl h
          subst hk
          have x7 := ex6.trans e7
          refine s_app (e7 _ _ b1) (ev_var rfl) (ev_var rfl) (by rw [List.length_map]; omega) (fun H8 e8 => ?_)
          refine ⟨_, _, _, as ++ [pM], bs', rfl, Ex.mut (x7.trans e8) hpF, ?_, ?_, ?_, fun x hx => ?_, by rw [List.length_append]; show as.length + 1 ≤ i + 1; omega, b5, fun j hj => ?_⟩
          · rw [upd_same, List.map_append]
            rfl
          · rw [upd_ne hSF]
            exact e8 _ _ (e7 _ _ b2)
          · rw [cycs_yes hmin]
            refine paired_snoc (LA.upd (LA.ex b4 (e7.trans e8)) fun x hx => (a4 x hx).2.1) ?_
            show upd H8 pF _ pM = _
            rw [upd_ne hMF]
            exact e8 _ _ (e7 _ _ b3)
          · rcases List.mem_append.mp hx with hx | hx
            · exact a4 x hx
            · rw [List.mem_singleton.mp hx]
              exact ⟨hpM0, hMF, hMS⟩
          · rw [b6 j hj, sn_succ hi']
            exact Iff.rfl
    · have hb' : bs.getD i false = true := by
        cases q : bs.getD i false with
        | true => rfl
        | false => rw [q] at hb; cases hb
      have hsn := (a7 i hi').mp hb'
      have hmin : ¬ isMin (fn ns) ns.length i = true := (sn_iff_notMin PF hi').mp hsn
      refine ⟨_, _, _, as, bs, rfl, ex.trans e3, e3 _ _ a1, e3 _ _ a2, ?_, a4, by omega, a6, fun j hj => ?_⟩
      · rw [cycs_no hmin]
        exact LA.ex a3 e3
      · rw [a7 j hj, sn_succ hi']
        constructor
        · exact .inl
        · rintro (h | h)
          · exact h
          · obtain ⟨s, s1, s2, s3⟩ := hsn
            exact ⟨s, s1, s2, rnd_trans PF s2 s3 h⟩
  · rintro σ' H' ⟨v3, v4, v5, as, bs, rfl, ex, a1, a2, a3, a4, a5, a6, a7⟩
    rw [Int.toNat_natCast] at a3
    refine s_ret (ev_var rfl) (fun H2 e2 => ?_)
    exact kk pF H2 hpF (ex.trans e2) ⟨as, e2 _ _ a1, LA.ex a3 e2, fun x hx => ⟨(a4 x hx).1, (a4 x hx).2.1⟩⟩
end Hm
namespace Hm
open PySem PySem.Spec PyProof.Rows L2 Evl
/-! ### the program: the class Mesh -/
def mfs (l1 l2 l3 : Addr) : List (Str × V) := putF "_turns" (.ref l3) (putF "_prevs" (.ref l2) (putF "_nexts" (.ref l1) []))
theorem s12 : ¬ (("_nexts" : Str) = "_prevs") := by decide +kernel
theorem s13 : ¬ (("_nexts" : Str) = "_turns") := by decide +kernel
theorem s23 : ¬ (("_prevs" : Str) = "_turns") := by decide +kernel
theorem mfs_n (l1 l2 l3 : Addr) : (mfs l1 l2 l3).lookup ("_nexts" : Str) = some (.ref l1) := by
  unfold mfs
  rw [lookup_putF, if_neg s13, lookup_putF, if_neg s12, lookup_putF, if_pos rfl]
theorem mfs_p (l1 l2 l3 : Addr) : (mfs l1 l2 l3).lookup ("_prevs" : Str) = some (.ref l2) := by
  unfold mfs
  rw [lookup_putF, if_neg s23, lookup_putF, if_pos rfl]
theorem mfs_t (l1 l2 l3 : Addr) : (mfs l1 l2 l3).lookup ("_turns" : Str) = some (.ref l3) := by
  unfold mfs
  rw [lookup_putF, if_pos rfl]
theorem mfs_no {m : Str} (l1 l2 l3 : Addr) (h1 : ¬ m = "_nexts") (h2 : ¬ m = "_prevs") (h3 : ¬ m = "_turns") : (mfs l1 l2 l3).lookup m = none := by
  unfold mfs
  rw [lookup_putF, if_neg h3, lookup_putF, if_neg h2, lookup_putF, if_neg h1]
  rfl
theorem putF_len (f : Str) (v : V) : ∀ fs : List (Str × V), (putF f v fs).length ≤ fs.length + 1
  | [] => Nat.le_refl _
  | (g, x) :: r => by
    unfold putF
    split
    · exact Nat.le_succ _
    · have := putF_len f v r
      simp only [List.length_cons]
      omega
def MeshAt (K : PySem.W.Frag) (H : Hp) (x : Addr) (ns : List Nat) : Prop := ∃ dx l1 l2 l3 : Addr, H x = some (.ins (He.ga K "Mesh") dx (mfs l1 l2 l3)) ∧
  H l1 = some (.lst (L ns)) ∧ H l2 = some (.lst (L (prevs ns))) ∧ H l3 = some (.lst (L (turns ns)))
theorem MeshAt.ex {K : PySem.W.Frag} {H H' : Hp} {x : Addr} {ns : List Nat} (h : MeshAt K H x ns) (e : Ex H H') : MeshAt K H' x ns := by
  obtain ⟨dx, l1, l2, l3, a, b, c, d⟩ := h
  exact ⟨dx, l1, l2, l3, e _ _ a, e _ _ b, e _ _ c, e _ _ d⟩
/-- the same, its lists not tracked by H0 -/
def MeshN (K : PySem.W.Frag) (H0 H : Hp) (x : Addr) (ns : List Nat) : Prop := ∃ dx l1 l2 l3 : Addr, H x = some (.ins (He.ga K "Mesh") dx (mfs l1 l2 l3)) ∧
  H l1 = some (.lst (L ns)) ∧ H l2 = some (.lst (L (prevs ns))) ∧ H l3 = some (.lst (L (turns ns))) ∧ H0 l1 = none ∧ H0 l2 = none ∧ H0 l3 = none
theorem MeshN.at {K : PySem.W.Frag} {H0 H : Hp} {x : Addr} {ns : List Nat} (h : MeshN K H0 H x ns) : MeshAt K H x ns := by
  obtain ⟨dx, l1, l2, l3, a, b, c, d, _⟩ := h
  exact ⟨dx, l1, l2, l3, a, b, c, d⟩
theorem MeshN.ex {K : PySem.W.Frag} {H0 H H' : Hp} {x : Addr} {ns : List Nat} (h : MeshN K H0 H x ns) (e : Ex H H') : MeshN K H0 H' x ns := by
  obtain ⟨dx, l1, l2, l3, a, b, c, d, f⟩ := h
  exact ⟨dx, l1, l2, l3, e _ _ a, e _ _ b, e _ _ c, e _ _ d, f⟩
theorem MeshN.back {K : PySem.W.Frag} {H0 H1 H : Hp} {x : Addr} {ns : List Nat} (h : MeshN K H1 H x ns) (e : Ex H0 H1) : MeshN K H0 H x ns := by
  obtain ⟨dx, l1, l2, l3, a, b, c, d, f, g, i⟩ := h
  exact ⟨dx, l1, l2, l3, a, b, c, d, fresh_back e f, fresh_back e g, fresh_back e i⟩
theorem MeshN.upd {K : PySem.W.Frag} {H0 H : Hp} {x p : Addr} {ns : List Nat} {o u : HO} (h : MeshN K H0 H x ns) (hp : H0 p = some u) (hx : H0 x = none) : MeshN K H0 (upd H p o) x ns := by
  obtain ⟨dx, l1, l2, l3, a, b, c, d, f, g, i⟩ := h
  exact ⟨dx, l1, l2, l3, by rw [upd_ne (ne_of_none hp hx).symm]; exact a, by rw [upd_ne (ne_of_none hp f).symm]; exact b, by rw [upd_ne (ne_of_none hp g).symm]; exact c, by rw [upd_ne (ne_of_none hp i).symm]; exact d, f, g, i⟩
/-- a list of next halves of a mesh, of bearable length -/
structure MP (ns : List Nat) : Prop where
  p : IsP ns
  two : ns.length % 2 = 0
  len : ns.length ≤ 1000
theorem nat_xor_1 (n : Nat) : n ^^^ 1 = tw n := by
  have h1 : (n ^^^ 1) / 2 = n / 2 := by rw [Nat.xor_div_two]; simp
  have h2 := Nat.xor_mod_two_eq_one (a := n) (b := 1)
  unfold tw
  by_cases q : (n ^^^ 1) % 2 = 1
  · have := h2.mp q
    split <;> omega
  · have := fun w => q (h2.mpr w)
    split <;> omega
theorem xor_tw (n : Nat) : Builtin.bitXor (n : Int) 1 = ((tw n : Nat) : Int) := by
  rw [Bits.bitXor_pp (by omega) (by decide), ← nat_xor_1]
  rfl
theorem itr_congr {f g : Nat → Nat} {N : Nat} (P : Pf f N) (e : ∀ x, x < N → f x = g x) {x : Nat} (hx : x < N) (k : Nat) : itr f k x = itr g k x := by
  induction k with
  | zero => rfl
  | succ k ih =>
    show f (itr f k x) = g (itr g k x)
    rw [← ih]
    exact e _ (itr_lt P hx k)
theorem per_congr {f g : Nat → Nat} {N : Nat} (P : Pf f N) (e : ∀ x, x < N → f x = g x) {x : Nat} (hx : x < N) : per f N x = per g N x := by
  unfold per
  have : (fun k => itr f (k + 1) x == x) = fun k => itr g (k + 1) x == x := by
    funext k
    rw [itr_congr P e hx]
  rw [this]
theorem rnd_congr {f g : Nat → Nat} {N : Nat} (P : Pf f N) (e : ∀ x, x < N → f x = g x) {x : Nat} (hx : x < N) : rnd f N x = rnd g N x := by
  unfold rnd
  rw [per_congr P e hx]
  exact List.map_congr_left fun k _ => itr_congr P e hx k
theorem cycs_congr {f g : Nat → Nat} {N : Nat} (P : Pf f N) (e : ∀ x, x < N → f x = g x) : cycs f N N = cycs g N N := by
  unfold cycs
  have h1 : (List.range N).filter (isMin f N) = (List.range N).filter (isMin g N) := by
    refine List.filter_congr fun x hx => ?_
    unfold isMin
    rw [rnd_congr P e (List.mem_range.mp hx)]
  rw [h1]
  refine List.map_congr_left fun x hx => ?_
  exact rnd_congr P e (List.mem_range.mp (List.mem_filter.mp hx).1)
/-- the faces, the corners -/
def cyc (ns : List Nat) (b : Bool) : List (List Nat) := cycs (stp ns b) ns.length ns.length
theorem cyc_faces (ns : List Nat) : cycs (fn ns) ns.length ns.length = cyc ns true := rfl
theorem cyc_corners {ns : List Nat} (h : IsP ns) (h2 : ns.length % 2 = 0) : cycs (fn (turns ns)) (turns ns).length (turns ns).length = cyc ns false := by
  have h3 := pf_fn (isP_turns h h2)
  rw [turns_len] at h3 ⊢
  exact cycs_congr h3 fun x hx => fn_turns hx

def tRz (C : Addr) (sp : Sp) (E : XK) : TS := fun _ σ H => tMk0 C sp σ H E
def sp_NotAMeshinit (K : PySem.W.Frag) : Sp := fun vs H Q _ => ∃ x : Addr, vs = [.ref x] ∧ H x = some (exo x (He.ga K "NotAMesh") none) ∧ Q .non H
abbrev nm_NotAMeshinit : List Str := ["self", "__class__"]
abbrev pr_NotAMeshinit : List Str := ["self"]
theorem ln_NotAMeshinit {K : PySem.W.Frag} (vs : List V) (H : Hp) (Q : VK) (E : XK) (h : sp_NotAMeshinit K vs H Q E) : vs.length = pr_NotAMeshinit.length := by
  obtain ⟨_, rfl, _⟩ := h
  rfl
theorem del_upd {H : Hp} {a : Addr} {o : HO} (h : H a = none) : del (L2.upd H a o) a = H := by
  funext b
  by_cases q : b = a
  · rw [q, del_same, h]
  · rw [del_ne q, upd_ne q]
theorem rz_NotAMesh {K : PySem.W.Frag} {E : XK} {D : Ends} {σ : L2.St} {H : Hp} (k : E (.ref (He.ga K "NotAMesh")) none H) : tRz (He.ga K "NotAMesh") (sp_NotAMeshinit K) E D σ H := fun a ha =>
  ⟨a, rfl, upd_same, rfl, upd_same, by rw [del_upd ha]; exact k⟩
def sp_Meshinit (K : PySem.W.Frag) : Sp := fun vs H Q E => ∃ (x dx a : Addr) (xs : List V), vs = [.ref x, .ref a] ∧ H x = some (.ins (He.ga K "Mesh") dx []) ∧ SqL K H a xs ∧ xs.length ≤ 1000 ∧ (∀ v ∈ xs, IB v) ∧
  (∀ ns, xs = L ns → MP ns → ∀ H', MeshN K H H' x ns → ExO x H H' → Q .non H') ∧ (¬ Good xs → ∀ H', Ex H H' → E (.ref (He.ga K "NotAMesh")) none H')
abbrev nm_Meshinit : List Str := ["self", "nexts", "links", "half"]
abbrev pr_Meshinit : List Str := ["self", "nexts"]
def t_Meshinit (K : PySem.W.Frag) (E : XK) : TS :=
  (tSeq (tAsg (tCB (cList K) (tCons (tVar 1) tNil)) (gName 2))
  (tSeq (tIfS (tNot (tB (tCall (sp_areallhalves K) [] E0 (tCons (tVar 2) tNil)))) (tRz (He.ga K "NotAMesh") (sp_NotAMeshinit K) E) tNext)
  (tSeq (sFld K (tVar 0) (tVar 2) "_nexts")
  (tSeq (sFld K (tVar 0) (tCall (sp_inverse K) [] E0 (tCons (tVar 2) tNil)) "_prevs")
  (sFld K (tVar 0) (tLc (iList K (tFld K (tVar 0) "_prevs")) (gName 3) tYes (tOp zXor (tVar 3) (tC (.int 1))) [3]) "_turns")))))
abbrev Wt_Meshinit (K : PySem.W.Frag) (vs : List V) (H : Hp) (Q : VK) (E : XK) : Prop := t_Meshinit K E { nx := fun _ H' => Q .non H', rt := Q } (start nm_Meshinit vs) H
theorem ln_Meshinit {K : PySem.W.Frag} (vs : List V) (H : Hp) (Q : VK) (E : XK) (h : sp_Meshinit K vs H Q E) : vs.length = pr_Meshinit.length := by
  obtain ⟨_, _, _, _, rfl, _⟩ := h
  rfl
theorem good_L {ns : List Nat} (h : MP ns) : Good (L ns) := ⟨ns, rfl, h.p, h.two⟩
theorem ib_L (ns : List Nat) : ∀ x ∈ L ns, IB x := fun x hx => by
  obtain ⟨n, _, rfl⟩ := List.mem_map.mp hx
  exact .inl ⟨_, rfl⟩
theorem spv_ahT {K : PySem.W.Frag} {H : Hp} {a : Addr} {xs : List V} (hS : SqL K H a xs) (hl : xs.length ≤ 1000) (hI : ∀ v ∈ xs, IB v) (h : Good xs) : SpV (sp_areallhalves K) [.ref a] H (.bl true) := fun H1 e Q q E =>
  ⟨a, xs, rfl, ex_l e hS, by omega, hI, fun b H' hb ex => by
    rw [hb.mpr h]
    exact q H' ex⟩
theorem spv_ahF {K : PySem.W.Frag} {H : Hp} {a : Addr} {xs : List V} (hS : SqL K H a xs) (hl : xs.length ≤ 1000) (hI : ∀ v ∈ xs, IB v) (h : ¬ Good xs) : SpV (sp_areallhalves K) [.ref a] H (.bl false) := fun H1 e Q q E =>
  ⟨a, xs, rfl, ex_l e hS, by omega, hI, fun b H' hb ex => by
    have : b = false := by
      cases b with
      | false => rfl
      | true => exact absurd (hb.mp rfl) h
    rw [this]
    exact q H' ex⟩
theorem rd_Meshinit {K : PySem.W.Frag} (F : KF K) (vs : List V) (H : Hp) (Q : VK) (E : XK) (h : sp_Meshinit K vs H Q E) : Wt_Meshinit K vs H Q E := by
  obtain ⟨x, dx, a, xs, rfl, hx, hS, hxl, hI, kg, kb⟩ := h
  show t_Meshinit K E _ [some (.ref x), some (.ref a), none, none] H
  refine q_asgL (el_cb (ea_1 (ev_var rfl)) (rcl_list hS)) (fun l1 H1 hl1 e1 h1 => ?_)
  by_cases hg : Good xs
  case neg =>
    refine q_when (b := !false) (et_not (et_B (ev_call (ea_1 (ev_var rfl)) (spv_ahF (sq_of h1) hxl hI hg)))) (fun _ H2 e2 => rz_NotAMesh (kb hg H2 (e1.trans e2))) (fun hb => nomatch hb)
  obtain ⟨ns, rfl, hP, h2⟩ := id hg
  have hM : MP ns := ⟨hP, h2, by rw [L_len] at hxl; exact hxl⟩
  have k := kg ns rfl hM
  have hxl1 : l1 ≠ x := (ne_of_none hx hl1).symm
  refine q_when (b := !true) (et_not (et_B (ev_call (ea_1 (ev_var rfl)) (spv_ahT (sq_of h1) hxl hI hg)))) (fun hb => nomatch hb) (fun _ H2 e2 => ?_)
  refine q_fld (C := He.ga K "Mesh") (dx := dx) (fs := []) (ev_var rfl) (ev_var rfl) (e2 _ _ (e1 _ _ hx)) F.cl F.n1 (by decide) (fun H3 e3 => ?_)
  have c3 : (upd H3 x (.ins (He.ga K "Mesh") dx (putF "_nexts" (.ref l1) []))) l1 = some (.lst (L ns)) := by
    rw [upd_ne hxl1]
    exact e3 _ _ (e2 _ _ h1)
  refine q_fldL (el_call (ea_1 (ev_var rfl)) (spl_inverse (sq_of c3) hM.p hM.len)) (ev_var rfl) upd_same F.cl F.n2 (by have := putF_len "_nexts" (.ref l1) []; simp only [List.length_nil] at this; omega) (fun l2 H4 hl2 e4 h4 => ?_)
  have hxl2 : l2 ≠ x := (ne_of_none upd_same hl2).symm
  have hl12 : l1 ≠ l2 := ne_of_none c3 hl2
  have d1 : (upd H4 x (.ins (He.ga K "Mesh") dx (putF "_prevs" (.ref l2) (putF "_nexts" (.ref l1) [])))) l1 = some (.lst (L ns)) := by
    rw [upd_ne hxl1]
    exact e4 _ _ c3
  have d2 : (upd H4 x (.ins (He.ga K "Mesh") dx (putF "_prevs" (.ref l2) (putF "_nexts" (.ref l1) [])))) l2 = some (.lst (L (prevs ns))) := by
    rw [upd_ne hxl2]
    exact h4
  have hlk : (putF "_prevs" (V.ref l2) (putF "_nexts" (V.ref l1) [])).lookup ("_prevs" : Str) = some (.ref l2) := by
    rw [lookup_putF, if_pos rfl]
  have hcomp : EvL (tLc (iList K (tFld K (tVar 0) "_prevs")) (gName 3) tYes (tOp zXor (tVar 3) (tC (.int 1))) [3]) [some (.ref x), some (.ref a), some (.ref l1), none] (upd H4 x (.ins (He.ga K "Mesh") dx (putF "_prevs" (.ref l2) (putF "_nexts" (.ref l1) [])))) (L (turns ns)) := by
    have := el_lcL (K := K) (σ := [some (.ref x), some (.ref a), some (.ref l1), none]) (H := upd H4 x (.ins (He.ga K "Mesh") dx (putF "_prevs" (.ref l2) (putF "_nexts" (.ref l1) [])))) (j := 3) (vs := [3]) (tl := tFld K (tVar 0) "_prevs") (t := tYes) (te := tOp zXor (tVar 3) (tC (.int 1))) (fun _ => true) (fun i => vi (fn (turns ns) i))
      (ev_fld (ev_var rfl) upd_same F.cl F.n2 hlk) (sq_of d2) (by rw [L_len, prevs_len]; have := hM.len; omega) (fun _ => rfl) (fun i y H1 _ _ => et_yes) (fun i y H1 _ hy _ => by
        obtain ⟨q1, rfl⟩ := L_item hy
        rw [prevs_len] at q1
        refine ev_is (ev_op (ev_var rfl) ev_c rv_I0) ?_
        show V.int (Builtin.bitXor (fn (prevs ns) i : Int) 1) = _
        rw [xor_tw, fn_prevs q1, fn_turns q1])
    rw [given_all] at this
    have e : (List.range (L (prevs ns)).length).map (fun i => vi (fn (turns ns) i)) = L (turns ns) := by
      refine List.ext_getElem? fun j => ?_
      rw [L_len, prevs_len]
      by_cases hj : j < ns.length
      · rw [List.getElem?_map, List.getElem?_range hj, L_get (by rw [turns_len]; exact hj)]
        rfl
      · rw [List.getElem?_eq_none (by rw [List.length_map, List.length_range]; omega), List.getElem?_eq_none (by rw [L_len, turns_len]; omega)]
    rw [e] at this
    exact this
  refine s_fldL hcomp (ev_var rfl) upd_same F.cl F.n3 (by have := putF_len "_nexts" (.ref l1) []; have := putF_len "_prevs" (.ref l2) (putF "_nexts" (.ref l1) []); simp only [List.length_nil] at *; omega) (fun l3 H5 hl3 e5 h5 => ?_)
  have hxl3 : l3 ≠ x := (ne_of_none upd_same hl3).symm
  have bkx : ∀ {l : Addr} {H' : Hp}, ExO x H H' → l ≠ x → H' l = none → H l = none := fun {l H'} e n q => by
    cases w : H l with
    | none => rfl
    | some o =>
      rw [e l o n w] at q
      cases q
  refine k _ ⟨dx, l1, l2, l3, upd_same, ?_, ?_, ?_, hl1, bkx (ExO.of (e1.trans (e2.trans e3))).upd hxl2 hl2, bkx (((ExO.of (e1.trans (e2.trans e3))).upd).trans (ExO.of e4)).upd hxl3 hl3⟩ ?_
  · rw [upd_ne hxl1]
    exact e5 _ _ d1
  · rw [upd_ne hxl2]
    exact e5 _ _ d2
  · rw [upd_ne hxl3]
    exact h5
  · exact ((((ExO.of (e1.trans (e2.trans e3))).upd).trans (ExO.of e4)).upd.trans (ExO.of e5)).upd
section
variable {K : PySem.W.Frag} {σ : L2.St} {H : Hp} {ta tb te : TE} {D : Ends} {tz : TS}
/-- i = Mesh(l) -/
theorem q_mesh {i : Nat} {a : Addr} {ns : List Nat} {E : XK} (h : Ev te σ H (.ref a)) (hS : SqL K H a (L ns)) (hM : MP ns) (k : ∀ x H1, H x = none → MeshN K H H1 x ns → Ex H H1 → tz D (σ.set i (some (.ref x))) H1) :
    tSeq (tAsg (tMake (He.ga K "Mesh") (sp_Meshinit K) [] E (tCons te tNil)) (gName i)) tz D σ H :=
  h H (Ex.refl H) _ fun H1 e1 => fun x dx hx hdx hne => by
    have hx0 := fresh_back e1 hx
    have ex : Ex H1 (upd (upd H1 dx (.own x)) x (.ins (He.ga K "Mesh") dx [])) := fun b o q => by
      rw [upd_ne (ne_of_none q hx), upd_ne (ne_of_none q hdx)]
      exact q
    refine ⟨x, dx, a, L ns, rfl, upd_same, ex_l (e1.trans ex) hS, by rw [L_len]; exact hM.len, ib_L ns, fun ms hms _ H2 m x2 => ⟨rfl, ?_⟩, fun hn => absurd (good_L hM) hn⟩
    obtain rfl := L_inj hms
    refine k x H2 hx0 (m.back (e1.trans ex)) fun b o q => ?_
    have hb : b ≠ x := ne_of_none q hx0
    exact x2 b o hb (ex b o (e1 b o q))
end
def sp_Meshafter (K : PySem.W.Frag) : Sp := fun vs H Q _ => ∃ (x : Addr) (ns : List Nat) (h : Nat), vs = [.ref x, vi h] ∧ MeshAt K H x ns ∧ h < ns.length ∧ ∀ H', Ex H H' → Q (vi (fn ns h)) H'
abbrev nm_Meshafter : List Str := ["self", "half"]
abbrev pr_Meshafter : List Str := ["self", "half"]
def t_Meshafter (K : PySem.W.Frag) : TS :=
  (tRet (tOp (rIxL K) (tFld K (tVar 0) "_nexts") (tVar 1)))
abbrev Wt_Meshafter (K : PySem.W.Frag) (vs : List V) (H : Hp) (Q : VK) : Prop := t_Meshafter K { nx := fun _ H' => Q .non H', rt := Q } (start nm_Meshafter vs) H
theorem ln_Meshafter {K : PySem.W.Frag} (vs : List V) (H : Hp) (Q : VK) (E : XK) (h : sp_Meshafter K vs H Q E) : vs.length = pr_Meshafter.length := by
  obtain ⟨_, _, _, rfl, _⟩ := h
  rfl
theorem rd_Meshafter {K : PySem.W.Frag} (F : KF K) (vs : List V) (H : Hp) (Q : VK) (E : XK) (h : sp_Meshafter K vs H Q E) : Wt_Meshafter K vs H Q := by
  obtain ⟨x, ns, h, rfl, ⟨dx, l1, l2, l3, a, b, c, d⟩, hh, k⟩ := h
  show t_Meshafter K _ [some (.ref x), some (vi h)] H
  exact s_ret (ev_op (ev_fld (ev_var rfl) a F.cl F.n1 (mfs_n _ _ _)) (ev_var rfl) (rv_ixL (sq_of b) (L_at hh))) (fun H1 e1 => k H1 e1)
def sp_Meshbefore (K : PySem.W.Frag) : Sp := fun vs H Q _ => ∃ (x : Addr) (ns : List Nat) (h : Nat), vs = [.ref x, vi h] ∧ MeshAt K H x ns ∧ h < ns.length ∧ ∀ H', Ex H H' → Q (vi (bk ns h)) H'
abbrev nm_Meshbefore : List Str := ["self", "half"]
abbrev pr_Meshbefore : List Str := ["self", "half"]
def t_Meshbefore (K : PySem.W.Frag) : TS :=
  (tRet (tOp (rIxL K) (tFld K (tVar 0) "_prevs") (tVar 1)))
abbrev Wt_Meshbefore (K : PySem.W.Frag) (vs : List V) (H : Hp) (Q : VK) : Prop := t_Meshbefore K { nx := fun _ H' => Q .non H', rt := Q } (start nm_Meshbefore vs) H
theorem ln_Meshbefore {K : PySem.W.Frag} (vs : List V) (H : Hp) (Q : VK) (E : XK) (h : sp_Meshbefore K vs H Q E) : vs.length = pr_Meshbefore.length := by
  obtain ⟨_, _, _, rfl, _⟩ := h
  rfl
theorem rd_Meshbefore {K : PySem.W.Frag} (F : KF K) (vs : List V) (H : Hp) (Q : VK) (E : XK) (h : sp_Meshbefore K vs H Q E) : Wt_Meshbefore K vs H Q := by
  obtain ⟨x, ns, h, rfl, ⟨dx, l1, l2, l3, a, b, c, d⟩, hh, k⟩ := h
  show t_Meshbefore K _ [some (.ref x), some (vi h)] H
  refine s_ret (ev_op (ev_fld (ev_var rfl) a F.cl F.n2 (mfs_p _ _ _)) (ev_var rfl) (rv_ixL (sq_of c) (L_at (by rw [prevs_len]; exact hh)))) (fun H1 e1 => ?_)
  show Q (vi (fn (prevs ns) h)) H1
  rw [fn_prevs hh]
  exact k H1 e1
def sp_Meshtwin (K : PySem.W.Frag) : Sp := fun vs H Q _ => ∃ (x : V) (h : Nat), vs = [x, vi h] ∧ ∀ H', Ex H H' → Q (vi (tw h)) H'
abbrev nm_Meshtwin : List Str := ["self", "half"]
abbrev pr_Meshtwin : List Str := ["self", "half"]
def t_Meshtwin (K : PySem.W.Frag) : TS :=
  (tRet (tOp zXor (tVar 1) (tC (.int 1))))
abbrev Wt_Meshtwin (K : PySem.W.Frag) (vs : List V) (H : Hp) (Q : VK) : Prop := t_Meshtwin K { nx := fun _ H' => Q .non H', rt := Q } (start nm_Meshtwin vs) H
theorem ln_Meshtwin {K : PySem.W.Frag} (vs : List V) (H : Hp) (Q : VK) (E : XK) (h : sp_Meshtwin K vs H Q E) : vs.length = pr_Meshtwin.length := by
  obtain ⟨_, _, rfl, _⟩ := h
  rfl
theorem rd_Meshtwin {K : PySem.W.Frag} (F : KF K) (vs : List V) (H : Hp) (Q : VK) (E : XK) (h : sp_Meshtwin K vs H Q E) : Wt_Meshtwin K vs H Q := by
  obtain ⟨x, h, rfl, k⟩ := h
  show t_Meshtwin K _ [some x, some (vi h)] H
  exact s_ret (v := vi (tw h)) (ev_is (ev_op (ev_var rfl) ev_c rv_I0) (by show V.int (Builtin.bitXor (h : Int) 1) = _; rw [xor_tw])) (fun H1 e1 => k H1 e1)
def sp_Meshturned (K : PySem.W.Frag) : Sp := fun vs H Q _ => ∃ (x : Addr) (ns : List Nat) (h : Nat), vs = [.ref x, vi h] ∧ MeshAt K H x ns ∧ h < ns.length ∧ ∀ H', Ex H H' → Q (vi (tw (bk ns h))) H'
abbrev nm_Meshturned : List Str := ["self", "half"]
abbrev pr_Meshturned : List Str := ["self", "half"]
def t_Meshturned (K : PySem.W.Frag) : TS :=
  (tRet (tOp (rIxL K) (tFld K (tVar 0) "_turns") (tVar 1)))
abbrev Wt_Meshturned (K : PySem.W.Frag) (vs : List V) (H : Hp) (Q : VK) : Prop := t_Meshturned K { nx := fun _ H' => Q .non H', rt := Q } (start nm_Meshturned vs) H
theorem ln_Meshturned {K : PySem.W.Frag} (vs : List V) (H : Hp) (Q : VK) (E : XK) (h : sp_Meshturned K vs H Q E) : vs.length = pr_Meshturned.length := by
  obtain ⟨_, _, _, rfl, _⟩ := h
  rfl
theorem rd_Meshturned {K : PySem.W.Frag} (F : KF K) (vs : List V) (H : Hp) (Q : VK) (E : XK) (h : sp_Meshturned K vs H Q E) : Wt_Meshturned K vs H Q := by
  obtain ⟨x, ns, h, rfl, ⟨dx, l1, l2, l3, a, b, c, d⟩, hh, k⟩ := h
  show t_Meshturned K _ [some (.ref x), some (vi h)] H
  refine s_ret (ev_op (ev_fld (ev_var rfl) a F.cl F.n3 (mfs_t _ _ _)) (ev_var rfl) (rv_ixL (sq_of d) (L_at (by rw [turns_len]; exact hh)))) (fun H1 e1 => ?_)
  show Q (vi (fn (turns ns) h)) H1
  rw [fn_turns hh]
  exact k H1 e1
def sp_Meshnexts (K : PySem.W.Frag) : Sp := fun vs H Q _ => ∃ (x : Addr) (ns : List Nat), vs = [.ref x] ∧ MeshAt K H x ns ∧ ∀ p H', H p = none → Ex H H' → H' p = some (.lst (L ns)) → Q (.ref p) H'
abbrev nm_Meshnexts : List Str := ["self"]
abbrev pr_Meshnexts : List Str := ["self"]
def t_Meshnexts (K : PySem.W.Frag) : TS :=
  (tRet (tCB (cList K) (tCons (tFld K (tVar 0) "_nexts") tNil)))
abbrev Wt_Meshnexts (K : PySem.W.Frag) (vs : List V) (H : Hp) (Q : VK) : Prop := t_Meshnexts K { nx := fun _ H' => Q .non H', rt := Q } (start nm_Meshnexts vs) H
theorem ln_Meshnexts {K : PySem.W.Frag} (vs : List V) (H : Hp) (Q : VK) (E : XK) (h : sp_Meshnexts K vs H Q E) : vs.length = pr_Meshnexts.length := by
  obtain ⟨_, _, rfl, _⟩ := h
  rfl
theorem rd_Meshnexts {K : PySem.W.Frag} (F : KF K) (vs : List V) (H : Hp) (Q : VK) (E : XK) (h : sp_Meshnexts K vs H Q E) : Wt_Meshnexts K vs H Q := by
  obtain ⟨x, ns, rfl, ⟨dx, l1, l2, l3, a, b, c, d⟩, k⟩ := h
  show t_Meshnexts K _ [some (.ref x)] H
  exact s_retL (el_cb (ea_1 (ev_fld (ev_var rfl) a F.cl F.n1 (mfs_n _ _ _))) (rcl_list (sq_of b))) (fun p H1 hp e1 h1 => k p H1 hp e1 h1)
theorem spl_Meshnexts {K : PySem.W.Frag} {H : Hp} {x : Addr} {ns : List Nat} (h : MeshAt K H x ns) : SpL (sp_Meshnexts K) [.ref x] H (L ns) := fun H1 e Q q E => ⟨x, ns, rfl, h.ex e, fun p H' hp ex hq => q p H' hp ex hq⟩
theorem spv_Meshafter {K : PySem.W.Frag} {H : Hp} {x : Addr} {ns : List Nat} {h : Nat} (m : MeshAt K H x ns) (hh : h < ns.length) : SpV (sp_Meshafter K) [.ref x, vi h] H (vi (fn ns h)) := fun H1 e Q q E => ⟨x, ns, h, rfl, m.ex e, hh, q⟩
theorem spv_Meshbefore {K : PySem.W.Frag} {H : Hp} {x : Addr} {ns : List Nat} {h : Nat} (m : MeshAt K H x ns) (hh : h < ns.length) : SpV (sp_Meshbefore K) [.ref x, vi h] H (vi (bk ns h)) := fun H1 e Q q E => ⟨x, ns, h, rfl, m.ex e, hh, q⟩
theorem spv_Meshtwin {K : PySem.W.Frag} {H : Hp} {x : V} {h : Nat} : SpV (sp_Meshtwin K) [x, vi h] H (vi (tw h)) := fun H1 e Q q E => ⟨x, h, rfl, q⟩
theorem spv_Meshturned {K : PySem.W.Frag} {H : Hp} {x : Addr} {ns : List Nat} {h : Nat} (m : MeshAt K H x ns) (hh : h < ns.length) : SpV (sp_Meshturned K) [.ref x, vi h] H (vi (tw (bk ns h))) := fun H1 e Q q E => ⟨x, ns, h, rfl, m.ex e, hh, q⟩
def sp_Meshfaces (K : PySem.W.Frag) : Sp := fun vs H Q _ => ∃ (x : Addr) (ns : List Nat), vs = [.ref x] ∧ MeshAt K H x ns ∧ MP ns ∧ ∀ p H', H p = none → Ex H H' → LLn H H' p (cyc ns true) → Q (.ref p) H'
abbrev nm_Meshfaces : List Str := ["self"]
abbrev pr_Meshfaces : List Str := ["self"]
def t_Meshfaces (K : PySem.W.Frag) : TS :=
  (tRet (tCall (sp_rounds K) [] E0 (tCons (tFld K (tVar 0) "_nexts") tNil)))
abbrev Wt_Meshfaces (K : PySem.W.Frag) (vs : List V) (H : Hp) (Q : VK) : Prop := t_Meshfaces K { nx := fun _ H' => Q .non H', rt := Q } (start nm_Meshfaces vs) H
theorem ln_Meshfaces {K : PySem.W.Frag} (vs : List V) (H : Hp) (Q : VK) (E : XK) (h : sp_Meshfaces K vs H Q E) : vs.length = pr_Meshfaces.length := by
  obtain ⟨_, _, rfl, _⟩ := h
  rfl
theorem LLn.of {H0 H1 H : Hp} {p : Addr} {xss : List (List Nat)} (h : LLn H1 H p xss) (e : Ex H0 H1) : LLn H0 H p xss := by
  obtain ⟨as, h1, h2, h3⟩ := h
  exact ⟨as, h1, h2, fun a ha => ⟨fresh_back e (h3 a ha).1, (h3 a ha).2⟩⟩
theorem rd_Meshfaces {K : PySem.W.Frag} (F : KF K) (vs : List V) (H : Hp) (Q : VK) (E : XK) (h : sp_Meshfaces K vs H Q E) : Wt_Meshfaces K vs H Q := by
  obtain ⟨x, ns, rfl, ⟨dx, l1, l2, l3, a, b, c, d⟩, hM, k⟩ := h
  show t_Meshfaces K _ [some (.ref x)] H
  refine s_retC (ea_1 (ev_fld (ev_var rfl) a F.cl F.n1 (mfs_n _ _ _))) (fun H1 e1 => ?_)
  exact ⟨l1, ns, rfl, sq_of (e1 _ _ b), hM.p, hM.len, fun p H' hp ex hq => k p H' (fresh_back e1 hp) (e1.trans ex) (hq.of e1)⟩
def sp_Meshcorners (K : PySem.W.Frag) : Sp := fun vs H Q _ => ∃ (x : Addr) (ns : List Nat), vs = [.ref x] ∧ MeshAt K H x ns ∧ MP ns ∧ ∀ p H', H p = none → Ex H H' → LLn H H' p (cyc ns false) → Q (.ref p) H'
abbrev nm_Meshcorners : List Str := ["self"]
abbrev pr_Meshcorners : List Str := ["self"]
def t_Meshcorners (K : PySem.W.Frag) : TS :=
  (tRet (tCall (sp_rounds K) [] E0 (tCons (tFld K (tVar 0) "_turns") tNil)))
abbrev Wt_Meshcorners (K : PySem.W.Frag) (vs : List V) (H : Hp) (Q : VK) : Prop := t_Meshcorners K { nx := fun _ H' => Q .non H', rt := Q } (start nm_Meshcorners vs) H
theorem ln_Meshcorners {K : PySem.W.Frag} (vs : List V) (H : Hp) (Q : VK) (E : XK) (h : sp_Meshcorners K vs H Q E) : vs.length = pr_Meshcorners.length := by
  obtain ⟨_, _, rfl, _⟩ := h
  rfl
theorem rd_Meshcorners {K : PySem.W.Frag} (F : KF K) (vs : List V) (H : Hp) (Q : VK) (E : XK) (h : sp_Meshcorners K vs H Q E) : Wt_Meshcorners K vs H Q := by
  obtain ⟨x, ns, rfl, ⟨dx, l1, l2, l3, a, b, c, d⟩, hM, k⟩ := h
  show t_Meshcorners K _ [some (.ref x)] H
  refine s_retC (ea_1 (ev_fld (ev_var rfl) a F.cl F.n3 (mfs_t _ _ _))) (fun H1 e1 => ?_)
  refine ⟨l3, turns ns, rfl, sq_of (e1 _ _ d), isP_turns hM.p hM.two, by rw [turns_len]; exact hM.len, fun p H' hp ex hq => k p H' (fresh_back e1 hp) (e1.trans ex) ?_⟩
  rw [cyc_corners hM.p hM.two] at hq
  exact hq.of e1
end Hm
namespace Hm
open PySem PySem.Spec PyProof.Rows L2 Evl
/-! ### the program: ==, len, in of a mesh -/
/-- what the written part says of isinstance for meshes, lists and integers -/
structure KQ (K : PySem.W.Frag) : Prop where
  kf : KF K
  ins : InsF K (He.ga K "Mesh")
  kl : PySem.W.kitOne K (.type "list") (.ref (He.ga K "Mesh")) = some false
  ki : PySem.W.kitOne K (.type "int") (.ref (He.ga K "Mesh")) = some false
  sl : PySem.W.subIn K (.type "list") (.ref (He.ga K "Mesh")) = some false
  si : PySem.W.subIn K (.type "int") (.ref (He.ga K "Mesh")) = some false
theorem kit_refl {K : PySem.W.Frag} {v : Value} : PySem.W.kitOne K v v = some true := by
  unfold PySem.W.kitOne
  rw [if_pos (beq_self_eq_true v)]
inductive EqTo (K : PySem.W.Frag) (H : Hp) (ns : List Nat) : V → Bool → Prop where
  | mesh {z : Addr} {ms : List Nat} (m : MeshAt K H z ms) : EqTo K H ns (.ref z) (decide (ns = ms))
  | lst {p : Addr} {xs : List V} (h : H p = some (.lst xs)) : EqTo K H ns (.ref p) false
  | int (i : Int) : EqTo K H ns (.int i) false
theorem EqTo.ex {K : PySem.W.Frag} {H H' : Hp} {ns : List Nat} {y : V} {b : Bool} (h : EqTo K H ns y b) (e : Ex H H') : EqTo K H' ns y b := by
  cases h with
  | mesh m => exact .mesh (m.ex e)
  | lst h => exact .lst (e _ _ h)
  | int i => exact .int i
theorem EqTo.rgt {K : PySem.W.Frag} {H : Hp} {ns : List Nat} {y : V} {b : Bool} (h : EqTo K H ns y b) (F : KQ K) : Rgt K (He.ga K "Mesh") H y := by
  cases h with
  | mesh m =>
    obtain ⟨dx, l1, l2, l3, a, _⟩ := m
    exact .ins a
  | lst h => exact .lst h F.sl
  | int i => exact .int i F.si
def sp_Mesheq (K : PySem.W.Frag) : Sp := fun vs H Q _ => ∃ (x : Addr) (ns : List Nat) (y : V) (b : Bool), vs = [.ref x, y] ∧ MeshAt K H x ns ∧ EqTo K H ns y b ∧ ∀ H', Ex H H' → Q (.bl b) H'
abbrev nm_Mesheq : List Str := ["self", "other"]
abbrev pr_Mesheq : List Str := ["self", "other"]
def t_Mesheq (K : PySem.W.Frag) : TS :=
  (tRet (tAndV (tCB (rIsi K) (tCons (tVar 1) (tCons (tC (.ref (He.ga K "Mesh"))) tNil))) (tOp (rEqD K) (tFld K (tVar 0) "_nexts") (tFld K (tVar 1) "_nexts"))))
abbrev Wt_Mesheq (K : PySem.W.Frag) (vs : List V) (H : Hp) (Q : VK) : Prop := t_Mesheq K { nx := fun _ H' => Q .non H', rt := Q } (start nm_Mesheq vs) H
theorem ln_Mesheq {K : PySem.W.Frag} (vs : List V) (H : Hp) (Q : VK) (E : XK) (h : sp_Mesheq K vs H Q E) : vs.length = pr_Mesheq.length := by
  obtain ⟨_, _, _, _, rfl, _⟩ := h
  rfl
theorem ty_mesh {K : PySem.W.Frag} {H : Hp} {x : Addr} {ns : List Nat} (F : KQ K) (m : MeshAt K H x ns) : TyX K H (.ref x) (.ref (He.ga K "Mesh")) := by
  obtain ⟨dx, l1, l2, l3, a, _⟩ := m
  exact .base (.ins a F.kf.cl F.ins.ha F.ins.hn F.ins.ht F.ins.hm)
theorem rd_Mesheq {K : PySem.W.Frag} (F : KQ K) (vs : List V) (H : Hp) (Q : VK) (E : XK) (h : sp_Mesheq K vs H Q E) : Wt_Mesheq K vs H Q := by
  obtain ⟨x, ns, y, b, rfl, m, he, k⟩ := h
  obtain ⟨dx, l1, l2, l3, a1, b1, c1, d1⟩ := id m
  show t_Mesheq K _ [some (.ref x), some y] H
  cases he with
  | mesh m2 =>
    obtain ⟨dx2, k1, k2, k3, a2, b2, c2, d2⟩ := id m2
    refine s_ret (ev_andV (a := true) (ev_cb (ea_2 (ev_var rfl) ev_c) (rc_isi (.own _) (fun H1 e => ty_mesh F (m2.ex e)) kit_refl)) (fun _ => ev_op (ev_fld (ev_var rfl) a1 F.kf.cl F.kf.n1 (mfs_n _ _ _)) (ev_fld (ev_var rfl) a2 F.kf.cl F.kf.n1 (mfs_n _ _ _)) (rv_eqN (sq_of b1) (sq_of b2)))) (fun H1 e1 => ?_)
    rw [Bool.true_and]
    exact k H1 e1
  | lst h => exact s_ret (ev_andV (a := false) (b := false) (ev_cb (ea_2 (ev_var rfl) ev_c) (rc_isi (.own _) (fun H1 e => .base (.lst (e _ _ h))) F.kl)) (fun hb => nomatch hb)) (fun H1 e1 => k H1 e1)
  | int i => exact s_ret (ev_andV (a := false) (b := false) (ev_cb (ea_2 (ev_var rfl) ev_c) (rc_isi (.own _) (fun H1 e => .base (.int i)) F.ki)) (fun hb => nomatch hb)) (fun H1 e1 => k H1 e1)
def sp_Meshlen (K : PySem.W.Frag) : Sp := fun vs H Q _ => ∃ (x : Addr) (ns : List Nat), vs = [.ref x] ∧ MeshAt K H x ns ∧ ∀ H', Ex H H' → Q (.int (ns.length : Int)) H'
abbrev nm_Meshlen : List Str := ["self"]
abbrev pr_Meshlen : List Str := ["self"]
def t_Meshlen (K : PySem.W.Frag) : TS :=
  (tRet (tCB (cLen K) (tCons (tFld K (tVar 0) "_nexts") tNil)))
abbrev Wt_Meshlen (K : PySem.W.Frag) (vs : List V) (H : Hp) (Q : VK) : Prop := t_Meshlen K { nx := fun _ H' => Q .non H', rt := Q } (start nm_Meshlen vs) H
theorem ln_Meshlen {K : PySem.W.Frag} (vs : List V) (H : Hp) (Q : VK) (E : XK) (h : sp_Meshlen K vs H Q E) : vs.length = pr_Meshlen.length := by
  obtain ⟨_, _, rfl, _⟩ := h
  rfl
theorem rd_Meshlen {K : PySem.W.Frag} (F : KF K) (vs : List V) (H : Hp) (Q : VK) (E : XK) (h : sp_Meshlen K vs H Q E) : Wt_Meshlen K vs H Q := by
  obtain ⟨x, ns, rfl, ⟨dx, l1, l2, l3, a, b, c, d⟩, k⟩ := h
  show t_Meshlen K _ [some (.ref x)] H
  exact s_ret (ev_is (ev_cb (ea_1 (ev_fld (ev_var rfl) a F.cl F.n1 (mfs_n _ _ _))) (rc_len (sq_of b))) (by rw [L_len])) (fun H1 e1 => k H1 e1)
def sp_Meshcontains (K : PySem.W.Frag) : Sp := fun vs H Q _ => ∃ (x : Addr) (ns : List Nat) (i : Int), vs = [.ref x, .int i] ∧ MeshAt K H x ns ∧ ∀ H', Ex H H' → Q (.bl (decide (0 ≤ i) && decide (i < (ns.length : Int)))) H'
abbrev nm_Meshcontains : List Str := ["self", "half"]
abbrev pr_Meshcontains : List Str := ["self", "half"]
def t_Meshcontains (K : PySem.W.Frag) : TS :=
  (tRet (tAndV (tCall (sp_isinteger K) [] E0 (tCons (tVar 1) tNil)) (tChain zLe zLt (tC (.int 0)) (tVar 1) (tCB (cLen K) (tCons (tFld K (tVar 0) "_nexts") tNil)))))
abbrev Wt_Meshcontains (K : PySem.W.Frag) (vs : List V) (H : Hp) (Q : VK) : Prop := t_Meshcontains K { nx := fun _ H' => Q .non H', rt := Q } (start nm_Meshcontains vs) H
theorem ln_Meshcontains {K : PySem.W.Frag} (vs : List V) (H : Hp) (Q : VK) (E : XK) (h : sp_Meshcontains K vs H Q E) : vs.length = pr_Meshcontains.length := by
  obtain ⟨_, _, _, rfl, _⟩ := h
  rfl
theorem rd_Meshcontains {K : PySem.W.Frag} (F : KF K) (vs : List V) (H : Hp) (Q : VK) (E : XK) (h : sp_Meshcontains K vs H Q E) : Wt_Meshcontains K vs H Q := by
  obtain ⟨x, ns, i, rfl, ⟨dx, l1, l2, l3, a, b, c, d⟩, k⟩ := h
  show t_Meshcontains K _ [some (.ref x), some (.int i)] H
  refine s_ret (v := .bl (true && (decide (0 ≤ i) && decide (i < (ns.length : Int))))) (ev_andV (ev_call (ea_1 (ev_var rfl)) (spv_isinteger (.inl ⟨i, rfl⟩))) (fun _ => ev_chain ev_c (ev_var rfl) rv_I0 (fun _ => ev_is (ev_cb (ea_1 (ev_fld (ev_var rfl) a F.cl F.n1 (mfs_n _ _ _))) (rc_len (sq_of b))) (by rw [L_len])) (fun _ => rv_I0))) (fun H1 e1 => k H1 e1)
section
variable {K : PySem.W.Frag} {H : Hp} {x : Addr} {ns : List Nat}
theorem rc_ownLen (m : MeshAt K H x ns) (hl : ns.length ≤ 1000) : RC (rOwnLen (He.ga K "Mesh") (sp_Meshlen K) E0) [.ref x] H (.int (ns.length : Int)) := fun H1 e Q q => by
  obtain ⟨dx, l1, l2, l3, a, _⟩ := m.ex e
  exact ⟨x, dx, _, rfl, a, x, ns, rfl, m.ex e, fun H2 e2 => ⟨ns.length, rfl, by omega, q H2 e2⟩⟩
theorem rv_ownIn {neg : Bool} {i : Int} (m : MeshAt K H x ns) : RV (rOwnIn (He.ga K "Mesh") (sp_Meshcontains K) E0 neg) (.int i) (.ref x) H (.bl (if neg then !(decide (0 ≤ i) && decide (i < (ns.length : Int))) else (decide (0 ≤ i) && decide (i < (ns.length : Int))))) := fun H1 e Q q => by
  obtain ⟨dx, l1, l2, l3, a, _⟩ := m.ex e
  exact ⟨x, dx, _, rfl, a, x, ns, i, rfl, m.ex e, fun H2 e2 => ⟨_, rfl, q H2 e2⟩⟩
theorem rv_ownEq {y : V} {b : Bool} (F : KQ K) (m : MeshAt K H x ns) (h : EqTo K H ns y b) : RV (rOwnEq K (He.ga K "Mesh") (sp_Mesheq K) E0) (.ref x) y H (.bl b) := fun H1 e Q q => by
  obtain ⟨dx, l1, l2, l3, a, _⟩ := m.ex e
  exact ⟨x, dx, _, rfl, a, (h.ex e).rgt F, x, ns, y, b, rfl, m.ex e, h.ex e, fun H2 e2 => ⟨b, rfl, q H2 e2⟩⟩
end
end Hm
namespace Hm
open PySem PySem.Spec PyProof.Rows L2 Evl
/-! ### try .. except .. as -/
abbrev eLen (n : Nat) (W : WX) : XK := fun cls d H => ∀ σ : L2.St, σ.length = n → W cls d σ H
def tPre (p : Prop) (t : TS) : TS := fun D σ H => p ∧ t D σ H
def tTry (K : PySem.W.Frag) (c : Value) (i : Nat) (tb : WX → TS) (ts : Addr → Value → Option Addr → TS) : TS := fun D σ H => tb (wAs K c i ts (fun _ _ _ _ => False) D) D σ H
theorem pss_pre {X : Cx} {b : List Stmt} {p : Prop} {t : TS} (h : p → PSs X b t) : PSs X b (tPre p t) := ⟨fun pins s σ H D I hw => (h hw.1).run pins s σ H D I hw.2⟩
theorem ps_tryT {X : Cx} {x n : Str} {c : Value} {i : Nat} {body suite : List Stmt} {b₀ : Stmt} {np pos pos' : Pos} {tb : WX → TS} {ts : Addr → Value → Option Addr → TS} (hs : X.stack = X.env :: X.outer) (hf : X.env.frame = some X.env.locals) (hN : X.N.Nodup) (hi : X.N[i]? = some n) (hln : X.env.kindOf n = some .local) (hc : Names X x c)
    (hb : ∀ (W : WX) (pn : List (Addr × Obj)) (xe : Value → Shared → Prop), Takes (X.tr pn xe) W → PassesOwn (model X.prog X.w) X.A X.env xe → PSs (X.tr pn xe) body (tb W))
    (hsu : ∀ (a : Addr) (oe : Obj) (cls : Value) (d : Option Addr) (pn : List (Addr × Obj)), Zc cls d oe → (∃ vs, oe.data = .fields vs) → PSs (X.suite a ((a, oe) :: pn)) (b₀ :: suite) (ts a cls d)) :
    PS X (.Try body [.ExceptHandler (some (.Name x np)) (some n) (b₀ :: suite) pos'] [] [] pos) (tTry X.K c i tb ts) := ps_try_as hs hf hN hi hln hc takes0 hb hsu
theorem zc_of {C : Addr} {cls : Value} {d : Option Addr} {oe : Obj} (hz : Zc cls d oe) (hq : cls = .ref C ∧ d = none) : Zc (.ref C) none oe := by
  obtain ⟨rfl, rfl⟩ := hq
  exact hz
theorem rc_isE {K : PySem.W.Frag} {D a : Addr} {H : Hp} {c : V} {cv : Value} {b : Bool} (h1 : ∀ u, RelV c u → u = cv) (h2 : PySem.W.kitOne K (.ref D) cv = some b) : RC (rIsE K D a) [.ref a, c] H (.bl b) := fun H1 e Q q => ⟨c, cv, b, rfl, h1, h2, q H1 (Ex.refl H1)⟩
theorem q_tryMake {K : PySem.W.Frag} {c : Value} {i n : Nat} {C a : Addr} {sp : Sp} {te : TE} {ts : Addr → Value → Option Addr → TS} {tz : TS} {D : Ends} {σ : L2.St} {H : Hp} (h : Ev te σ H (.ref a))
    (k : ∀ H1 x dx, Ex H H1 → H1 x = none → H1 dx = none → dx ≠ x → sp [.ref x, .ref a] (upd (upd H1 dx (.own x)) x (.ins C dx [])) (fun v H2 => v = .non ∧ tz D σ H2) (eLen n (wAs K c i ts (fun _ _ _ _ => False) { D with nx := tz D }))) :
    tSeq (tTry K c i (fun W => tDrop (tMake C sp [] (eLen n W) (tCons te tNil))) ts) tz D σ H := h H (Ex.refl H) _ fun H1 e1 => fun x dx hx hdx hne => k H1 x dx e1 hx hdx hne
/-! ### lists that are no mesh -/
theorem good_mem {xs : List V} (h : Good xs) {v : V} (hv : v ∈ xs) : ∃ n, n < xs.length ∧ v = vi n := by
  obtain ⟨ns, rfl, hP, _⟩ := h
  obtain ⟨n, hn, rfl⟩ := List.mem_map.mp hv
  exact ⟨n, by rw [L_len]; exact hP.mem.mp hn, rfl⟩
theorem good_even {xs : List V} (h : Good xs) : xs.length % 2 = 0 := by
  obtain ⟨ns, rfl, _, h2⟩ := h
  rw [L_len]
  exact h2
theorem good_two {xs : List V} (h : Good xs) {i j : Nat} {v : V} (hi : xs[i]? = some v) (hj : xs[j]? = some v) : i = j := by
  obtain ⟨ns, rfl, hP, _⟩ := h
  obtain ⟨h1, e1⟩ := L_item hi
  obtain ⟨h2, e2⟩ := L_item hj
  have h3 : (fn ns i : Int) = (fn ns j : Int) := V.int.inj (e1.symm.trans e2)
  exact (pf_fn hP).inj i j h1 h2 (Int.ofNat.inj h3)
theorem rep_set {xs : List V} {p : Nat} {v : V} (h : p < xs.length) : (xs.take p ++ [v]) ++ xs.drop (p + 1) = xs.set p v := by
  rw [List.set_eq_take_append_cons_drop, if_pos h, List.append_assoc]
  rfl
theorem ib_set {xs : List V} {p : Nat} {v : V} (h : ∀ x ∈ xs, IB x) (hv : IB v) : ∀ x ∈ xs.set p v, IB x := fun x hx => by
  rcases List.mem_or_eq_of_mem_set hx with h1 | h1
  · exact h x h1
  · rw [h1]
    exact hv
section
variable {K : PySem.W.Frag} {σ : L2.St} {H : Hp} {ta tb te : TE}
/-- xs[:p] + [v] + xs[q:] -/
theorem el_cut {a : Addr} {xs : List V} {v : V} {p q : Nat} {t1 t2 : TE} (ha : Ev ta σ H (.ref a)) (hS : SqL K H a xs) (h1 : Ev t1 σ H (.int (p : Int))) (h2 : Ev t2 σ H (.int (q : Int))) (hv : Ev te σ H v) (hp : p ≤ xs.length) (hq : q ≤ xs.length) (hz : xs.length ≤ 10000) :
    EvL (tOp rCat (tOp rCat (tSl (rSlL K) ta tNoPart (tPart t1)) (tLst (tCons te tNil))) (tSl (rSlL K) ta (tPart t2) tNoPart)) σ H ((xs.take p ++ [v]) ++ xs.drop q) := by
  have el1 := el_sl (K := K) (te := ta) (tl := tNoPart) (th := tPart t1) (σ := σ) ha eo_none (eo_some h1) hS
  have el2 := el_sl (K := K) (te := ta) (tl := tPart t2) (th := tNoPart) (σ := σ) ha (eo_some h2) eo_none hS
  rw [cut_to hp] at el1
  rw [cut_from hq] at el2
  refine el_cat (el_cat el1 (el_lst (ea_1 hv) (by show 1 ≤ 100000; decide)) ?_) el2 ?_
  · rw [List.length_take]
    show _ + 1 ≤ _
    omega
  · rw [List.length_append, List.length_take, List.length_drop]
    show _ + 1 + _ ≤ _
    omega
end
end Hm
namespace Hm
open PySem PySem.Spec PyProof.Rows L2 Evl
/-! ### several except clauses, each with a name -/
abbrev Cl := Value × Nat × (Addr → Value → Option Addr → TS)
def wManyAs (K : PySem.W.Frag) (Wout : WX) (D : Ends) : List Cl → WX
  | [] => Wout
  | (c, i, ts) :: r => fun cls d σ H => ∃ b, PySem.W.exmOne K cls c = some b ∧
    (b = true → ∀ a, H a = none → ts a cls d { nx := fun σ' H' => D.nx (σ'.set i none) H', rt := D.rt, bk := fun σ' H' => D.bk (σ'.set i none) H', ct := fun σ' H' => D.ct (σ'.set i none) H' } (σ.set i (some (.ref a))) H) ∧ (b = false → wManyAs K Wout D r cls d σ H)
inductive HdsAs (X : Cx) : List ExceptHandler → List Cl → Prop
  | nil : HdsAs X [] []
  | cons {x n : Str} {c : Value} {i : Nat} {ts : Addr → Value → Option Addr → TS} {b₀ : Stmt} {suite : List Stmt} {np pos' : Pos} {hds : List ExceptHandler} {l : List Cl} (hi : X.N[i]? = some n) (hln : X.env.kindOf n = some .local) (hc : Names X x c)
      (hsu : ∀ (a : Addr) (oe : Obj) (cls : Value) (d : Option Addr) (pn : List (Addr × Obj)), Zc cls d oe → (∃ vs, oe.data = .fields vs) → PSs (X.suite a ((a, oe) :: pn)) (b₀ :: suite) (ts a cls d)) (r : HdsAs X hds l) :
      HdsAs X (.ExceptHandler (some (.Name x np)) (some n) (b₀ :: suite) pos' :: hds) ((c, i, ts) :: l)
section
variable {X : Cx} {body : List Stmt} {h₀ : ExceptHandler} {hds : List ExceptHandler} {l : List Cl} {pos : Pos} {tb : WX → TS} {Wout : WX}
theorem ps_try_manyAs (hs : X.stack = X.env :: X.outer) (hf : X.env.frame = some X.env.locals) (hN : X.N.Nodup) (tk : Takes X Wout)
    (hb : ∀ (W : WX) (pn : List (Addr × Obj)) (xe : Value → Shared → Prop), Takes (X.tr pn xe) W → PassesOwn (model X.prog X.w) X.A X.env xe → PSs (X.tr pn xe) body (tb W))
    (hh : HdsAs X (h₀ :: hds) l) : PS X (.Try body (h₀ :: hds) [] [] pos) (fun D σ H => tb (wManyAs X.K Wout D l) D σ H) := by
  refine ⟨fun pins s σ H D I h => ?_⟩
  have ok := I.ok
  have hfr : X.A.frames = some (X.env :: X.outer) := by rw [ok.frames, hs]
  refine wpAny_Try_except ?_
  refine wpAny_mono ((hb (wManyAs X.K Wout D l) (X.pn ++ pins) (fun e s₁ => wpAny (model X.prog X.w) X.A (noteFrame e X.env) (fun _ s₂ => wpAny (model X.prog X.w) X.A (setFlight e none) (fun _ s₃ =>
    wpAny (model X.prog X.w) X.A (handleBy e X.env (h₀ :: hds)) (SP X pins D) X.xe s₃) X.xe s₂) X.xe s₁) (fun u s' xx => ?_) PassesOwn.looking).run [] s σ H D (I.toTry _) h) (fun f s1 hsp => ?_) (fun e s1 he => he)
  · -- the catch
    obtain ⟨a, B, sI, pins', σ', H', cls, d, rfl, J', nb, up, sky, na, os, ag, w⟩ := xx
    have J : Inv X pins σ' H' sI := J'.ofTry ok
    have sky' : Sky B (X.env :: X.outer) a (Zc cls d) X.env.locals s'.heap := by rw [← hs]; exact sky
    show wpAny (model X.prog X.w) X.A (noteFrame (.ref a) X.env) _ _ _
    refine Sky.land Zc.steady hfr hf sky' fun h3 fl3 up3 => ?_
    have J3 : Inv X pins σ' H' { s' with heap := h3 } := J.landed nb fl3.1 (up.trans up3) os ag
    obtain ⟨oe3, vs3, he3, hz3, hd3⟩ := fl3.there
    have notFr : ∀ {h : Heap} {o : Obj} {vs : Array Value}, h.FunFrames B (X.env :: X.outer) → h.get? a = some o → o.data = .fields vs → a ∉ frs (X.env :: X.outer) := fun {h o vs} ff e dd hm => by
      obtain ⟨_, o', e', hnf⟩ := ff.mem hm
      rw [e] at e'; cases e'
      exact hnf _ dd
    have nfr := notFr fl3.2.2.1 he3 hd3
    have nL : a ≠ X.env.locals := fun z => nfr (List.mem_filterMap.mpr ⟨X.env, List.mem_cons_self, by rw [hf, z]⟩)
    have nF : a ∉ X.fs := fun hm => by
      obtain ⟨e, he, q⟩ := List.mem_filterMap.mp hm
      exact nfr (List.mem_filterMap.mpr ⟨e, List.mem_cons_of_mem _ he, q⟩)
    have S3 := J3.suite he3 hd3 na nL nF
    have go : ∀ {hds' : List ExceptHandler} {l' : List Cl}, HdsAs X hds' l' → wManyAs X.K Wout D l' cls d σ' H' →
        wpAny (model X.prog X.w) X.A (handleBy (.ref a) X.env hds') (SP X pins D) X.xe { s' with heap := h3 } := by
      intro hds' l' hk
      induction hk with
      | nil =>
        intro w
        refine wpAny_handleBy_nil ?_
        obtain ⟨k1, k2, k3, oe, vs, T, oT, ts', he, hz, hd, h1, hr⟩ := id fl3
        unfold PySem.passOn
        refine wpAny_bind (wpAny_field he hd h1 ?_)
        rw [if_neg (show ¬ ((Value.ref T == Value.none) = true) from by simp)]
        have fin : wpAny (model X.prog X.w) X.A (setFlight (.ref a) X.env.frame) (fun _ s4 => wpAny (model X.prog X.w) X.A (throw (.ref a) : Sem Flow) (SP X pins D) X.xe s4) X.xe { s' with heap := h3 } := by
          rw [hf]
          refine HandSPX.setFlight_upZ fl3 fun h4 hh4 up4 => wpAny_throw (tk _ _ ?_)
          exact ⟨a, B, sI, pins, σ', H', cls, d, rfl, J, nb, (up.trans up3).trans up4, .inr (.inr (by rw [hs]; exact hh4)), na, os, ag, w⟩
        first
          | exact wpAny_bind (wpAny_pure (wpAny_bind fin))
          | exact wpAny_bind fin
      | @cons x n c i ts b₀ suite np pos' hds2 l2 hi hln hc hsu r ih =>
        intro w
        obtain ⟨b, hb1, hyes, hno⟩ := w
        have hloc : Loc X.env.scope n := .inl hln
        refine wpAny_handleBy_cons (codeAny_handlers_test ?_) (by intro q; cases q)
        have LT : PySem.W.Looks (model X.prog X.w) h3 (typeOf (.ref a)) cls := fun A Q E s k q => wpAny_typeOf_ref (k _ _ he3) (by rw [hz3.1]; exact q)
        have LM := PySem.W.exm_one (M := model X.prog X.w) (J3.kIn) LT hb1
        have test : ∀ {Q : Value → Shared → Prop} {E : Value → Shared → Prop}, Q c { s' with heap := h3 } → wpAny (model X.prog X.w) (X.A.mark (some (.ref a))) (eval (.Name x np) X.env) Q E { s' with heap := h3 } := fun {Q E} q => by
          obtain ⟨hg, hdbg, hm | ⟨hm, hv, hnn⟩⟩ := hc
          · exact ld_glob (X := X.suite a ((a, oe3) :: (X.pn ++ pins))) S3 hg hm q hdbg
          · exact ld_blt (X := X.suite a ((a, oe3) :: (X.pn ++ pins))) S3 hg hm hv q hnn hdbg
        refine test (LM.here ?_)
        cases b with
        | true =>
          refine codeAny_handlers_suite_as ?_
          refine HandSPX.lands_againZ fl3 fun h4 fl4 up4 => ?_
          have J4 : Inv X pins σ' H' { s' with heap := h4 } := J.landed nb fl4.1 ((up.trans up3).trans up4) os ag
          obtain ⟨oe4, vs4, he4, hz4, hd4⟩ := fl4.there
          have S4 := J4.suite he4 hd4 na nL nF
          refine store_ok (X := X.suite a ((a, oe4) :: (X.pn ++ pins))) (v := .ref a) S4 hN hi hloc rfl (fun s5 S5 => ?_) (.inr hln)
          refine wpAny_mono ((hsu a oe4 cls d (X.pn ++ pins) hz4 ⟨_, hd4⟩).run [] s5 _ H' _ S5 (hyes rfl a na)) (fun f s6 hsp => ?_) (fun _ _ z => False.elim z)
          have end_ : ∀ {σ6 : L2.St} {H6 : Hp} {Q : Shared → Prop}, Inv (X.suite a ((a, oe4) :: (X.pn ++ pins))) [] σ6 H6 s6 → (∀ s7, Inv X pins (σ6.set i none) H6 s7 → Q s7) →
              wpAny (model X.prog X.w) X.A (do bindName X.env n .none; unbindBehindTheSuite X.env n pos') (fun _ s7 => Q s7) X.xe s6 := fun {σ6 H6 Q} S6 hq => gone_ok (S6.unsuite ok) hN hi hln hq
          cases f with
          | next =>
            obtain ⟨σ6, H6, S6, q6⟩ := hsp
            exact end_ S6 fun s7 J7 => ⟨_, _, J7, q6⟩
          | brk =>
            obtain ⟨σ6, H6, S6, q6⟩ := hsp
            exact end_ S6 fun s7 J7 => ⟨_, _, J7, q6⟩
          | cont =>
            obtain ⟨σ6, H6, S6, q6⟩ := hsp
            exact end_ S6 fun s7 J7 => ⟨_, _, J7, q6⟩
          | ret u =>
            obtain ⟨v6, σ6, H6, S6, r6, q6⟩ := hsp
            exact end_ S6 fun s7 J7 => ⟨_, _, _, J7, r6, q6⟩
        | false =>
          show wpAny _ X.A (handleBy (.ref a) X.env hds2) _ _ _
          exact ih (hno rfl)
    exact go hh w
  · cases f with
    | next =>
      obtain ⟨σ', H', J', q⟩ := hsp
      exact wpAny_execs_nil ⟨σ', H', J'.ofTry ok, q⟩
    | brk =>
      obtain ⟨σ', H', J', q⟩ := hsp
      exact ⟨σ', H', J'.ofTry ok, q⟩
    | cont =>
      obtain ⟨σ', H', J', q⟩ := hsp
      exact ⟨σ', H', J'.ofTry ok, q⟩
    | ret u =>
      obtain ⟨v, σ', H', J', r, q⟩ := hsp
      exact ⟨v, σ', H', J'.ofTry ok, r, q⟩
end
def tTryM (K : PySem.W.Frag) (l : List Cl) (tb : WX → TS) : TS := fun D σ H => tb (wManyAs K (fun _ _ _ _ => False) D l) D σ H
theorem ps_tryM {X : Cx} {body : List Stmt} {h₀ : ExceptHandler} {hds : List ExceptHandler} {l : List Cl} {pos : Pos} {tb : WX → TS} (hs : X.stack = X.env :: X.outer) (hf : X.env.frame = some X.env.locals) (hN : X.N.Nodup)
    (hb : ∀ (W : WX) (pn : List (Addr × Obj)) (xe : Value → Shared → Prop), Takes (X.tr pn xe) W → PassesOwn (model X.prog X.w) X.A X.env xe → PSs (X.tr pn xe) body (tb W))
    (hh : HdsAs X (h₀ :: hds) l) : PS X (.Try body (h₀ :: hds) [] [] pos) (tTryM X.K l tb) := ps_try_manyAs hs hf hN takes0 hb hh
/-! ### an own error with attributes: raised, asked -/
def tRzO (C : Addr) (sp : Sp) (ta : TA) (E : XK) : TS := fun _ σ H => tMkO C sp [] ta σ H E
theorem zc_ref {C : Addr} {cls : Value} {d : Option Addr} {oe : Obj} (hz : Zc cls d oe) (hq : cls = .ref C) : Zc (.ref C) d oe := by
  subst hq
  exact hz
/-- isinstance(e, c), e the exception that the suite holds, with a dict -/
def rIsX (K : PySem.W.Frag) (D a : Addr) (d : Option Addr) : List V → Hp → VK → Prop := fun xs H Q => ∃ (c : V) (cv : Value) (b : Bool) (dd : Addr) (fs : List (Str × V)), xs = [.ref a, c] ∧ d = some dd ∧ H dd = some (.xd fs) ∧ (∀ u, RelV c u → u = cv) ∧ PySem.W.kitOne K (.ref D) cv = some b ∧ Q (.bl b) H
theorem call_isX {X : Cx} {a D : Addr} {d : Option Addr} {oe : Obj} {pn : List (Addr × Obj)} (C : ExcC X.K D) (hz : Zc (.ref D) d oe) (hf : ∃ vs, oe.data = .fields vs) : CallR (X.suite a ((a, oe) :: pn)) (.builtin "isinstance") (rIsX X.K D a d) := by
  intro pins s σ H xs us Q I r h
  obtain ⟨c, cv, b, dd, fs, rfl, ed, hxd, hcv, e, q⟩ := h
  cases r with
  | cons rx rr =>
    cases rr with
    | cons rt rr =>
      cases rr
      cases rx
      have ec := hcv _ rt
      subst ec
      subst ed
      obtain ⟨hget, _⟩ := I.pin (a, oe) (List.mem_append.mpr (.inl List.mem_cons_self))
      obtain ⟨vs, hv⟩ := hf
      have hx : ObjOk X.prog X.w H s.heap dd (.xd fs) := I.hok dd _ hxd
      obtain ⟨mA, ⟨od, es, ep, ho, _⟩, hr⟩ := hx
      have J : PySem.W.InstAt s.heap a oe D (some od) := ⟨hget, hz.1, by unfold PySem.W.notCls; rw [hv] <;> rfl, by rw [hz.2]; exact ho⟩
      exact PySem.W.kia_one (PySem.HmPX.kitx_errD C.hg C.hk C.hs C.hd C.ha C.hn C.ht C.hm) I.kIn J e (fun z => nomatch z) fun tk => ⟨.bl b, H, I.kept (t' := tk) fun _ _ z => z, rfl, q⟩
theorem ExcC.xf {K : PySem.W.Frag} {D : Addr} (C : ExcC K D) : XfC K D := ⟨C.hg, C.hk, C.hs, C.hd⟩
theorem rc_isX {K : PySem.W.Frag} {D a dd : Addr} {d : Option Addr} {H : Hp} {fs : List (Str × V)} {c : V} {cv : Value} {b : Bool} (e : d = some dd) (hx : H dd = some (.xd fs)) (h1 : ∀ u, RelV c u → u = cv) (h2 : PySem.W.kitOne K (.ref D) cv = some b) : RC (rIsX K D a d) [.ref a, c] H (.bl b) :=
  fun H1 ex Q q => ⟨c, cv, b, dd, fs, rfl, e, ex _ _ hx, h1, h2, q H1 (Ex.refl H1)⟩
theorem ev_xf {a dd C : Addr} {cls : Value} {d : Option Addr} {f : Str} {te : TE} {σ : L2.St} {H : Hp} {fs : List (Str × V)} {v : V} (h : Ev te σ H (.ref a)) (hc : cls = .ref C) (e : d = some dd) (hx : H dd = some (.xd fs)) (l : fs.lookup f = some v) : Ev (tXf a cls d C f te) σ H v :=
  fun H1 e1 Q q => h H1 e1 _ fun H2 e2 => ⟨rfl, hc, dd, fs, v, e, e2 _ _ (e1 _ _ hx), l, q H2 e2⟩
end Hm
namespace Hm
open PySem PySem.Spec PyProof.Rows L2 Evl
/-! ### an error's making -/
/-- at x an error with a dict that is not among those of H0 -/
def ErrN (H0 H : Hp) (x C : Addr) (fs : List (Str × V)) : Prop := ∃ d, H0 d = none ∧ d ≠ x ∧ H x = some (exo x C (some d)) ∧ H d = some (exd d fs)
theorem ErrN.at {H0 H : Hp} {x C : Addr} {fs : List (Str × V)} (h : ErrN H0 H x C fs) : ErrAt H x C fs := by
  obtain ⟨d, _, _, a, b⟩ := h
  exact .inr ⟨d, a, b⟩
section
variable {K : PySem.W.Frag} {σ : L2.St} {H H0 : Hp} {x C : Addr} {f : Str} {ta tv : TE} {y : V} {D : Ends} {fs : List (Str × V)} {tz : TS}
theorem fresh_exo {H H' : Hp} {x d : Addr} (e : ExO x H H') (hd : H' d = none) (n : d ≠ x) : H d = none := by
  cases w : H d with
  | none => rfl
  | some o =>
    rw [e d o n w] at hd
    cases hd
theorem s_ost1 (T : OexC K C) (hno : NoAttr K C f) (s0 : σ[0]? = some (some (.ref x))) (e0 : ExO x H0 H) (hx : H x = some (exo x C none)) (hv : Ev tv σ H y) (k : ∀ H', ExO x H0 H' → ErrN H0 H' x C [(f, y)] → Ex H H' ∨ True → D.nx σ H') : tOst K f (tVar 0) tv D σ H :=
  hv H (Ex.refl H) _ fun H1 e1 => ⟨.ref x, s0, x, C, rfl, T, hno, .inl ⟨e1 _ _ hx, fun dx hd hn => by
    have e2 : ExO x H0 H1 := e0.trans (ExO.of e1)
    refine k _ (fun a o n h => ?_) ⟨dx, fresh_exo e2 hd hn, hn, upd_same, by rw [upd_ne hn, upd_same]⟩ (.inr trivial)
    have h1 := e2 a o n h
    rw [upd_ne n, upd_ne (ne_of_none h1 hd)]
    exact h1⟩⟩
theorem s_ost2 (T : OexC K C) (hno : NoAttr K C f) (hl : fs.length ≤ 900) (s0 : σ[0]? = some (some (.ref x))) (e0 : ExO x H0 H) (hx : ErrN H0 H x C fs) (hv : Ev tv σ H y) (k : ∀ H', ExO x H0 H' → ErrN H0 H' x C ((f, y) :: fs) → D.nx σ H') : tOst K f (tVar 0) tv D σ H :=
  hv H (Ex.refl H) _ fun H1 e1 => ⟨.ref x, s0, x, C, rfl, T, hno, .inr (by
    obtain ⟨d, hd0, hdx, a, b⟩ := hx
    have e2 : ExO x H0 H1 := e0.trans (ExO.of e1)
    refine ⟨d, fs, e1 _ _ a, e1 _ _ b, hl, k _ (fun c o n h => ?_) ⟨d, hd0, hdx, by rw [upd_ne hdx.symm]; exact e1 _ _ a, upd_same⟩⟩
    rw [upd_ne (ne_of_none h hd0)]
    exact e2 c o n h)⟩
theorem s_ost2L {xs : List V} (T : OexC K C) (hno : NoAttr K C f) (hl : fs.length ≤ 900) (s0 : σ[0]? = some (some (.ref x))) (e0 : ExO x H0 H) (hx : ErrN H0 H x C fs) (hv : EvL tv σ H xs)
    (k : ∀ p H', H0 p = none → p ≠ x → H' p = some (.lst xs) → ExO x H0 H' → ErrN H0 H' x C ((f, .ref p) :: fs) → D.nx σ H') : tOst K f (tVar 0) tv D σ H :=
  hv H (Ex.refl H) _ fun p H1 hp e1 h1 => ⟨.ref x, s0, x, C, rfl, T, hno, .inr (by
    obtain ⟨d, hd0, hdx, a, b⟩ := hx
    have e2 : ExO x H0 H1 := e0.trans (ExO.of e1)
    have hpx : p ≠ x := (ne_of_none a hp).symm
    have hpd : p ≠ d := (ne_of_none b hp).symm
    refine ⟨d, fs, e1 _ _ a, e1 _ _ b, hl, k p _ (fresh_exo e0 hp hpx) hpx (by rw [upd_ne hpd]; exact h1) (fun c o n h => ?_) ⟨d, hd0, hdx, by rw [upd_ne hdx.symm]; exact e1 _ _ a, upd_same⟩⟩
    rw [upd_ne (ne_of_none h hd0)]
    exact e2 c o n h)⟩
/-- the text that is handed to the base class -/
theorem sup_arg {ts : List TE} {P : Hp → Prop} (h : FsL σ H ts) (hl : ts.length ≤ 10) (hx : H x = some (exo x C none)) (k : ∀ H1, Ex H H1 → P H1) : tCons (tFs ts) tNil σ H (fun ws H1 => ws.length ≤ 1000 ∧ H1 x = some (exo x C none) ∧ P H1) := by
  obtain ⟨out, h⟩ := fs_ev h hl
  exact ea_1 h H (Ex.refl H) _ fun H1 e1 => ⟨by show 1 ≤ 1000; decide, e1 _ _ hx, k H1 e1⟩
end
abbrev okI (i : Int) : Prop := i.natAbs.log2 < 1900
abbrev okS (y : Str) : Prop := y.length ≤ 2000
theorem fI {σ : L2.St} {H : Hp} {n : Nat} {i : Int} {ts : List TE} (h : σ[n]? = some (some (.int i))) (hi : okI i) (r : FsL σ H ts) : FsL σ H (tFmt (tVar n) :: ts) := .cons (ev_fmtI (ev_var h) hi) (int_len hi) r
theorem fS {σ : L2.St} {H : Hp} {n : Nat} {y : Str} {ts : List TE} (h : σ[n]? = some (some (.str y))) (hi : okS y) (r : FsL σ H ts) : FsL σ H (tFmt (tVar n) :: ts) := .cons (ev_fmtS (ev_var h) hi) hi r
theorem fC {σ : L2.St} {H : Hp} {y : Str} {ts : List TE} (hi : okS y) (r : FsL σ H ts) : FsL σ H (tC (.str y) :: ts) := .cons ev_c hi r
/-- of an own error's __init__: the text, then the rest -/
abbrev GoE (C : Addr) (nm : List Str) (aI : TA) (tI : TS) (vs : List V) (H : Hp) (Q : VK) : Prop := ∃ x : Addr, vs[0]? = some (.ref x) ∧ H x = some (exo x C none) ∧
  aI (NdefX.startF nm vs [none]) H fun ws H1 => ws.length ≤ 1000 ∧ H1 x = some (exo x C none) ∧ tI { nx := fun _ H' => Q .non H', rt := Q } (NdefX.startF nm vs [none]) H1

/-- one attribute, a number; with a new dict -/
def spNI (C : Str) (f : Str) : PySem.W.Frag → Sp := fun K vs H Q _ => ∃ (x : Addr) (i : Int), vs = [.ref x, .int i] ∧ H x = some (exo x (He.ga K C) none) ∧ okI i ∧ ∀ H', ExO x H H' → ErrN H H' x (He.ga K C) [(f, .int i)] → Q .non H'
theorem rz_I {K : PySem.W.Frag} {C f : Str} {te : TE} {E : XK} {D : Ends} {σ : L2.St} {H : Hp} {i : Int} (h : Ev te σ H (.int i)) (hi : okI i) (k : ∀ H' d, Ex H H' → H d = none → H' d = some (.xd [(f, .int i)]) → E (.ref (He.ga K C)) (some d) H') : tRzO (He.ga K C) (spNI C f K) (tCons te tNil) E D σ H :=
  (ea_1 h : EvA (tCons te tNil) σ H [.int i]) H (Ex.refl H) (fun vs H1 => vs.length ≤ 1000 ∧ ∀ a, H1 a = none → spNI C f K (.ref a :: (vs ++ [])) (upd H1 a (exo a (He.ga K C) none)) (fun v H2 => v = .non ∧ ∃ (d : Addr) (fs : List (Str × V)), H2 a = some (exo a (He.ga K C) (some d)) ∧ H2 d = some (exd d fs) ∧ H1 d = none ∧ E (.ref (He.ga K C)) (some d) (upd (del H2 a) d (.xd fs))) (fun _ _ _ => False)) fun H1 e1 => ⟨by show 1 ≤ 1000; decide, fun a ha => ⟨a, i, rfl, upd_same, hi, fun H' x er => ⟨rfl, by
    obtain ⟨d, hd0, hda, q1, q2⟩ := er
    rw [upd_ne hda] at hd0
    refine ⟨d, _, q1, q2, hd0, k _ d (fun b o hb => ?_) (fresh_back e1 hd0) upd_same⟩
    have h1 := e1 _ _ hb
    have hba : b ≠ a := ne_of_none h1 ha
    rw [upd_ne (ne_of_none h1 hd0), del_ne hba]
    exact x b o hba (by rw [upd_ne hba]; exact h1)⟩⟩⟩
end Hm
namespace Hm
open PySem PySem.Spec PyProof.Rows L2 Evl
section
variable {K : PySem.W.Frag} {σ : L2.St} {H : Hp} {ta tb te : TE} {D : Ends} {tz : TS}
/-- a new list of new lists -/
def EvLL (te : TE) (σ : L2.St) (H : Hp) (xss : List (List Nat)) : Prop := ∀ H1, Ex H H1 → ∀ Q : VK, (∀ p H2, H1 p = none → Ex H1 H2 → LLn H1 H2 p xss → Q (.ref p) H2) → te σ H1 Q
def SpLL (sp : Sp) (vs : List V) (H : Hp) (xss : List (List Nat)) : Prop := ∀ H1, Ex H H1 → ∀ Q : VK, (∀ p H2, H1 p = none → Ex H1 H2 → LLn H1 H2 p xss → Q (.ref p) H2) → ∀ E : XK, sp vs H1 Q E
theorem ell_call {sp : Sp} {vs : List V} {E : XK} {ta : TA} {xss : List (List Nat)} (h : EvA ta σ H vs) (hs : SpLL sp vs H xss) : EvLL (tCall sp [] E ta) σ H xss := fun H1 e Q q =>
  h H1 e _ fun H2 e2 => by
    show sp (vs ++ []) H2 _ E
    rw [List.append_nil]
    exact hs H2 (e.trans e2) Q (fun p H3 hp e3 h3 => q p H3 (fresh_back e2 hp) (e2.trans e3) (h3.of e2)) E
theorem ell_meth {a C dx : Addr} {fs : List (Str × V)} {m : Str} {sp : Sp} {ta : TE} {tb : TA} {vs : List V} {xss : List (List Nat)} {E : XK} (h : Ev ta σ H (.ref a)) (ho : H a = some (.ins C dx fs)) (hl : fs.lookup m = none) (ha : EvA tb σ H vs) (hs : SpLL sp (.ref a :: vs) H xss) : EvLL (tMeth C m sp [] E ta tb) σ H xss := fun H1 e Q q =>
  h H1 e _ fun H2 e2 => ⟨a, dx, fs, rfl, e2 _ _ (e _ _ ho), hl, ha H2 (e.trans e2) _ fun H3 e3 => by
    have e4 := (e.trans e2).trans e3
    have q2 := hs H3 e4 Q (fun p H4 hp e5 h5 => q p H4 (fresh_back (e2.trans e3) hp) ((e2.trans e3).trans e5) (h5.of (e2.trans e3))) E
    simpa using q2⟩
theorem ev_eqLL {a : Addr} {xss yss : List (List Nat)} (ha : Ev ta σ H (.ref a)) (h : LL H a xss) (hb : EvLL tb σ H yss) : Ev (tOp (rEqD K) ta tb) σ H (.bl (decide (xss = yss))) := fun H1 e Q q =>
  ha H1 e _ fun H2 e2 => hb H2 (e.trans e2) _ fun p H3 hp e3 h3 => rv_eqNN (h.ex ((e.trans e2).trans e3)) h3.ll H3 (Ex.refl H3) Q fun H4 e4 => q H4 ((e2.trans e3).trans e4)
theorem ev_neLL {a : Addr} {xss yss : List (List Nat)} (ha : Ev ta σ H (.ref a)) (h : LL H a xss) (hb : EvLL tb σ H yss) : Ev (tOp (rNeD K) ta tb) σ H (.bl (!decide (xss = yss))) := fun H1 e Q q =>
  ha H1 e _ fun H2 e2 => hb H2 (e.trans e2) _ fun p H3 hp e3 h3 => rv_neNN (h.ex ((e.trans e2).trans e3)) h3.ll H3 (Ex.refl H3) Q fun H4 e4 => q H4 ((e2.trans e3).trans e4)
theorem q_asgLL {i : Nat} {xss : List (List Nat)} (h : EvLL te σ H xss) (k : ∀ p H1, H p = none → Ex H H1 → LLn H H1 p xss → tz D (σ.set i (some (.ref p))) H1) : tSeq (tAsg te (gName i)) tz D σ H := h H (Ex.refl H) _ fun p H1 hp e h1 => k p H1 hp e h1
theorem spll_Lrounds {a : Addr} {ns : List Nat} {b : Bool} (hS : SqL K H a (L ns)) (hM : MP ns) : SpLL (sp_Lrounds K) [.ref a, .bl b] H (cyc ns b) := fun H1 e Q q E => ⟨a, ns, b, rfl, ex_l e hS, hM.p, hM.two, hM.len, fun p H' hp ex h => q p H' hp ex h⟩
theorem spll_faces {x : Addr} {ns : List Nat} (m : MeshAt K H x ns) (hM : MP ns) : SpLL (sp_Meshfaces K) [.ref x] H (cyc ns true) := fun H1 e Q q E => ⟨x, ns, rfl, m.ex e, hM, fun p H' hp ex h => q p H' hp ex h⟩
theorem spll_corners {x : Addr} {ns : List Nat} (m : MeshAt K H x ns) (hM : MP ns) : SpLL (sp_Meshcorners K) [.ref x] H (cyc ns false) := fun H1 e Q q E => ⟨x, ns, rfl, m.ex e, hM, fun p H' hp ex h => q p H' hp ex h⟩
theorem noM {m : Str} (l1 l2 l3 : Addr) (h : (decide (m = "_nexts") || decide (m = "_prevs") || decide (m = "_turns")) = false) : (mfs l1 l2 l3).lookup m = none := by
  simp only [Bool.or_eq_false_iff, decide_eq_false_iff_not] at h
  exact mfs_no _ _ _ h.1.1 h.1.2 h.2
/-- a method of a mesh that gives a value, a new list, a new list of lists -/
theorem ev_mm {x : Addr} {ns : List Nat} {m : Str} {sp : Sp} {tb : TA} {vs : List V} {v : V} {E : XK} (mm : MeshAt K H x ns) (h : Ev ta σ H (.ref x)) (hm : (decide (m = "_nexts") || decide (m = "_prevs") || decide (m = "_turns")) = false) (ha : EvA tb σ H vs) (hs : SpV sp (.ref x :: vs) H v) : Ev (tMeth (He.ga K "Mesh") m sp [] E ta tb) σ H v := by
  obtain ⟨dx, l1, l2, l3, a, _⟩ := mm
  exact ev_meth h a (noM _ _ _ hm) ha hs
theorem el_mm {x : Addr} {ns : List Nat} {m : Str} {sp : Sp} {tb : TA} {vs xs : List V} {E : XK} (mm : MeshAt K H x ns) (h : Ev ta σ H (.ref x)) (hm : (decide (m = "_nexts") || decide (m = "_prevs") || decide (m = "_turns")) = false) (ha : EvA tb σ H vs) (hs : SpL sp (.ref x :: vs) H xs) : EvL (tMeth (He.ga K "Mesh") m sp [] E ta tb) σ H xs := by
  obtain ⟨dx, l1, l2, l3, a, _⟩ := mm
  exact el_meth h a (noM _ _ _ hm) ha hs
theorem ell_mm {x : Addr} {ns : List Nat} {m : Str} {sp : Sp} {tb : TA} {vs : List V} {xss : List (List Nat)} {E : XK} (mm : MeshAt K H x ns) (h : Ev ta σ H (.ref x)) (hm : (decide (m = "_nexts") || decide (m = "_prevs") || decide (m = "_turns")) = false) (ha : EvA tb σ H vs) (hs : SpLL sp (.ref x :: vs) H xss) : EvLL (tMeth (He.ga K "Mesh") m sp [] E ta tb) σ H xss := by
  obtain ⟨dx, l1, l2, l3, a, _⟩ := mm
  exact ell_meth h a (noM _ _ _ hm) ha hs
theorem q_call2 {sp1 sp2 : Sp} {E1 E2 : XK} {tc tr : TA} {vs1 : List V} {i : Nat} (h : EvA tc σ H vs1) (k : ∀ H1, Ex H H1 → sp2 vs1 H1 (fun v H2 => tr σ H2 fun ws H3 => sp1 (v :: ws) H3 (fun v' H4 => tz D (σ.set i (some v')) H4) E1) E2) :
    tSeq (tAsg (tCall sp1 [] E1 (tCons (tCall sp2 [] E2 tc) tr)) (gName i)) tz D σ H :=
  h H (Ex.refl H) _ fun H1 e1 => by
    have q := k H1 e1
    rw [← List.append_nil vs1] at q
    have e : (fun v H2 => tr σ H2 fun ws H3 => sp1 (v :: ws) H3 (fun v' H4 => tz D (σ.set i (some v')) H4) E1) = (fun v H2 => tr σ H2 fun ws H3 => sp1 ((v :: ws) ++ []) H3 (fun v' H4 => tz D (σ.set i (some v')) H4) E1) := by
      funext v H2
      congr 1
      funext ws H3
      rw [List.append_nil]
    rw [e] at q
    exact q
/-- i = _law_nexts(_law_tape(script, k), edges) -/
theorem q_nexts {i j : Nat} {a : Addr} {zs : List Int} {k : Int} {e : Nat} {E1 E2 : XK} (hs : σ[0]? = some (some (.ref a))) (hS : SqL K H a (zs.map V.int)) (k0 : 0 ≤ k) (k1 : k ≤ 100) (he : σ[j]? = some (some (.int (e : Int)))) (h60 : e ≤ 60)
    (kk : ∀ p ns H1, H p = none → Ex H H1 → H1 p = some (.lst (L ns)) → IsP ns → ns.length = 2 * e → tz D (σ.set i (some (.ref p))) H1) :
    tSeq (tAsg (tCall (sp_Lnexts K) [] E1 (tCons (tCall (sp_Ltape K) [] E2 (tCons (tVar 0) (tCons (tC (.int k)) tNil))) (tCons (tVar j) tNil))) (gName i)) tz D σ H := by
  refine q_call2 (ea_2 (ev_var hs) ev_c) fun H1 e1 => ?_
  refine ⟨a, zs, k, rfl, ex_l e1 hS, k0, k1, fun t H2 ht tp e2 => ⟨_, he, ?_⟩⟩
  refine ⟨t, e, rfl, tp, h60, fun p H' ns hp h1 h2 h3 _ x2 => ?_⟩
  have ht0 := fresh_back e1 ht
  have ex : Ex H H' := fun b o hb => x2 b o (ne_of_none hb ht0) (e2 b o (e1 b o hb))
  exact kk p ns H' (fresh_back (e1.trans e2) hp) ex h1 h2 h3
/-- [x for x in xs] -/
theorem el_copy {a : Addr} {ns : List Nat} {j : Nat} (h : Ev ta σ H (.ref a)) (hS : SqL K H a (L ns)) (hz : ns.length ≤ 1000) (hw : ∀ x, wipe ((wipe σ [j]).set j (some x)) [j] = wipe σ [j]) (hj : ∀ x, ((wipe σ [j]).set j (some x))[j]? = some (some x)) : EvL (tLc (iList K ta) (gName j) tYes (tVar j) [j]) σ H (L ns) := by
  have := el_lcL (K := K) (σ := σ) (H := H) (j := j) (vs := [j]) (tl := ta) (t := tYes) (te := tVar j) (fun _ => true) (fun i => vi (fn ns i)) h hS (by rw [L_len]; omega) hw (fun i x H1 _ _ => et_yes) (fun i x H1 _ hx _ => by
    obtain ⟨q1, rfl⟩ := L_item hx
    exact ev_var (hj _))
  rw [given_all] at this
  have e : (List.range (L ns).length).map (fun i => vi (fn ns i)) = L ns := by
    refine List.ext_getElem? fun j => ?_
    rw [L_len]
    by_cases hj : j < ns.length
    · rw [List.getElem?_map, List.getElem?_range hj, L_get hj]
      rfl
    · rw [List.getElem?_eq_none (by rw [List.length_map, List.length_range]; omega), List.getElem?_eq_none (by rw [L_len]; omega)]
  rw [e] at this
  exact this
theorem rc_isL {p : Addr} {xs : List V} (h : H p = some (.lst xs)) : RC (rIsi K) [.ref p, .ty "list"] H (.bl true) :=
  rc_isi (.ty "list") (fun H1 e => .base (.lst (e _ _ h))) (kit_ty (by decide +kernel))
end
end Hm
namespace Hm
open PySem PySem.Spec PyProof.Rows L2 Evl
/-- all but the tape is kept -/
theorem MeshN.exo {K : PySem.W.Frag} {H0 H H' : Hp} {x t : Addr} {ns : List Nat} {u : HO} (h : MeshN K H0 H x ns) (e : ExO t H H') (ht : H0 t = some u) (hx : H0 x = none) : MeshN K H0 H' x ns := by
  obtain ⟨dx, l1, l2, l3, a, b, c, d, f, g, i⟩ := h
  exact ⟨dx, l1, l2, l3, e _ _ (ne_of_none ht hx).symm a, e _ _ (ne_of_none ht f).symm b, e _ _ (ne_of_none ht g).symm c, e _ _ (ne_of_none ht i).symm d, f, g, i⟩
section
variable {K : PySem.W.Frag} {σ : L2.St} {H : Hp} {ta tb te : TE} {D : Ends} {tz : TS} {E : XK}
/-- Mesh(l) -/
theorem mk_mesh {a : Addr} {ns : List Nat} {Q : VK} (h : Ev te σ H (.ref a)) (hS : SqL K H a (L ns)) (hM : MP ns) (k : ∀ x H1, H x = none → MeshN K H H1 x ns → Ex H H1 → Q (.ref x) H1) :
    tMake (He.ga K "Mesh") (sp_Meshinit K) [] E (tCons te tNil) σ H Q :=
  h H (Ex.refl H) _ fun H1 e1 => fun x dx hx hdx hne => by
    have hx0 := fresh_back e1 hx
    have ex : Ex H1 (upd (upd H1 dx (.own x)) x (.ins (He.ga K "Mesh") dx [])) := fun b o q => by
      rw [upd_ne (ne_of_none q hx), upd_ne (ne_of_none q hdx)]
      exact q
    refine ⟨x, dx, a, L ns, rfl, upd_same, ex_l (e1.trans ex) hS, by rw [L_len]; exact hM.len, ib_L ns, fun ms hms _ H2 m x2 => ⟨rfl, ?_⟩, fun hn => absurd (good_L hM) hn⟩
    obtain rfl := L_inj hms
    exact k x H2 hx0 (m.back (e1.trans ex)) fun b o q => x2 b o (ne_of_none q hx0) (ex b o (e1 b o q))
/-- Mesh(.. a new list ..) -/
theorem mk_meshN {ns : List Nat} {Q : VK} (h : EvL te σ H (L ns)) (hM : MP ns) (k : ∀ x H1, H x = none → MeshN K H H1 x ns → Ex H H1 → Q (.ref x) H1) :
    tMake (He.ga K "Mesh") (sp_Meshinit K) [] E (tCons te tNil) σ H Q :=
  h H (Ex.refl H) _ fun a H1 ha e1 h1 => fun x dx hx hdx hne => by
    have hx0 := fresh_back e1 hx
    have ex : Ex H1 (upd (upd H1 dx (.own x)) x (.ins (He.ga K "Mesh") dx [])) := fun b o q => by
      rw [upd_ne (ne_of_none q hx), upd_ne (ne_of_none q hdx)]
      exact q
    refine ⟨x, dx, a, L ns, rfl, upd_same, sq_of (ex _ _ h1), by rw [L_len]; exact hM.len, ib_L ns, fun ms hms _ H2 m x2 => ⟨rfl, ?_⟩, fun hn => absurd (good_L hM) hn⟩
    obtain rfl := L_inj hms
    exact k x H2 hx0 (m.back (e1.trans ex)) fun b o q => x2 b o (ne_of_none q hx0) (ex b o (e1 b o q))
theorem q_meshN {i : Nat} {ns : List Nat} (h : EvL te σ H (L ns)) (hM : MP ns) (k : ∀ x H1, H x = none → MeshN K H H1 x ns → Ex H H1 → tz D (σ.set i (some (.ref x))) H1) :
    tSeq (tAsg (tMake (He.ga K "Mesh") (sp_Meshinit K) [] E (tCons te tNil)) (gName i)) tz D σ H := mk_meshN (Q := fun v H1 => tz D (σ.set i (some v)) H1) h hM k
theorem ev_opMesh {r : R2} {x v : V} {a : Addr} {ns : List Nat} (ha : Ev ta σ H x) (h : Ev te σ H (.ref a)) (hS : SqL K H a (L ns)) (hM : MP ns) (hr : ∀ z H1, Ex H H1 → MeshAt K H1 z ns → RV r x (.ref z) H1 v) :
    Ev (tOp r ta (tMake (He.ga K "Mesh") (sp_Meshinit K) [] E (tCons te tNil))) σ H v := fun H1 e1 Q q =>
  ha H1 e1 _ fun H2 e2 => mk_mesh (h.mono (e1.trans e2)) (ex_l (e1.trans e2) hS) hM fun z H3 _ m e3 => hr z H3 ((e1.trans e2).trans e3) m.at H3 (Ex.refl H3) Q fun H4 e4 => q H4 ((e2.trans e3).trans e4)
/-- if f(..) == c: .. -/
theorem s_ifEqC {sp : Sp} {tp : TA} {vs : List V} {c : Int} {tu tw : TS} (h : EvA tp σ H vs) (k : ∀ H1, Ex H H1 → sp vs H1 (fun v H2 => scal v (.int c) = true ∧ (if decide (v = .int c) = true then tu D σ H2 else tw D σ H2)) E) :
    tIfS (tTest (tOp rEq (tCall sp [] E tp) (tC (.int c)))) tu tw D σ H :=
  h H (Ex.refl H) _ fun H1 e => by
    have q := k H1 e
    rw [← List.append_nil vs] at q
    have e2 : (fun v H2 => scal v (.int c) = true ∧ (if decide (v = .int c) = true then tu D σ H2 else tw D σ H2)) = (fun v H2 => rEq v (.int c) H2 (fun z H3 => ∃ b, z = .bl b ∧ (if b = true then tu D σ H3 else tw D σ H3))) := by
      funext v H2
      apply propext
      constructor
      · rintro ⟨h1, h2⟩
        exact ⟨h1, _, rfl, h2⟩
      · rintro ⟨h1, b, hb, h2⟩
        cases hb
        exact ⟨h1, h2⟩
    rw [e2] at q
    exact q
theorem q_modAdd {A B : TE} {tp : TA} {sp : Sp} {a : Int} {i : Nat} {vs : List V} (hA : Ev A σ H (.int a)) (hp : EvA tp σ H vs)
    (k : ∀ H1, Ex H H1 → sp vs H1 (fun v H2 => zAdd (.int a) v H2 (fun z H3 => cInt [z] H3 (fun w H4 => B σ H4 (fun mm H5 => zMod w mm H5 (fun u H6 => tz D (σ.set i (some u)) H6))))) E) :
    tSeq (tAsg (tOp zMod (tCB cInt (tCons (tOp zAdd A (tCall sp [] E tp)) tNil)) B) (gName i)) tz D σ H :=
  hA H (Ex.refl H) _ fun H1 e1 => hp H1 e1 _ fun H2 e2 => by
    have q := k H2 (e1.trans e2)
    rw [← List.append_nil vs] at q
    exact q
end
theorem L_set (ns : List Nat) (i a : Nat) : (L ns).set i (vi a) = L (ns.set i a) := by unfold L; rw [List.map_set]
/-- two entries exchanged -/
theorem isP_swap {ns : List Nat} (h : IsP ns) {i j : Nat} (hi : i < ns.length) (hj : j < ns.length) : IsP ((ns.set i (fn ns j)).set j (fn ns i)) := by
  have e : (ns.set i (fn ns j)).set j (fn ns i) = (List.range ns.length).map (fun x => fn ns (if x = j then i else if x = i then j else x)) := by
    refine List.ext_getElem? fun x => ?_
    by_cases hx : x < ns.length
    · rw [List.getElem?_map, List.getElem?_range hx]
      by_cases h1 : x = j
      · subst h1
        rw [List.getElem?_set_self (by rw [List.length_set]; exact hx)]
        simp
      · rw [List.getElem?_set_ne (Ne.symm h1)]
        by_cases h2 : x = i
        · subst h2
          rw [List.getElem?_set_self hx]
          simp [h1]
        · rw [List.getElem?_set_ne (Ne.symm h2), fn_get hx]
          simp [h1, h2]
    · rw [List.getElem?_eq_none (by rw [List.length_set, List.length_set]; omega), List.getElem?_eq_none (by rw [List.length_map, List.length_range]; omega)]
  rw [e]
  refine isP_of ⟨fun x hx => (pf_fn h).lt _ (by split <;> first | omega | (split <;> omega)), fun x y hx hy q => ?_⟩
  have := (pf_fn h).inj _ _ (by split <;> first | omega | (split <;> omega)) (by split <;> first | omega | (split <;> omega)) q
  split at this <;> split at this <;> (try split at this) <;> (try split at this) <;> omega
theorem isP_two {ns : List Nat} (h : IsP ns) : IsP (ns ++ [ns.length, ns.length + 1]) where
  perm := by
    rw [List.length_append]
    show (ns ++ [ns.length, ns.length + 1]).Perm (List.range (ns.length + 2))
    rw [List.range_succ, List.range_succ, List.append_assoc]
    exact List.Perm.append_right _ h.perm
end Hm
namespace Hm
open PySem PySem.Spec PyProof.Rows L2 Evl
theorem blkOk_n {N : List Str} {own : List (Str × Nat)} {scope1 scope2 sc : Scope} {cl : List (Str × Addr)} {C L f : Addr} {qual : Str} {cdv : Value} (h : blkC N (relabel scope1 (envOfC "" sc 0 0 .none)) scope2 own = true) : BlkOk N (compEnvC scope1 cl C (envOfC qual sc L f cdv)).scope scope2 own := by
  have e : (compEnvC scope1 cl C (envOfC qual sc L f cdv)).scope = relabel scope1 (envOfC "" sc 0 0 .none) := rfl
  rw [e]
  exact blkOk_by h
end Hm
namespace Hm
open PySem PySem.Spec PyProof.Rows L2 Evl
section
variable {K : PySem.W.Frag} {σ : L2.St} {H : Hp} {ta tb te : TE} {D : Ends} {tz : TS} {v : V}
/-- f(..).append(e), on a new list -/
theorem s_appN {xs : List V} (ha : EvL ta σ H xs) (h : ∀ H1, Ex H H1 → Ev te σ H1 v) (hz : xs.length < 100000) (k : ∀ p H1, H p = none → Ex H H1 → D.nx σ (upd H1 p (.lst (xs ++ [v])))) :
    tDrop (tBM K "list" rAppend ta (tCons te tNil)) D σ H := ha H (Ex.refl H) _ fun p H1 hp e1 h1 =>
  ⟨Or.inl ⟨rfl, xs, sq_of h1⟩, h H1 e1 H1 (Ex.refl H1) _ fun H2 e2 => ⟨p, xs, v, rfl, rfl, e2 _ _ h1, sz_lt hz, k p H2 hp (e1.trans e2)⟩⟩
/-- f(..) as a statement -/
theorem q_dropC {sp : Sp} {E : XK} {ta : TA} {vs : List V} (h : EvA ta σ H vs) (k : ∀ H1, Ex H H1 → sp vs H1 (fun _ H2 => tz D σ H2) E) : tSeq (tDrop (tCall sp [] E ta)) tz D σ H :=
  h H (Ex.refl H) _ fun H1 e => by
    show sp (vs ++ []) H1 _ E
    rw [List.append_nil]
    exact k H1 e
end
theorem LA.items {H : Hp} {as : List Addr} {xss : List (List Nat)} (h : LA H as xss) : ∀ a ∈ as, ∃ xs ∈ xss, H a = some (.lst (L xs)) := by
  induction h with
  | nil => intro a ha; cases ha
  | cons r t ih =>
    intro a ha
    rcases List.mem_cons.mp ha with rfl | ha
    · exact ⟨_, List.mem_cons_self .., r⟩
    · obtain ⟨xs, m, q⟩ := ih a ha
      exact ⟨xs, List.mem_cons_of_mem _ m, q⟩
theorem cyc_item {ns : List Nat} (hM : MP ns) {b : Bool} {xs : List Nat} (h : xs ∈ cyc ns b) : xs.length ≤ 1000 := by
  obtain ⟨x, hx, rfl⟩ := List.mem_map.mp h
  have hx := List.mem_range.mp (List.mem_filter.mp hx).1
  rw [rnd_length]
  have := (per_spec (pf_stp hM.p hM.two b) hx).2.1
  have := hM.len
  omega
theorem cyc_len {ns : List Nat} (hM : MP ns) (b : Bool) : (cyc ns b).length ≤ 1000 := by
  have := cycs_len (stp ns b) ns.length ns.length
  have := hM.len
  unfold cyc
  omega
end Hm
namespace K33
open PySem PySem.Spec PyProof.Rows L2 Evl TL Hm
/-! ### the facts; a Step's defaults and keywords -/
abbrev dfl_Step (K : PySem.W.Frag) : List V := [.ref (He.dflAt ("Step", some "__init__") 0 K), .str "half", .ref (He.dflAt ("Step", some "__init__") 2 K), .non]
def g_Step_news_kind_uses_detail {α : Type} (us _ds ws : List α) : List α := us ++ ws
def g_Step_news {α : Type} (us ds ws : List α) : List α := us ++ (ws ++ ds.drop 1)
def g_Step_uses {α : Type} (us ds ws : List α) : List α := us ++ (ds.take 2 ++ (ws ++ ds.drop 3))
def g_Step_news_kind {α : Type} (us ds ws : List α) : List α := us ++ (ws ++ ds.drop 2)
section
variable {vs ds zs : List V} {us its ws : List Value}
theorem gr_Step_news_kind_uses_detail (a : Vals vs us) (_b : Vals ds its) (c : Vals zs ws) : Vals (g_Step_news_kind_uses_detail vs ds zs) (g_Step_news_kind_uses_detail us its ws) := vals_app a c
theorem gr_Step_news (a : Vals vs us) (b : Vals ds its) (c : Vals zs ws) : Vals (g_Step_news vs ds zs) (g_Step_news us its ws) := vals_app a (vals_app c (Hm.vals_drop b))
theorem gr_Step_uses (a : Vals vs us) (b : Vals ds its) (c : Vals zs ws) : Vals (g_Step_uses vs ds zs) (g_Step_uses us its ws) := vals_app a (vals_app (Hm.vals_take b) (vals_app c (Hm.vals_drop b)))
theorem gr_Step_news_kind (a : Vals vs us) (b : Vals ds its) (c : Vals zs ws) : Vals (g_Step_news_kind vs ds zs) (g_Step_news_kind us its ws) := vals_app a (vals_app c (Hm.vals_drop b))
end
abbrev stv (l : List String) : List V := l.map fun x => V.str (Str.ofString x)
structure KN (K : PySem.W.Frag) : Prop where
  cP : Cls K (He.ga K "Path")
  nP1 : NoAttr K (He.ga K "Path") "name"
  nP2 : NoAttr K (He.ga K "Path") "links"
  nP3 : NoAttr K (He.ga K "Path") "kind"
  cS : Cls K (He.ga K "Step")
  nS1 : NoAttr K (He.ga K "Step") "action"
  nS2 : NoAttr K (He.ga K "Step") "news"
  nS3 : NoAttr K (He.ga K "Step") "kind"
  nS4 : NoAttr K (He.ga K "Step") "uses"
  nS5 : NoAttr K (He.ga K "Step") "used"
  nS6 : NoAttr K (He.ga K "Step") "detail"
  cR : Cls K (He.ga K "Routine")
  nR1 : NoAttr K (He.ga K "Routine") "name"
  nR2 : NoAttr K (He.ga K "Routine") "halves"
  nR3 : NoAttr K (He.ga K "Routine") "told"
  nR4 : NoAttr K (He.ga K "Routine") "lines"
  nR5 : NoAttr K (He.ga K "Routine") "steps"
  nR6 : NoAttr K (He.ga K "Routine") "jumps"
  cC : Cls K (He.ga K "Scope")
  nC1 : NoAttr K (He.ga K "Scope") "kinds"
  cD : Cls K (He.ga K "Draft")
  nD1 : NoAttr K (He.ga K "Draft") "scope"
  nD2 : NoAttr K (He.ga K "Draft") "steps"
  nD3 : NoAttr K (He.ga K "Draft") "jumps"
  nD4 : NoAttr K (He.ga K "Draft") "blocks"
  nD5 : NoAttr K (He.ga K "Draft") "has_labels"
  tHV : ∀ H, SqT K H (He.ga K "HALVES") [.str "half"]
  tLB : ∀ H, SqT K H (He.ga K "LABELS") [.str "face", .str "corner"]
  tAK : ∀ H, SqT K H (He.ga K "ALL_KINDS") [.str "half", .str "face", .str "corner"]
  tLK : ∀ H, SqT K H (He.ga K "LINKS") [.str "next", .str "prev", .str "twin"]
  tAL : ∀ H, SqT K H (He.ga K "AHEAD_OF_LABELS") [.str "let", .str "make", .str "link"]
  tLA : ∀ H, SqT K H (He.ga K "LABEL_ACTIONS") [.str "new", .str "label", .str "round", .str "some"]
  tRS : ∀ H, SqT K H (He.ga K "RESERVED") (stv ["routine", "script", "given", "let", "make", "drop", "if", "else", "end", "new", "round", "tell", "call", "next", "prev", "twin", "face", "corner", "some"])
  fl : PySem.W.nsIn K (He.ga K "FORMS") "let" = some (some (.ref (He.ga K "_read_let")))
  fm : PySem.W.nsIn K (He.ga K "FORMS") "make" = some (some (.ref (He.ga K "_read_make")))
  fd : PySem.W.nsIn K (He.ga K "FORMS") "drop" = some (some (.ref (He.ga K "_read_drop")))
  fn : PySem.W.nsIn K (He.ga K "FORMS") "new" = some (some (.ref (He.ga K "_read_new")))
  d0 : ∀ H, SqT K H (He.dflAt ("Step", some "__init__") 0 K) []
  d2 : ∀ H, SqT K H (He.dflAt ("Step", some "__init__") 2 K) []
  oe : OexC K (He.ga K "BadLine")
  nb : NoAttr K (He.ga K "BadLine") "line"
  f3 : PySem.W.exmOne K (.ref (He.ga K "BadLine")) (.ref (He.ga K "BadLine")) = some true
  f5 : PySem.W.kitOne K (.ref (He.ga K "BadLine")) (.ref (He.ga K "MeshError")) = some true
  f6 : PySem.W.kitOne K (.ref (He.ga K "BadLine")) (.type "ValueError") = some true
end K33
namespace Hm
open PySem PySem.Spec PyProof.Rows L2 Evl TL
/-! ### over the signs of a text -/
section
variable {σ : L2.St} {H : Hp} {te tl : TE} {t : TT}
theorem el_lcS {x : Str} {j : Nat} {vs : List Nat} (f : Nat → Bool) (v : Nat → V) (h : Ev tl σ H (.str x)) (hz : x.cps.size ≤ 40000) (hw : ∀ y, wipe ((wipe σ vs).set j (some y)) vs = wipe σ vs)
    (ht : ∀ (i c : Nat) H1, Ex H H1 → x.cps[i]? = some c → EvT t ((wipe σ vs).set j (some (.str ⟨#[c]⟩))) H1 (f i)) (he : ∀ (i c : Nat) H1, Ex H H1 → x.cps[i]? = some c → f i = true → Ev te ((wipe σ vs).set j (some (.str ⟨#[c]⟩))) H1 (v i)) :
    EvL (tLc (iStr tl) (gName j) t te vs) σ H (given x.cps.size f v) := fun H0 e Q q => h H0 e _ fun H1 e1 => ⟨x, rfl, fun Dl hD => by
  refine ⟨fun i m H' => m = x.cps.size - i ∧ i ≤ x.cps.size ∧ Cw H1 f v Dl i H', ⟨x.cps.size, by simp, Nat.zero_le _, hD, Ex.new hD, upd_same⟩, ?_⟩
  rintro i m H' ⟨rfl, hi, p⟩
  by_cases hlt : i < x.cps.size
  · refine .inr ⟨hlt, Cw H1 f v Dl (i + 1), fun H2 p2 => ⟨x.cps.size - (i + 1), by omega, rfl, hlt, p2⟩, ?_⟩
    rintro y H2 ⟨rfl, c, hc, rfl⟩
    exact ⟨hw _, cw_turn p (by omega) (ht i c H1 (e.trans e1) hc) (fun hf => he i c H1 (e.trans e1) hc hf)⟩
  · have ei : i = x.cps.size := by omega
    exact .inl ⟨Nat.le_of_not_lt hlt, q Dl H' (fresh_back e1 p.1) (e1.trans p.2.1) (by rw [← ei]; exact p.2.2)⟩⟩
end
theorem map_cps {α : Type} (x : Str) (g : Nat → α) : (List.range x.cps.size).map (fun i => g (x.cps.getD i 0)) = (tl x).map g := by
  refine List.ext_getElem? fun j => ?_
  rw [List.getElem?_map, List.getElem?_map]
  have e : (TL.tl x)[j]? = x.cps[j]? := by
    show x.cps.toList[j]? = _
    simp
  rw [e]
  by_cases hj : j < x.cps.size
  · rw [List.getElem?_range hj, Array.getElem?_eq_getElem hj]
    show some (g (x.cps.getD j 0)) = some _
    rw [Array.getD_eq_getD_getElem?, Array.getElem?_eq_getElem hj] <;> rfl
  · have h1 : x.cps[j]? = none := Array.getElem?_eq_none (by omega)
    have h2 : (List.range x.cps.size)[j]? = none := List.getElem?_eq_none (by rw [List.length_range]; omega)
    rw [h1, h2] <;> rfl
theorem cps_at {x : Str} {i c : Nat} (h : x.cps[i]? = some c) : x.cps.getD i 0 = c := by
  rw [Array.getD_eq_getD_getElem?, h] <;> rfl
/-- is the sign c one of those in z -/
def isIn (z : Str) (c : Nat) : Bool := !(Builtin.Str.occurrences z (⟨#[c]⟩ : Str) 0 z.length 1).isEmpty
section
variable {K : PySem.W.Frag} {σ : L2.St} {H : Hp} {tl : TE}
theorem rv_inS {i j : Str} : RV rInStr (.str i) (.str j) H (.bl (!(Builtin.Str.occurrences j i 0 j.length 1).isEmpty)) := fun H1 _ Q q => ⟨i, j, rfl, rfl, q H1 (Ex.refl H1)⟩
theorem rv_ninS {i j : Str} : RV rNotInStr (.str i) (.str j) H (.bl (!(!(Builtin.Str.occurrences j i 0 j.length 1).isEmpty))) := fun H1 _ Q q => ⟨i, j, rfl, rfl, q H1 (Ex.refl H1)⟩
/-- all([s in z for s in x]) -/
theorem ev_allS {x z : Str} {j : Nat} {vs : List Nat} (h : Ev tl σ H (.str x)) (hz : x.cps.size ≤ 40000) (hw : ∀ y, wipe ((wipe σ vs).set j (some y)) vs = wipe σ vs) (hj : ∀ y, ((wipe σ vs).set j (some y))[j]? = some (some y)) :
    Ev (tCB (rAll K) (tCons (tLc (iStr tl) (gName j) tYes (tOp rInStr (tVar j) (tC (.str z))) vs) tNil)) σ H (.bl ((TL.tl x).all (isIn z))) := by
  have h1 := el_lcS (t := tYes) (te := tOp rInStr (tVar j) (tC (.str z))) (fun _ => true) (fun i => V.bl (isIn z (x.cps.getD i 0))) h hz hw (fun _ _ _ _ _ => et_yes) (fun i c H1 _ hc _ => by
    rw [cps_at hc]
    exact ev_op (ev_var (hj _)) ev_c rv_inS)
  rw [given_all] at h1
  have e : (List.range x.cps.size).map (fun i => V.bl (isIn z (x.cps.getD i 0))) = ((TL.tl x).map (isIn z)).map V.bl := by
    rw [List.map_map]
    exact map_cps x fun c => V.bl (isIn z c)
  rw [e] at h1
  have := ev_cbN (r := rAll K) (z := .bl (((TL.tl x).map (isIn z)).all id)) h1 fun p H2 hp _ => rc_all (sq_of hp)
  rw [List.all_map] at this
  exact this
end
end Hm
namespace K33
open PySem PySem.Spec PyProof.Rows L2 Evl TL Hm
abbrev SG : Str := "abcdefghijklmnopqrstuvwxyz0123456789"
abbrev DG : Str := "0123456789"
abbrev res : List Str := ["routine", "script", "given", "let", "make", "drop", "if", "else", "end", "new", "round", "tell", "call", "next", "prev", "twin", "face", "corner", "some"]
theorem stv_res : stv ["routine", "script", "given", "let", "make", "drop", "if", "else", "end", "new", "round", "tell", "call", "next", "prev", "twin", "face", "corner", "some"] = res.map V.str := rfl
def isW (t : Str) : Bool := (decide ((1 : Int) ≤ (t.length : Int)) && decide ((t.length : Int) ≤ 8)) && (tl t).all (isIn SG)
def isNm (t : Str) : Bool := isW t && (!(isIn DG ((tl t).headD 0)) && !(inV (.str t) (res.map V.str)))
theorem isW_len {t : Str} (h : isW t = true) : 1 ≤ t.length ∧ t.length ≤ 8 := by
  unfold isW at h
  rw [Bool.and_eq_true, Bool.and_eq_true] at h
  have h1 := of_decide_eq_true h.1.1
  have h2 := of_decide_eq_true h.1.2
  exact ⟨by omega, by omega⟩
def sp_isword (K : PySem.W.Frag) : Sp := fun vs H Q _ => ∃ t : Str, vs = [.str t] ∧ t.length ≤ 1000 ∧ RetV (.bl (isW t)) H Q
abbrev nm_isword : List Str := ["text", "sign"]
abbrev pr_isword : List Str := ["text"]
def t_isword (K : PySem.W.Frag) : TS :=
  (tRet (tAndV (tChain zLe zLe (tC (.int 1)) (tCB cLenS (tCons (tVar 0) tNil)) (tC (.int 8))) (tCB (rAll K) (tCons (tLc (iStr (tVar 0)) (gName 1) tYes (tOp rInStr (tVar 1) (tC (.str "abcdefghijklmnopqrstuvwxyz0123456789"))) [1]) tNil))))
abbrev Wt_isword (K : PySem.W.Frag) (vs : List V) (H : Hp) (Q : VK) : Prop := t_isword K { nx := fun _ H' => Q .non H', rt := Q } (start nm_isword vs) H
theorem ln_isword {K : PySem.W.Frag} (vs : List V) (H : Hp) (Q : VK) (E : XK) (h : sp_isword K vs H Q E) : vs.length = pr_isword.length := by
  obtain ⟨_, rfl, _⟩ := h
  rfl
theorem spv_isword {K : PySem.W.Frag} {t : Str} {H : Hp} (h : t.length ≤ 1000) : SpV (sp_isword K) [.str t] H (.bl (isW t)) := fun H1 e Q q E => ⟨t, rfl, h, fun H2 e2 => q H2 e2⟩
theorem rd_isword {K : PySem.W.Frag} (F : KN K) (vs : List V) (H : Hp) (Q : VK) (E : XK) (h : sp_isword K vs H Q E) : Wt_isword K vs H Q := by
  obtain ⟨t, rfl, ht, k⟩ := h
  unfold Wt_isword t_isword
  refine s_ret (v := .bl (isW t)) ?_ k
  refine ev_andV (ev_chain (a := decide ((1 : Int) ≤ (t.length : Int))) (b := decide ((t.length : Int) ≤ 8)) ev_c (ev_cb (ea_1 (ev_var rfl)) (rc_lenS (a := t) (by omega))) rv_I0 (fun _ => ev_c) fun _ => rv_I0) fun _ => ?_
  exact ev_allS (ev_var rfl) (by have : t.cps.size = t.length := rfl
                                 omega) (fun _ => rfl) fun _ => rfl
def sp_isname (K : PySem.W.Frag) : Sp := fun vs H Q _ => ∃ t : Str, vs = [.str t] ∧ t.length ≤ 1000 ∧ RetV (.bl (isNm t)) H Q
abbrev nm_isname : List Str := ["text"]
abbrev pr_isname : List Str := ["text"]
def t_isname (K : PySem.W.Frag) : TS :=
  (tRet (tAndV (tCall (sp_isword K) [] E0 (tCons (tVar 0) tNil)) (tAndV (tOp rNotInStr (tOp rIxS (tVar 0) (tC (.int 0))) (tC (.str "0123456789"))) (tOp (rIn K true) (tVar 0) (tC (.ref (He.ga K "RESERVED")))))))
abbrev Wt_isname (K : PySem.W.Frag) (vs : List V) (H : Hp) (Q : VK) : Prop := t_isname K { nx := fun _ H' => Q .non H', rt := Q } (start nm_isname vs) H
theorem ln_isname {K : PySem.W.Frag} (vs : List V) (H : Hp) (Q : VK) (E : XK) (h : sp_isname K vs H Q E) : vs.length = pr_isname.length := by
  obtain ⟨_, rfl, _⟩ := h
  rfl
theorem spv_isname {K : PySem.W.Frag} {t : Str} {H : Hp} (h : t.length ≤ 1000) : SpV (sp_isname K) [.str t] H (.bl (isNm t)) := fun H1 e Q q E => ⟨t, rfl, h, fun H2 e2 => q H2 e2⟩
theorem head_at {t : Str} (h : 1 ≤ t.length) : atI t.cps.toList 0 = some ((tl t).headD 0) := by
  have e : t.length = (tl t).length := len_tl t
  show atI (tl t) 0 = _
  cases q : tl t with
  | nil =>
    rw [q] at e
    have : ([] : List Nat).length = 0 := rfl
    omega
  | cons c r => exact atI_nat (xs := c :: r) (j := 0) (v := c) rfl
theorem rd_isname {K : PySem.W.Frag} (F : KN K) (vs : List V) (H : Hp) (Q : VK) (E : XK) (h : sp_isname K vs H Q E) : Wt_isname K vs H Q := by
  obtain ⟨t, rfl, ht, k⟩ := h
  unfold Wt_isname t_isname
  refine s_ret (v := .bl (isNm t)) ?_ k
  refine ev_andV (ev_call (ea_1 (ev_var rfl)) (spv_isword ht)) fun hw => ?_
  have hl := isW_len hw
  refine ev_andV (ev_op (ev_op (ev_var rfl) ev_c (rv_ixS (by omega) (head_at hl.1))) ev_c rv_ninS) fun _ => ?_
  exact ev_op (ev_var rfl) ev_c (rv_niT (stv_res ▸ F.tRS _) rfl rfl)
/-! ### own objects -/
def pfs (n : Str) (l : Addr) (k : Str) : List (Str × V) := [("name", .str n), ("links", .ref l), ("kind", .str k)]
def sfs (a : Str) (nw : Addr) (k : Str) (us q : Addr) (d : V) : List (Str × V) := [("action", .str a), ("news", .ref nw), ("kind", .str k), ("uses", .ref us), ("used", .ref q), ("detail", d)]
theorem pfs_put (n : Str) (l : Addr) (k : Str) : putF "kind" (.str k) (putF "links" (.ref l) (putF "name" (.str n) [])) = pfs n l k := by kernel_rfl
theorem sfs_put (a : Str) (nw : Addr) (k : Str) (us q : Addr) (d : V) : putF "detail" d (putF "used" (.ref q) (putF "uses" (.ref us) (putF "kind" (.str k) (putF "news" (.ref nw) (putF "action" (.str a) []))))) = sfs a nw k us q d := by kernel_rfl
section
variable {a : Str} {nw : Addr} {k : Str} {us q : Addr} {d : V} {n : Str} {l : Addr}
theorem sfs_a : (sfs a nw k us q d).lookup ("action" : Str) = some (.str a) := by kernel_rfl
theorem sfs_n : (sfs a nw k us q d).lookup ("news" : Str) = some (.ref nw) := by kernel_rfl
theorem sfs_k : (sfs a nw k us q d).lookup ("kind" : Str) = some (.str k) := by kernel_rfl
theorem sfs_us : (sfs a nw k us q d).lookup ("uses" : Str) = some (.ref us) := by kernel_rfl
theorem sfs_q : (sfs a nw k us q d).lookup ("used" : Str) = some (.ref q) := by kernel_rfl
theorem pfs_n : (pfs n l k).lookup ("name" : Str) = some (.str n) := by kernel_rfl
theorem pfs_k : (pfs n l k).lookup ("kind" : Str) = some (.str k) := by kernel_rfl
end
end K33
namespace Hm
open PySem PySem.Spec PyProof.Rows L2 Evl TL
/-! ### writing an own object, field by field -/
/-- since H0 nothing but x was changed, and x is this instance -/
def Oi (H0 : Hp) (x C dx : Addr) (fs : List (Str × V)) (H : Hp) : Prop := ExO x H0 H ∧ H x = some (.ins C dx fs)
theorem Oi.ex {H0 H H' : Hp} {x C dx : Addr} {fs : List (Str × V)} (o : Oi H0 x C dx fs H) (e : Ex H H') : Oi H0 x C dx fs H' := ⟨o.1.trans (ExO.of e), e _ _ o.2⟩
theorem Oi.put {H0 H : Hp} {x C dx : Addr} {fs fs' : List (Str × V)} (o : Oi H0 x C dx fs H) : Oi H0 x C dx fs' (upd H x (.ins C dx fs')) := ⟨o.1.upd, upd_same⟩
theorem Oi.start {H : Hp} {x C dx : Addr} {fs : List (Str × V)} (h : H x = some (.ins C dx fs)) : Oi H x C dx fs H := ⟨ExO.refl, h⟩
theorem exO_t {K : PySem.W.Frag} {H H' : Hp} {x C dx p : Addr} {fs : List (Str × V)} {xs : List V} (e : ExO x H H') (hx : H x = some (.ins C dx fs)) (h : SqT K H p xs) : SqT K H' p xs := by
  rcases h with h | h
  · rcases h with h | ⟨o, h⟩
    · exact .inl (.inl (e p _ (fun q => by rw [q, hx] at h; cases h) h))
    · exact .inl (.inr ⟨o, e p _ (fun q => by rw [q, hx] at h; cases h) h⟩)
  · exact .inr h
theorem exO_l {K : PySem.W.Frag} {H H' : Hp} {x C dx p : Addr} {fs : List (Str × V)} {xs : List V} (e : ExO x H H') (hx : H x = some (.ins C dx fs)) (h : SqL K H p xs) : SqL K H' p xs := by
  rcases h with h | h
  · rcases h with h | ⟨o, h⟩
    · exact .inl (.inl (e p _ (fun q => by rw [q, hx] at h; cases h) h))
    · exact .inl (.inr ⟨o, e p _ (fun q => by rw [q, hx] at h; cases h) h⟩)
  · exact .inr h
section
variable {K : PySem.W.Frag} {σ : L2.St} {H H0 : Hp} {tv ta : TE} {y : V} {D : Ends} {tz : TS} {x C dx : Addr} {fs : List (Str × V)} {f : Str}
theorem s_o (o : Oi H0 x C dx fs H) (hv : Ev tv σ H y) (ha : Ev ta σ H (.ref x)) (hc : Cls K C) (hn : NoAttr K C f) (hl : fs.length < 1000) (k : ∀ H', Oi H0 x C dx (putF f y fs) H' → D.nx σ H') : sFld K ta tv f D σ H :=
  hv H (Ex.refl H) _ fun H1 e1 => ha H1 e1 _ fun H2 e2 => ⟨x, C, dx, fs, rfl, e2 _ _ (e1 _ _ o.2), hc, hn, hl, k _ ((o.ex (e1.trans e2)).put)⟩
/-- .. and what was changed since H, too -/
theorem s_o2 (o : Oi H0 x C dx fs H) (hv : Ev tv σ H y) (ha : Ev ta σ H (.ref x)) (hc : Cls K C) (hn : NoAttr K C f) (hl : fs.length < 1000) (k : ∀ H', Oi H0 x C dx (putF f y fs) H' → ExO x H H' → D.nx σ H') : sFld K ta tv f D σ H :=
  hv H (Ex.refl H) _ fun H1 e1 => ha H1 e1 _ fun H2 e2 => ⟨x, C, dx, fs, rfl, e2 _ _ (e1 _ _ o.2), hc, hn, hl, k _ ((o.ex (e1.trans e2)).put) ((ExO.of (e1.trans e2)).upd)⟩
theorem q_o (o : Oi H0 x C dx fs H) (hv : Ev tv σ H y) (ha : Ev ta σ H (.ref x)) (hc : Cls K C) (hn : NoAttr K C f) (hl : fs.length < 1000) (k : ∀ H', Oi H0 x C dx (putF f y fs) H' → tz D σ H') : tSeq (sFld K ta tv f) tz D σ H := s_o (D := { D with nx := tz D }) o hv ha hc hn hl k
/-- a new tuple -/
theorem s_oU {xs : List V} (o : Oi H0 x C dx fs H) (hv : EvU tv σ H xs) (ha : Ev ta σ H (.ref x)) (hc : Cls K C) (hn : NoAttr K C f) (hl : fs.length < 1000) (k : ∀ p H', H0 p = none → p ≠ x → Oi H0 x C dx (putF f (.ref p) fs) H' → H' p = some (.tup xs) → D.nx σ H') : sFld K ta tv f D σ H :=
  hv H (Ex.refl H) _ fun p H1 hp e1 h1 => ha H1 e1 _ fun H2 e2 => ⟨x, C, dx, fs, rfl, e2 _ _ (e1 _ _ o.2), hc, hn, hl, by
    have n : p ≠ x := (ne_of_none o.2 hp).symm
    exact k p _ (fresh_exo o.1 hp n) n ((o.ex (e1.trans e2)).put) (by rw [upd_ne n]; exact e2 _ _ h1)⟩
theorem q_oU {xs : List V} (o : Oi H0 x C dx fs H) (hv : EvU tv σ H xs) (ha : Ev ta σ H (.ref x)) (hc : Cls K C) (hn : NoAttr K C f) (hl : fs.length < 1000) (k : ∀ p H', H0 p = none → p ≠ x → Oi H0 x C dx (putF f (.ref p) fs) H' → H' p = some (.tup xs) → tz D σ H') : tSeq (sFld K ta tv f) tz D σ H := s_oU (D := { D with nx := tz D }) o hv ha hc hn hl k
theorem s_oL {xs : List V} (o : Oi H0 x C dx fs H) (hv : EvL tv σ H xs) (ha : Ev ta σ H (.ref x)) (hc : Cls K C) (hn : NoAttr K C f) (hl : fs.length < 1000) (k : ∀ p H', H0 p = none → p ≠ x → Oi H0 x C dx (putF f (.ref p) fs) H' → H' p = some (.lst xs) → D.nx σ H') : sFld K ta tv f D σ H :=
  hv H (Ex.refl H) _ fun p H1 hp e1 h1 => ha H1 e1 _ fun H2 e2 => ⟨x, C, dx, fs, rfl, e2 _ _ (e1 _ _ o.2), hc, hn, hl, by
    have n : p ≠ x := (ne_of_none o.2 hp).symm
    exact k p _ (fresh_exo o.1 hp n) n ((o.ex (e1.trans e2)).put) (by rw [upd_ne n]; exact e2 _ _ h1)⟩
theorem q_oL {xs : List V} (o : Oi H0 x C dx fs H) (hv : EvL tv σ H xs) (ha : Ev ta σ H (.ref x)) (hc : Cls K C) (hn : NoAttr K C f) (hl : fs.length < 1000) (k : ∀ p H', H0 p = none → p ≠ x → Oi H0 x C dx (putF f (.ref p) fs) H' → H' p = some (.lst xs) → tz D σ H') : tSeq (sFld K ta tv f) tz D σ H := s_oL (D := { D with nx := tz D }) o hv ha hc hn hl k
/-- tuple(xs), xs a list | a new list -/
theorem eu_tupL {p : Addr} {xs : List V} (h : Ev tv σ H (.ref p)) (hS : SqL K H p xs) : EvU (tCB (cTup K) (tCons tv tNil)) σ H xs := fun H1 e Q q =>
  h H1 e _ fun H2 e2 => ⟨p, xs, rfl, .inl ⟨ex_l (e.trans e2) hS, fun l hl => q l _ (fresh_back e2 hl) (e2.trans (Ex.new hl)) upd_same⟩⟩
theorem eu_tupN {xs : List V} (h : EvL tv σ H xs) : EvU (tCB (cTup K) (tCons tv tNil)) σ H xs := fun H1 e Q q =>
  h H1 e _ fun p H2 hp e2 h2 => ⟨p, xs, rfl, .inl ⟨sq_of h2, fun l hl => q l _ (fresh_back e2 hl) (e2.trans (Ex.new hl)) upd_same⟩⟩
/-- a comprehension over a tuple -/
theorem el_lcT {a : Addr} {xs : List V} {tl te : TE} {t : TT} {j : Nat} {vs : List Nat} (f : Nat → Bool) (v : Nat → V) (h : Ev tl σ H (.ref a)) (hx : SqT K H a xs) (hz : xs.length ≤ 40000) (hw : ∀ x, wipe ((wipe σ vs).set j (some x)) vs = wipe σ vs)
    (ht : ∀ (i : Nat) (x : V) H1, Ex H H1 → xs[i]? = some x → EvT t ((wipe σ vs).set j (some x)) H1 (f i)) (he : ∀ (i : Nat) (x : V) H1, Ex H H1 → xs[i]? = some x → f i = true → Ev te ((wipe σ vs).set j (some x)) H1 (v i)) :
    EvL (tLc (iTup K tl) (gName j) t te vs) σ H (given xs.length f v) := fun H0 e Q q => h H0 e _ fun H1 e1 => ⟨a, rfl, ⟨xs, ex_t (e.trans e1) hx⟩, fun Dl hD =>
  lc_tup (xs := xs) (Cw H1 f v Dl) ⟨hD, Ex.new hD, upd_same⟩ (fun i H' _ p => ex_t ((e.trans e1).trans p.2.1) hx) (fun i x H' hi p => ⟨hw x, cw_turn p (by have := (List.getElem?_eq_some_iff.mp hi).1; omega) (ht i x H1 (e.trans e1) hi) (fun hf => he i x H1 (e.trans e1) hi hf)⟩)
    (fun H' p => q Dl H' (fresh_back e1 p.1) (e1.trans p.2.1) p.2.2)⟩
end
end Hm
namespace K33
open PySem PySem.Spec PyProof.Rows L2 Evl TL Hm
theorem putF_l (f : Str) (v : V) : ∀ fs : List (Str × V), (putF f v fs).length ≤ fs.length + 1
  | [] => Nat.le_refl _
  | (g, x) :: r => by
    unfold putF
    split
    · show r.length + 1 ≤ r.length + 1 + 1
      omega
    · have := putF_l f v r
      show (putF f v r).length + 1 ≤ r.length + 1 + 1
      omega
section
variable {f1 f2 f3 f4 f5 f6 : Str} {v1 v2 v3 v4 v5 v6 : V}
theorem pk1 : (putF f1 v1 []).length ≤ 1 := putF_l f1 v1 []
theorem pk2 : (putF f2 v2 (putF f1 v1 [])).length ≤ 2 := Nat.le_trans (putF_l ..) (Nat.succ_le_succ pk1)
theorem pk3 : (putF f3 v3 (putF f2 v2 (putF f1 v1 []))).length ≤ 3 := Nat.le_trans (putF_l ..) (Nat.succ_le_succ pk2)
theorem pk4 : (putF f4 v4 (putF f3 v3 (putF f2 v2 (putF f1 v1 [])))).length ≤ 4 := Nat.le_trans (putF_l ..) (Nat.succ_le_succ pk3)
theorem pk5 : (putF f5 v5 (putF f4 v4 (putF f3 v3 (putF f2 v2 (putF f1 v1 []))))).length ≤ 5 := Nat.le_trans (putF_l ..) (Nat.succ_le_succ pk4)
theorem pl1 : (putF f1 v1 []).length < 1000 := Nat.lt_of_le_of_lt pk1 (by decide)
theorem pl2 : (putF f2 v2 (putF f1 v1 [])).length < 1000 := Nat.lt_of_le_of_lt pk2 (by decide)
theorem pl3 : (putF f3 v3 (putF f2 v2 (putF f1 v1 []))).length < 1000 := Nat.lt_of_le_of_lt pk3 (by decide)
theorem pl4 : (putF f4 v4 (putF f3 v3 (putF f2 v2 (putF f1 v1 [])))).length < 1000 := Nat.lt_of_le_of_lt pk4 (by decide)
theorem pl5 : (putF f5 v5 (putF f4 v4 (putF f3 v3 (putF f2 v2 (putF f1 v1 []))))).length < 1000 := Nat.lt_of_le_of_lt pk5 (by decide)
end
/-! ### a Path, a Step -/
def PathAt (K : PySem.W.Frag) (H : Hp) (p : Addr) (n k : Str) : Prop := ∃ dx l, H p = some (.ins (He.ga K "Path") dx (pfs n l k))
theorem PathAt.ex {K : PySem.W.Frag} {H H' : Hp} {p : Addr} {n k : Str} (h : PathAt K H p n k) (e : Ex H H') : PathAt K H' p n k := by
  obtain ⟨dx, l, h⟩ := h
  exact ⟨dx, l, e _ _ h⟩
def usN : Option (Str × Addr) → List Str
  | none => []
  | some (n, _) => [n]
def UsesAt (K : PySem.W.Frag) (H : Hp) (u : Addr) : Option (Str × Addr) → Prop
  | none => SqT K H u []
  | some (n, c) => ∃ r, SqT K H u [.ref r] ∧ SqT K H r [.str n, .ref c]
theorem UsesAt.ex {K : PySem.W.Frag} {H H' : Hp} {u : Addr} {o : Option (Str × Addr)} (h : UsesAt K H u o) (e : Ex H H') : UsesAt K H' u o := by
  cases o with
  | none => exact ex_t e h
  | some nc =>
    obtain ⟨r, h1, h2⟩ := h
    exact ⟨r, ex_t e h1, ex_t e h2⟩
theorem UsesAt.exO {K : PySem.W.Frag} {H H' : Hp} {u x C dx : Addr} {fs : List (Str × V)} {o : Option (Str × Addr)} (h : UsesAt K H u o) (e : ExO x H H') (hx : H x = some (.ins C dx fs)) : UsesAt K H' u o := by
  cases o with
  | none => exact exO_t e hx h
  | some nc =>
    obtain ⟨r, h1, h2⟩ := h
    exact ⟨r, exO_t e hx h1, exO_t e hx h2⟩
/-- a step: its action, its new names, their kind, the name that it uses with the kinds that it may have -/
structure Sd where
  a : Str
  nw : List Str
  k : Str
  us : Option (Str × Addr)
def StepAt (K : PySem.W.Frag) (H : Hp) (s : Addr) (d : Sd) : Prop := ∃ dx nw ua q v, H s = some (.ins (He.ga K "Step") dx (sfs d.a nw d.k ua q v)) ∧ SqT K H nw (d.nw.map V.str) ∧ UsesAt K H ua d.us ∧ SqT K H q ((usN d.us).map V.str)
theorem StepAt.ex {K : PySem.W.Frag} {H H' : Hp} {s : Addr} {d : Sd} (h : StepAt K H s d) (e : Ex H H') : StepAt K H' s d := by
  obtain ⟨dx, nw, ua, q, v, h1, h2, h3, h4⟩ := h
  exact ⟨dx, nw, ua, q, v, e _ _ h1, ex_t e h2, h3.ex e, ex_t e h4⟩
def sp_Pathinit (K : PySem.W.Frag) : Sp := fun vs H Q _ => ∃ (x dx l : Addr) (n k : Str), vs = [.ref x, .str n, .ref l, .str k] ∧ H x = some (.ins (He.ga K "Path") dx []) ∧ ∀ H', ExO x H H' → PathAt K H' x n k → Q .non H'
abbrev nm_Pathinit : List Str := ["self", "name", "links", "kind"]
abbrev pr_Pathinit : List Str := ["self", "name", "links", "kind"]
def t_Pathinit (K : PySem.W.Frag) : TS :=
  (tSeq (sFld K (tVar 0) (tVar 1) "name")
  (tSeq (sFld K (tVar 0) (tVar 2) "links")
  (sFld K (tVar 0) (tVar 3) "kind")))
abbrev Wt_Pathinit (K : PySem.W.Frag) (vs : List V) (H : Hp) (Q : VK) : Prop := t_Pathinit K { nx := fun _ H' => Q .non H', rt := Q } (start nm_Pathinit vs) H
theorem ln_Pathinit {K : PySem.W.Frag} (vs : List V) (H : Hp) (Q : VK) (E : XK) (h : sp_Pathinit K vs H Q E) : vs.length = pr_Pathinit.length := by
  obtain ⟨_, _, _, _, _, rfl, _⟩ := h
  rfl
theorem rd_Pathinit {K : PySem.W.Frag} (F : KN K) (vs : List V) (H : Hp) (Q : VK) (E : XK) (h : sp_Pathinit K vs H Q E) : Wt_Pathinit K vs H Q := by
  obtain ⟨x, dx, l, n, k, rfl, hx, q⟩ := h
  unfold Wt_Pathinit t_Pathinit
  refine q_o (Oi.start hx) (y := .str n) (ev_var rfl) (ev_var rfl) F.cP F.nP1 (by decide) fun H1 o1 => ?_
  refine q_o o1 (y := .ref l) (ev_var rfl) (ev_var rfl) F.cP F.nP2 pl1 fun H2 o2 => ?_
  refine s_o o2 (y := .str k) (ev_var rfl) (ev_var rfl) F.cP F.nP3 pl2 fun H3 o3 => ?_
  exact q H3 o3.1 ⟨dx, l, by rw [← pfs_put]; exact o3.2⟩
def sp_Stepinit (K : PySem.W.Frag) : Sp := fun vs H Q _ => ∃ (x dx nw ua : Addr) (v : V) (d : Sd), vs = [.ref x, .str d.a, .ref nw, .str d.k, .ref ua, v] ∧ H x = some (.ins (He.ga K "Step") dx []) ∧ SqT K H nw (d.nw.map V.str) ∧ UsesAt K H ua d.us ∧
  ∀ H', ExO x H H' → StepAt K H' x d → Q .non H'
abbrev nm_Stepinit : List Str := ["self", "action", "news", "kind", "uses", "detail", "use"]
abbrev pr_Stepinit : List Str := ["self", "action", "news", "kind", "uses", "detail"]
def t_Stepinit (K : PySem.W.Frag) : TS :=
  (tSeq (sFld K (tVar 0) (tVar 1) "action")
  (tSeq (sFld K (tVar 0) (tVar 2) "news")
  (tSeq (sFld K (tVar 0) (tVar 3) "kind")
  (tSeq (sFld K (tVar 0) (tVar 4) "uses")
  (tSeq (sFld K (tVar 0) (tCB (cTup K) (tCons (tLc (iTup K (tVar 4)) (gName 6) tYes (tOp (rIxT K) (tVar 6) (tC (.int 0))) [6]) tNil)) "used")
  (sFld K (tVar 0) (tVar 5) "detail"))))))
abbrev Wt_Stepinit (K : PySem.W.Frag) (vs : List V) (H : Hp) (Q : VK) : Prop := t_Stepinit K { nx := fun _ H' => Q .non H', rt := Q } (start nm_Stepinit vs) H
theorem ln_Stepinit {K : PySem.W.Frag} (vs : List V) (H : Hp) (Q : VK) (E : XK) (h : sp_Stepinit K vs H Q E) : vs.length = pr_Stepinit.length := by
  obtain ⟨_, _, _, _, _, _, rfl, _⟩ := h
  rfl
/-- [use[0] for use in uses] -/
theorem el_used {K : PySem.W.Frag} {σ : L2.St} {H : Hp} {ta : TE} {j : Nat} {vs : List Nat} {u : Addr} {o : Option (Str × Addr)} (h : Ev ta σ H (.ref u)) (hu : UsesAt K H u o) (hw : ∀ x, wipe ((wipe σ vs).set j (some x)) vs = wipe σ vs) (hj : ∀ x, ((wipe σ vs).set j (some x))[j]? = some (some x)) :
    EvL (tLc (iTup K ta) (gName j) tYes (tOp (rIxT K) (tVar j) (tC (.int 0))) vs) σ H ((usN o).map V.str) := by
  cases o with
  | none => exact el_lcT (xs := []) (t := tYes) (fun _ => true) (fun _ => .non) h hu (by decide) hw (fun _ _ _ _ q => nomatch q) fun _ _ _ _ q => nomatch q
  | some nc =>
    obtain ⟨n, c⟩ := nc
    obtain ⟨r, h1, h2⟩ := hu
    refine el_lcT (xs := [.ref r]) (t := tYes) (fun _ => true) (fun _ => V.str n) h h1 (by show 1 ≤ 40000; decide) hw (fun _ _ _ _ _ => et_yes) fun i x H1 e hi _ => ?_
    have hx : x = .ref r := by
      match i, hi with
      | 0, hi => exact (Option.some.inj hi).symm
    subst hx
    exact ev_op (ev_var (hj _)) ev_c (rv_ixT (ex_t e h2) (atI_nat (j := 0) rfl))
theorem rd_Stepinit {K : PySem.W.Frag} (F : KN K) (vs : List V) (H : Hp) (Q : VK) (E : XK) (h : sp_Stepinit K vs H Q E) : Wt_Stepinit K vs H Q := by
  obtain ⟨x, dx, nw, ua, v, d, rfl, hx, hn, hu, q⟩ := h
  unfold Wt_Stepinit t_Stepinit
  refine q_o (Oi.start hx) (y := .str d.a) (ev_var rfl) (ev_var rfl) F.cS F.nS1 (by decide) fun H1 o1 => ?_
  refine q_o o1 (y := .ref nw) (ev_var rfl) (ev_var rfl) F.cS F.nS2 pl1 fun H2 o2 => ?_
  refine q_o o2 (y := .str d.k) (ev_var rfl) (ev_var rfl) F.cS F.nS3 pl2 fun H3 o3 => ?_
  refine q_o o3 (y := .ref ua) (ev_var rfl) (ev_var rfl) F.cS F.nS4 pl3 fun H4 o4 => ?_
  refine q_oU o4 (eu_tupN (el_used (o := d.us) (ev_var rfl) (hu.exO o4.1 hx) (fun _ => rfl) fun _ => rfl)) (ev_var rfl) F.cS F.nS5 pl4 fun p H5 hp np o5 hp5 => ?_
  have w5 : ∀ H6, Oi H x (He.ga K "Step") dx (putF "detail" v (putF "used" (.ref p) (putF "uses" (.ref ua) (putF "kind" (.str d.k) (putF "news" (.ref nw) (putF "action" (.str d.a) [])))))) H6 → SqT K H6 p ((usN d.us).map V.str) → Q .non H6 := fun H6 o6 hp6 =>
    q H6 o6.1 ⟨dx, nw, ua, p, v, by rw [← sfs_put]; exact o6.2, exO_t o6.1 hx hn, hu.exO o6.1 hx, hp6⟩
  refine s_o2 o5 (y := v) (ev_var rfl) (ev_var rfl) F.cS F.nS6 pl5 fun H6 o6 e6 => w5 H6 o6 (exO_t e6 o5.2 (st_of hp5))
end K33
namespace Hm
open PySem PySem.Spec PyProof.Rows L2 Evl TL
/-! ### a, *b = ..; pop; one new tuple in a list -/
section
variable {K : PySem.W.Frag} {σ : L2.St} {H : Hp} {te tl : TE} {tz : TS} {D : Ends} {x : V} {xs : List V}
theorem q_star {i j : Nat} (h : EvL te σ H (x :: xs)) (hl : xs.length ≤ 1000) (k : ∀ l H1, H l = none → Ex H H1 → H1 l = some (.lst xs) → tz D ((σ.set i (some x)).set j (some (.ref l))) H1) :
    tSeq (tAsg te (gStar K 1 (gCons (gName i) (gCons (gName j) gNil)))) tz D σ H := h H (Ex.refl H) _ fun p H1 hp e1 h1 => ⟨p, x :: xs, rfl, sq_of h1, by show 1 ≤ xs.length + 1; omega, by show xs.length + 1 ≤ 16000; omega, fun l hl0 =>
  ⟨x, [.ref l], rfl, .ref l, [], rfl, rfl, k l _ (fresh_back e1 hl0) (e1.trans (Ex.new hl0)) upd_same⟩⟩
theorem q_starV {i j : Nat} {a : Addr} (h : Ev te σ H (.ref a)) (hS : SqL K H a (x :: xs)) (hl : xs.length ≤ 1000) (k : ∀ l H1, H l = none → Ex H H1 → H1 l = some (.lst xs) → tz D ((σ.set i (some x)).set j (some (.ref l))) H1) :
    tSeq (tAsg te (gStar K 1 (gCons (gName i) (gCons (gName j) gNil)))) tz D σ H := h H (Ex.refl H) _ fun H1 e1 => ⟨a, x :: xs, rfl, ex_l e1 hS, by show 1 ≤ xs.length + 1; omega, by show xs.length + 1 ≤ 16000; omega, fun l hl0 =>
  ⟨x, [.ref l], rfl, .ref l, [], rfl, rfl, k l _ (fresh_back e1 hl0) (e1.trans (Ex.new hl0)) upd_same⟩⟩
theorem s_pop {i : Nat} {l : Addr} {y : V} (h : Ev te σ H (.ref l)) (hl : H l = some (.lst (xs ++ [y]))) (k : ∀ H1, Ex H H1 → D.nx (σ.set i (some y)) (upd H1 l (.lst xs))) :
    tAsg (tBM0 K "list" rPop te) (gName i) D σ H := h H (Ex.refl H) _ fun H1 e1 =>
  ⟨Or.inl ⟨rfl, _, sq_of (e1 _ _ hl)⟩, l, _, y, rfl, rfl, e1 _ _ hl, by simp, by rw [List.dropLast_concat]; exact k H1 e1⟩
/-- [(..) for y in [x]] -/
theorem el_lc1U {a : Addr} {zs : List V} {j : Nat} {vs : List Nat} (h : Ev tl σ H (.ref a)) (hx : SqL K H a [x]) (hw : ∀ x, wipe ((wipe σ vs).set j (some x)) vs = wipe σ vs) (he : ∀ H1, Ex H H1 → EvU te ((wipe σ vs).set j (some x)) H1 zs) :
    ∀ H1, Ex H H1 → ∀ Q : VK, (∀ p r H2, H1 p = none → Ex H1 H2 → H2 p = some (.lst [.ref r]) → H2 r = some (.tup zs) → Q (.ref p) H2) → tLc (iList K tl) (gName j) tYes te vs σ H1 Q := fun H0 e Q q => h H0 e _ fun H1 e1 => ⟨a, rfl, ⟨[x], ex_l (e.trans e1) hx⟩, fun Dl hD =>
  lc_list (xs := [x]) (fun i H' => Ex H1 H' ∧ ((i = 0 ∧ H' Dl = some (.lst [])) ∨ (i = 1 ∧ ∃ r, H' Dl = some (.lst [.ref r]) ∧ H' r = some (.tup zs)))) ⟨Ex.new hD, .inl ⟨rfl, upd_same⟩⟩ (fun i H' _ p => ex_l ((e.trans e1).trans p.1) hx) (fun i y H' hi p => by
      obtain ⟨p1, ⟨rfl, p2⟩ | ⟨rfl, _⟩⟩ := p
      · obtain rfl : x = y := Option.some.inj hi
        refine ⟨hw x, ?_⟩
        show te ((wipe σ vs).set j (some x)) H' fun y H4 => ∃ acc, H4 Dl = some (.lst acc) ∧ acc.length < sizeLine ∧ _
        refine he H' ((e.trans e1).trans p1) H' (Ex.refl H') _ fun r H4 hr e4 h4 => ⟨[], e4 _ _ p2, sz_lt (by decide), Ex.mut (p1.trans e4) hD, .inr ⟨rfl, r, upd_same, ?_⟩⟩
        rw [upd_ne (fun w => by rw [w, p2] at hr; cases hr)]
        exact h4
      · cases hi) (fun H' p => by
      obtain ⟨p1, ⟨w, _⟩ | ⟨_, r, p2, p3⟩⟩ := p
      · cases w
      · exact q Dl r H' (fresh_back e1 hD) (e1.trans p1) p2 p3)⟩
end
end Hm
namespace K33
open PySem PySem.Spec PyProof.Rows L2 Evl TL Hm
/-! ### reading a path -/
abbrev PT : List (Str × Str × Str × Str) := [("x.next", "x", "next", "half"), ("y.next", "y", "next", "half"), ("x.corner", "x", "corner", "corner"), ("y.corner", "y", "corner", "corner")]
def sp_usedhalves (K : PySem.W.Frag) : Sp := fun vs H Q _ => ∃ (p : Addr) (n : Str), vs = [.ref p] ∧ SqL K H p [.str n] ∧ ∀ q H', H q = none → Ex H H' → UsesAt K H' q (some (n, He.ga K "HALVES")) → Q (.ref q) H'
abbrev nm_usedhalves : List Str := ["names", "name"]
abbrev pr_usedhalves : List Str := ["names"]
def t_usedhalves (K : PySem.W.Frag) : TS :=
  (tRet (tCB (cTup K) (tCons (tLc (iList K (tVar 0)) (gName 1) tYes (tTup (tCons (tVar 1) (tCons (tC (.ref (He.ga K "HALVES"))) tNil))) [1]) tNil)))
abbrev Wt_usedhalves (K : PySem.W.Frag) (vs : List V) (H : Hp) (Q : VK) : Prop := t_usedhalves K { nx := fun _ H' => Q .non H', rt := Q } (start nm_usedhalves vs) H
theorem ln_usedhalves {K : PySem.W.Frag} (vs : List V) (H : Hp) (Q : VK) (E : XK) (h : sp_usedhalves K vs H Q E) : vs.length = pr_usedhalves.length := by
  obtain ⟨_, _, rfl, _⟩ := h
  rfl
theorem rd_usedhalves {K : PySem.W.Frag} (F : KN K) (vs : List V) (H : Hp) (Q : VK) (E : XK) (h : sp_usedhalves K vs H Q E) : Wt_usedhalves K vs H Q := by
  obtain ⟨p, n, rfl, hp, q⟩ := h
  unfold Wt_usedhalves t_usedhalves
  show tLc (iList K (tVar 0)) (gName 1) tYes (tTup (tCons (tVar 1) (tCons (tC (.ref (He.ga K "HALVES"))) tNil))) [1] (start nm_usedhalves [.ref p]) H fun x H1 => cTup K [x] H1 Q
  refine el_lc1U (K := K) (σ := start nm_usedhalves [.ref p]) (j := 1) (vs := [1]) (tl := tVar 0) (te := tTup (tCons (tVar 1) (tCons (tC (.ref (He.ga K "HALVES"))) tNil))) (zs := [.str n, .ref (He.ga K "HALVES")]) (x := .str n) (ev_var rfl) hp (fun _ => rfl) (fun H1 e1 => eu_tup (ea_2 (ev_var rfl) ev_c) (by show 2 ≤ 100000; decide)) H (Ex.refl H) _ fun l r H2 hl e2 h2 hr => ?_
  refine ⟨l, [.ref r], rfl, .inl ⟨sq_of h2, fun u hu => ?_⟩⟩
  exact q u _ (fresh_back e2 hu) (e2.trans (Ex.new hu)) ⟨r, st_of upd_same, st_of (Ex.new hu _ _ hr)⟩
def sp_readpath (K : PySem.W.Frag) : Sp := fun vs H Q _ => ∃ t O n k : Str, vs = [.str t] ∧ (t, O, n, k) ∈ PT ∧ ∀ p H', H p = none → Ex H H' → PathAt K H' p O k → Q (.ref p) H'
abbrev nm_readpath : List Str := ["text", "name", "links", "kind", "link"]
abbrev pr_readpath : List Str := ["text"]
def t_readpath (K : PySem.W.Frag) : TS :=
  (tSeq (tAsg (tM1 rSplit (tVar 0) (tC (.str "."))) (gStar K 1 (gCons (gName 1) (gCons (gName 2) gNil))))
  (tSeq (tAsg (tC (.str "half")) (gName 3))
  (tSeq (tIfS (tAnd (tTruL K (tVar 2)) (tTest (tOp (rIn K false) (tOp (rIxL K) (tVar 2) (tUn zNeg (tC (.int 1)))) (tC (.ref (He.ga K "LABELS")))))) (tAsg (tBM0 K "list" rPop (tVar 2)) (gName 3)) tNext)
  (tSeq (tIfS (tOr (tNot (tB (tCall (sp_isword K) [] E0 (tCons (tVar 1) tNil)))) (tOr (tTest (tOp zGt (tCB (cLen K) (tCons (tVar 2) tNil)) (tC (.int 4)))) (tNot (tB (tCB (rAll K) (tCons (tLc (iList K (tVar 2)) (gName 4) tYes (tOp (rIn K false) (tVar 4) (tC (.ref (He.ga K "LINKS")))) [4]) tNil)))))) (tRet (tC .non)) tNext)
  (tRet (tMake (He.ga K "Path") (sp_Pathinit K) [] E0 (tCons (tVar 1) (tCons (tCB (cTup K) (tCons (tVar 2) tNil)) (tCons (tVar 3) tNil)))))))))
abbrev Wt_readpath (K : PySem.W.Frag) (vs : List V) (H : Hp) (Q : VK) : Prop := t_readpath K { nx := fun _ H' => Q .non H', rt := Q } (start nm_readpath vs) H
theorem ln_readpath {K : PySem.W.Frag} (vs : List V) (H : Hp) (Q : VK) (E : XK) (h : sp_readpath K vs H Q E) : vs.length = pr_readpath.length := by
  obtain ⟨_, _, _, _, rfl, _⟩ := h
  rfl
theorem pt_split : ∀ x ∈ PT, Txt.split x.1 "." = [x.2.1, x.2.2.1] ∧ x.1.length ≤ 90000 ∧ isW x.2.1 = true ∧ x.2.1.length ≤ 1000 ∧ ((x.2.2.1 = "next" ∧ x.2.2.2 = "half") ∨ (x.2.2.1 = "corner" ∧ x.2.2.2 = "corner")) := by decide +kernel
/-- all([x in c for x in xs]), xs texts -/
theorem ev_inK {K : PySem.W.Frag} {σ : L2.St} {H : Hp} {tl : TE} {j : Nat} {vs : List Nat} {l c : Addr} {ws cs : List Str} (hc : ∀ H, SqT K H c (cs.map V.str)) (h : Ev tl σ H (.ref l)) (hS : SqL K H l (ws.map V.str)) (hz : ws.length ≤ 40000) (hw : ∀ x, wipe ((wipe σ vs).set j (some x)) vs = wipe σ vs)
    (hj : ∀ x, ((wipe σ vs).set j (some x))[j]? = some (some x)) : Ev (tCB (rAll K) (tCons (tLc (iList K tl) (gName j) tYes (tOp (rIn K false) (tVar j) (tC (.ref c))) vs) tNil)) σ H (.bl ((ws.map fun w => inV (.str w) (cs.map V.str)).all id)) := by
  have fl : (cs.map V.str).all flatV = true := flat_strs cs
  have h1 := el_lcL (K := K) (σ := σ) (H := H) (j := j) (vs := vs) (tl := tl) (t := tYes) (te := tOp (rIn K false) (tVar j) (tC (.ref c))) (fun _ => true) (fun i => V.bl (inV (.str (ws.getD i Str.empty)) (cs.map V.str))) h hS (by rw [List.length_map]; exact hz) hw (fun _ _ _ _ _ => et_yes) (fun i x H1 e hi _ => by
    rw [List.getElem?_map] at hi
    cases q : ws[i]? with
    | none =>
      rw [q] at hi
      cases hi
    | some w =>
      rw [q] at hi
      obtain rfl : V.str w = x := Option.some.inj hi
      rw [List.getD_eq_getElem?_getD, q]
      exact ev_op (ev_var (hj _)) ev_c (rv_isT (hc _) rfl fl))
  rw [given_all, List.length_map] at h1
  have e : (List.range ws.length).map (fun i => V.bl (inV (.str (ws.getD i Str.empty)) (cs.map V.str))) = (ws.map fun w => inV (.str w) (cs.map V.str)).map V.bl := by
    rw [List.map_map]
    refine List.ext_getElem? fun i => ?_
    rw [List.getElem?_map, List.getElem?_map]
    by_cases hi : i < ws.length
    · rw [List.getElem?_range hi, List.getElem?_eq_getElem hi]
      show some (V.bl (inV (.str (ws.getD i Str.empty)) _)) = some _
      rw [List.getD_eq_getElem?_getD, List.getElem?_eq_getElem hi] <;> rfl
    · rw [List.getElem?_eq_none (by rw [List.length_range]; omega), List.getElem?_eq_none (by omega)] <;> rfl
  rw [e] at h1
  exact ev_cbN h1 fun p H2 hp _ => rc_all (sq_of hp)
/-- the last line of read_path -/
theorem mk_path {K : PySem.W.Frag} {H : Hp} {σ : L2.St} {O k : Str} {l : Addr} {xs : List V} {Q : VK} (h1 : σ[1]? = some (some (.str O))) (h2 : σ[2]? = some (some (.ref l))) (h3 : σ[3]? = some (some (.str k))) (hl : SqL K H l xs) (q : ∀ p H', H p = none → Ex H H' → PathAt K H' p O k → Q (.ref p) H') :
    (tMake (He.ga K "Path") (sp_Pathinit K) [] E0 (tCons (tVar 1) (tCons (tCB (cTup K) (tCons (tVar 2) tNil)) (tCons (tVar 3) tNil)))) σ H Q := by
  refine ⟨.str O, h1, eu_tupL (ev_var h2) hl H (Ex.refl H) _ fun t H2 ht e2 h5 => ⟨.str k, h3, fun x dx hx hdx hn => ?_⟩⟩
  refine ⟨x, dx, t, O, k, rfl, upd_same, fun H' e' p => ⟨rfl, q x H' (fresh_back e2 hx) ?_ p⟩⟩
  exact e2.trans (Ex.trans (Ex.new (o := .own x) hdx) fun a o h => e' a o (fun w => by rw [w, upd_ne hn.symm, hx] at h; cases h) (by rw [upd_ne (fun w => by rw [w, upd_ne hn.symm, hx] at h; cases h)]; exact h))
theorem rd_readpath {K : PySem.W.Frag} (F : KN K) (vs : List V) (H : Hp) (Q : VK) (E : XK) (h : sp_readpath K vs H Q E) : Wt_readpath K vs H Q := by
  obtain ⟨t, O, n, k, rfl, hm, q⟩ := h
  obtain ⟨hsp, hl, hW, hOl, hk⟩ := pt_split _ hm
  have hsp : Txt.split t "." = [O, n] := hsp
  unfold Wt_readpath t_readpath
  have hs := el_split (σ := start nm_readpath [.str t]) (H := H) (ta := tVar 0) (tb := tC (.str ".")) (ev_var rfl) ev_c (by decide +kernel) hl
  rw [hsp] at hs
  refine q_star hs (by show 1 ≤ 1000; decide) fun l H1 hl0 e1 h1 => ?_
  refine q_asg ev_c fun H2 e2 => ?_
  have h2 : H2 l = some (.lst [.str n]) := e2 _ _ h1
  have e02 := e1.trans e2
  rcases hk with ⟨hn, hk⟩ | ⟨hn, hk⟩
  · have hn : n = "next" := hn
    have hk : k = "half" := hk
    subst hn hk
    refine q_if (b := false) (et_is (et_and (et_truL (ev_var rfl) (sq_of h2)) fun _ => et_test (ev_op (ev_op (ev_var rfl) (ev_un ev_c ru_neg) (rv_ixL (sq_of h2) rfl)) ev_c (rv_isT (F.tLB _) rfl rfl))) (by decide +kernel)) (fun q => nomatch q) fun _ H3 e3 => ?_
    have h3 : H3 l = some (.lst [.str "next"]) := e3 _ _ h2
    refine q_when (b := false) (et_is (et_or (et_not (et_B (ev_call (ea_1 (ev_var rfl)) (spv_isword (t := O) hOl)))) fun _ => et_or (et_test (ev_op (ev_cb (ea_1 (ev_var rfl)) (rc_len (sq_of h3))) ev_c rv_I0)) fun _ => et_not (et_B (ev_inK (ws := ["next"]) (cs := ["next", "prev", "twin"]) F.tLK (ev_var rfl) (sq_of (xs := List.map V.str _) h3) (by decide) (fun _ => rfl) fun _ => rfl))) (by rw [hW]; decide +kernel)) (fun q => nomatch q) fun _ H4 e4 => ?_
    exact mk_path rfl rfl rfl (sq_of (e4 _ _ h3)) fun p H' hp e' a => q p H' (fresh_back (e02.trans (e3.trans e4)) hp) ((e02.trans (e3.trans e4)).trans e') a
  · have hn : n = "corner" := hn
    have hk : k = "corner" := hk
    subst hn hk
    refine q_if (b := true) (et_is (et_and (et_truL (ev_var rfl) (sq_of h2)) fun _ => et_test (ev_op (ev_op (ev_var rfl) (ev_un ev_c ru_neg) (rv_ixL (sq_of h2) rfl)) ev_c (rv_isT (F.tLB _) rfl rfl))) (by decide +kernel)) (fun _ H3 e3 => ?_) (fun q => nomatch q)
    refine s_pop (xs := []) (y := .str "corner") (ev_var rfl) (e3 _ _ h2) fun H4 e4 => ?_
    have e5 : Ex H (upd H4 l (.lst [])) := Ex.mut (e02.trans (e3.trans e4)) hl0
    have h3 : upd H4 l (.lst []) l = some (.lst []) := upd_same
    refine q_when (b := false) (et_is (et_or (et_not (et_B (ev_call (ea_1 (ev_var rfl)) (spv_isword (t := O) hOl)))) fun _ => et_or (et_test (ev_op (ev_cb (ea_1 (ev_var rfl)) (rc_len (sq_of h3))) ev_c rv_I0)) fun _ => et_not (et_B (ev_inK (ws := []) (cs := ["next", "prev", "twin"]) F.tLK (ev_var rfl) (sq_of (xs := List.map V.str _) h3) (by decide) (fun _ => rfl) fun _ => rfl))) (by rw [hW]; decide +kernel)) (fun q => nomatch q) fun _ H6 e6 => ?_
    exact mk_path rfl rfl rfl (sq_of (e6 _ _ h3)) fun p H' hp e' a => q p H' (fresh_back (e5.trans e6) hp) ((e5.trans e6).trans e') a
end K33
namespace K33
open PySem PySem.Spec PyProof.Rows L2 Evl TL Hm
/-! ### reading a line -/
/-- a new step -/
def NewStep (K : PySem.W.Frag) (d : Sd) (H : Hp) (Q : VK) : Prop := ∀ s H', H s = none → Ex H H' → StepAt K H' s d → Q (.ref s) H'
theorem mk_ex {H H' : Hp} {x dx C : Addr} (hx : H x = none) (hdx : H dx = none) (hn : dx ≠ x) (e' : ExO x (upd (upd H dx (.own x)) x (.ins C dx [])) H') : Ex H H' :=
  Ex.trans (Ex.new (o := .own x) hdx) fun a o h => e' a o (fun w => by rw [w, upd_ne hn.symm, hx] at h; cases h) (by rw [upd_ne (fun w => by rw [w, upd_ne hn.symm, hx] at h; cases h)]; exact h)
theorem mk_t {K : PySem.W.Frag} {H : Hp} {x dx C p : Addr} {xs : List V} (hx : H x = none) (hdx : H dx = none) (h : SqT K H p xs) : SqT K (upd (upd H dx (.own x)) x (.ins C dx [])) p xs := by
  have n1 : ∀ {y : Addr}, H y = none → ∀ u, Rd H p u → p ≠ y := fun hy u hu w => by
    rcases hu with hu | ⟨o, hu⟩ <;> (rw [w, hy] at hu; cases hu)
  rcases h with h | h
  · have a := n1 hx _ h
    have b := n1 hdx _ h
    rcases h with h | ⟨o, h⟩
    · exact .inl (.inl (by rw [upd_ne a, upd_ne b]; exact h))
    · exact .inl (.inr ⟨o, by rw [upd_ne a, upd_ne b]; exact h⟩)
  · exact .inr h
theorem mk_uses {K : PySem.W.Frag} {H : Hp} {x dx C u : Addr} {o : Option (Str × Addr)} (hx : H x = none) (hdx : H dx = none) (h : UsesAt K H u o) : UsesAt K (upd (upd H dx (.own x)) x (.ins C dx [])) u o := by
  cases o with
  | none => exact mk_t hx hdx h
  | some nc =>
    obtain ⟨r, h1, h2⟩ := h
    exact ⟨r, mk_t hx hdx h1, mk_t hx hdx h2⟩
/-- the making of a Step, from the values of its six parameters -/
theorem mk_step {K : PySem.W.Frag} {H : Hp} {d : Sd} {nw ua : Addr} {v : V} {Q : VK} (hn : SqT K H nw (d.nw.map V.str)) (hu : UsesAt K H ua d.us) (q : NewStep K d H Q) :
    ∀ x dx, H x = none → H dx = none → dx ≠ x → sp_Stepinit K [.ref x, .str d.a, .ref nw, .str d.k, .ref ua, v] (upd (upd H dx (.own x)) x (.ins (He.ga K "Step") dx [])) (fun v H3 => v = .non ∧ Q (.ref x) H3) E0 := fun x dx hx hdx hne =>
  ⟨x, dx, nw, ua, v, d, rfl, upd_same, mk_t hx hdx hn, mk_uses hx hdx hu, fun H' e' p => ⟨rfl, q x H' hx (mk_ex hx hdx hne e') p⟩⟩
theorem NewStep.ex {K : PySem.W.Frag} {d : Sd} {H H' : Hp} {Q : VK} (q : NewStep K d H Q) (e : Ex H H') : NewStep K d H' Q := fun s H2 hs e2 p => q s H2 (fresh_back e hs) (e.trans e2) p
/-- what the words of a line say -/
inductive Says (K : PySem.W.Frag) : List Str → Sd → Prop
  | lt {t O n k x : Str} : (t, O, n, k) ∈ PT → Says K ["let", x, "=", t] ⟨"let", [x], k, some (O, He.ga K "HALVES")⟩
  | mk {a b : Str} : Says K ["make", a, b] ⟨"make", [a, b], "half", none⟩
  | nw {k x : Str} : k = "face" ∨ k = "corner" → Says K ["new", k, x] ⟨"new", [x], k, none⟩
  | dr {x : Str} : isW x = true → x.length ≤ 1000 → Says K ["drop", x] ⟨"drop", [], "half", some (x, He.ga K "ALL_KINDS")⟩
abbrev SpR (K : PySem.W.Frag) (w : Str) : Sp := fun vs H Q _ => ∃ (p : Addr) (ws : List Str) (d : Sd), vs = [.ref p] ∧ SqL K H p ((w :: ws).map V.str) ∧ Says K (w :: ws) d ∧ NewStep K d H Q
def sp_readlet (K : PySem.W.Frag) : Sp := SpR K "let"
def sp_readmake (K : PySem.W.Frag) : Sp := SpR K "make"
def sp_readnew (K : PySem.W.Frag) : Sp := SpR K "new"
def sp_readdrop (K : PySem.W.Frag) : Sp := SpR K "drop"
abbrev nm_readlet : List Str := ["words", "path"]
abbrev pr_readlet : List Str := ["words"]
def t_readlet (K : PySem.W.Frag) : TS :=
  (tSeq (tIfS (tOr (tTest (tOp rNe (tCB (cLen K) (tCons (tVar 0) tNil)) (tC (.int 4)))) (tTest (tOp rNe (tOp (rIxL K) (tVar 0) (tC (.int 2))) (tC (.str "="))))) (tRet (tC .non)) tNext)
  (tSeq (tAsg (tCall (sp_readpath K) [] E0 (tCons (tOp (rIxL K) (tVar 0) (tC (.int 3))) tNil)) (gName 1))
  (tSeq (tIfS (tTest (tOp rIsNon (tVar 1) (tC .non))) (tRet (tC .non)) tNext)
  (tRet (tMakeN (He.ga K "Step") 1 4 (sp_Stepinit K) (fun vs zs => g_Step_news_kind_uses_detail vs (dfl_Step K) zs) E0 (tCons (tC (.str "let")) tNil) (tCons (tTup (tCons (tOp (rIxL K) (tVar 0) (tC (.int 1))) tNil)) (tCons (tFld K (tVar 1) "kind") (tCons (tCall (sp_usedhalves K) [] E0 (tCons (tLst (tCons (tFld K (tVar 1) "name") tNil)) tNil)) (tCons (tVar 1) tNil)))))))))
abbrev Wt_readlet (K : PySem.W.Frag) (vs : List V) (H : Hp) (Q : VK) : Prop := t_readlet K { nx := fun _ H' => Q .non H', rt := Q } (start nm_readlet vs) H
abbrev nm_readmake : List Str := ["words"]
abbrev pr_readmake : List Str := ["words"]
def t_readmake (K : PySem.W.Frag) : TS :=
  (tSeq (tIfS (tTest (tOp rNe (tCB (cLen K) (tCons (tVar 0) tNil)) (tC (.int 3)))) (tRet (tC .non)) tNext)
  (tRet (tMakeN (He.ga K "Step") 1 1 (sp_Stepinit K) (fun vs zs => g_Step_news vs (dfl_Step K) zs) E0 (tCons (tC (.str "make")) tNil) (tCons (tTup (tCons (tOp (rIxL K) (tVar 0) (tC (.int 1))) (tCons (tOp (rIxL K) (tVar 0) (tC (.int 2))) tNil))) tNil))))
abbrev Wt_readmake (K : PySem.W.Frag) (vs : List V) (H : Hp) (Q : VK) : Prop := t_readmake K { nx := fun _ H' => Q .non H', rt := Q } (start nm_readmake vs) H
abbrev nm_readnew : List Str := ["words"]
abbrev pr_readnew : List Str := ["words"]
def t_readnew (K : PySem.W.Frag) : TS :=
  (tSeq (tIfS (tOr (tTest (tOp rNe (tCB (cLen K) (tCons (tVar 0) tNil)) (tC (.int 3)))) (tTest (tOp (rIn K true) (tOp (rIxL K) (tVar 0) (tC (.int 1))) (tC (.ref (He.ga K "LABELS")))))) (tRet (tC .non)) tNext)
  (tRet (tMakeN (He.ga K "Step") 1 2 (sp_Stepinit K) (fun vs zs => g_Step_news_kind vs (dfl_Step K) zs) E0 (tCons (tC (.str "new")) tNil) (tCons (tTup (tCons (tOp (rIxL K) (tVar 0) (tC (.int 2))) tNil)) (tCons (tOp (rIxL K) (tVar 0) (tC (.int 1))) tNil)))))
abbrev Wt_readnew (K : PySem.W.Frag) (vs : List V) (H : Hp) (Q : VK) : Prop := t_readnew K { nx := fun _ H' => Q .non H', rt := Q } (start nm_readnew vs) H
abbrev nm_readdrop : List Str := ["words"]
abbrev pr_readdrop : List Str := ["words"]
def t_readdrop (K : PySem.W.Frag) : TS :=
  (tSeq (tIfS (tOr (tTest (tOp rNe (tCB (cLen K) (tCons (tVar 0) tNil)) (tC (.int 2)))) (tNot (tB (tCall (sp_isword K) [] E0 (tCons (tOp (rIxL K) (tVar 0) (tC (.int 1))) tNil))))) (tRet (tC .non)) tNext)
  (tRet (tMakeN (He.ga K "Step") 1 1 (sp_Stepinit K) (fun vs zs => g_Step_uses vs (dfl_Step K) zs) E0 (tCons (tC (.str "drop")) tNil) (tCons (tTup (tCons (tTup (tCons (tOp (rIxL K) (tVar 0) (tC (.int 1))) (tCons (tC (.ref (He.ga K "ALL_KINDS"))) tNil))) tNil)) tNil))))
abbrev Wt_readdrop (K : PySem.W.Frag) (vs : List V) (H : Hp) (Q : VK) : Prop := t_readdrop K { nx := fun _ H' => Q .non H', rt := Q } (start nm_readdrop vs) H
section
variable {K : PySem.W.Frag}
theorem ln_readlet (vs : List V) (H : Hp) (Q : VK) (E : XK) (h : sp_readlet K vs H Q E) : vs.length = pr_readlet.length := by
  obtain ⟨_, _, _, rfl, _⟩ := h
  rfl
theorem ln_readmake (vs : List V) (H : Hp) (Q : VK) (E : XK) (h : sp_readmake K vs H Q E) : vs.length = pr_readmake.length := by
  obtain ⟨_, _, _, rfl, _⟩ := h
  rfl
theorem ln_readnew (vs : List V) (H : Hp) (Q : VK) (E : XK) (h : sp_readnew K vs H Q E) : vs.length = pr_readnew.length := by
  obtain ⟨_, _, _, rfl, _⟩ := h
  rfl
theorem ln_readdrop (vs : List V) (H : Hp) (Q : VK) (E : XK) (h : sp_readdrop K vs H Q E) : vs.length = pr_readdrop.length := by
  obtain ⟨_, _, _, rfl, _⟩ := h
  rfl
section
variable {σ : L2.St} {H : Hp} {D : Ends} {C : Addr} {sp : Sp} {gV : List V → List V → List V} {E : XK} {a : V} {k1 k2 k3 k4 : TE}
theorem rmk1 (h : k1 σ H fun y H2 => [a].length = 1 ∧ [y].length = 1 ∧ ∀ x dx, H2 x = none → H2 dx = none → dx ≠ x → sp (gV (.ref x :: [a]) [y]) (upd (upd H2 dx (.own x)) x (.ins C dx [])) (fun v H3 => v = .non ∧ D.rt (.ref x) H3) E) :
    tRet (tMakeN C 1 1 sp gV E (tCons (tC a) tNil) (tCons k1 tNil)) D σ H := h
theorem rmk2 (h : k1 σ H fun y H1 => k2 σ H1 fun z H2 => [a].length = 1 ∧ [y, z].length = 2 ∧ ∀ x dx, H2 x = none → H2 dx = none → dx ≠ x → sp (gV (.ref x :: [a]) [y, z]) (upd (upd H2 dx (.own x)) x (.ins C dx [])) (fun v H3 => v = .non ∧ D.rt (.ref x) H3) E) :
    tRet (tMakeN C 1 2 sp gV E (tCons (tC a) tNil) (tCons k1 (tCons k2 tNil))) D σ H := h
theorem rmk4 (h : k1 σ H fun y H1 => k2 σ H1 fun z H2 => k3 σ H2 fun u H3 => k4 σ H3 fun w H4 => [a].length = 1 ∧ [y, z, u, w].length = 4 ∧ ∀ x dx, H4 x = none → H4 dx = none → dx ≠ x → sp (gV (.ref x :: [a]) [y, z, u, w]) (upd (upd H4 dx (.own x)) x (.ins C dx [])) (fun v H5 => v = .non ∧ D.rt (.ref x) H5) E) :
    tRet (tMakeN C 1 4 sp gV E (tCons (tC a) tNil) (tCons k1 (tCons k2 (tCons k3 (tCons k4 tNil))))) D σ H := h
end
theorem q_asg0 {σ : L2.St} {H : Hp} {D : Ends} {te : TE} {tz : TS} {i : Nat} (h : te σ H fun v H1 => tz D (σ.set i (some v)) H1) : tSeq (tAsg te (gName i)) tz D σ H := h
theorem tcall1 {σ : L2.St} {H : Hp} {k1 : TE} {Q : VK} {sp : Sp} {dvs : List V} {E : XK} (h : k1 σ H fun y H1 => sp ([y] ++ dvs) H1 Q E) : tCall sp dvs E (tCons k1 tNil) σ H Q := h
theorem tup1 {σ : L2.St} {H : Hp} {k1 : TE} {Q : VK} (h : k1 σ H fun y H1 => tTup (fun _ H3 Q3 => Q3 [y] H3) σ H1 Q) : tTup (tCons k1 tNil) σ H Q := h
theorem w_ne {a b : Str} (h : decide (a = b) = false) : ¬ a = b := of_decide_eq_false h
theorem rd_readmake (F : KN K) (vs : List V) (H : Hp) (Q : VK) (E : XK) (h : sp_readmake K vs H Q E) : Wt_readmake K vs H Q := by
  obtain ⟨p, ws, d, rfl, hp, hs, q⟩ := h
  obtain ⟨a, b, rfl, rfl⟩ : ∃ a b, ws = [a, b] ∧ d = ⟨"make", [a, b], "half", none⟩ := by
    generalize e : (("make" : Str) :: ws) = l at hs
    cases hs with
    | mk => exact ⟨_, _, (List.cons.inj e).2, rfl⟩
    | lt _ => exact absurd (List.cons.inj e).1 (by decide +kernel)
    | nw _ => exact absurd (List.cons.inj e).1 (by decide +kernel)
    | dr _ _ => exact absurd (List.cons.inj e).1 (by decide +kernel)
  unfold Wt_readmake t_readmake
  refine q_when (b := false) (et_is (et_test (ev_op (ev_cb (ea_1 (ev_var rfl)) (rc_len hp)) ev_c (rv_ne rfl))) (by rfl)) (fun q => nomatch q) fun _ H1 e1 => ?_
  refine rmk1 ?_
  refine eu_tup (σ := start nm_readmake [.ref p]) (vs := [.str a, .str b]) (ea_2 (ev_op (ev_var rfl) ev_c (rv_ixL (ex_l e1 hp) (atI_nat (j := 1) rfl))) (ev_op (ev_var rfl) ev_c (rv_ixL (ex_l e1 hp) (atI_nat (j := 2) rfl)))) (by show 2 ≤ 100000; decide) H1 (Ex.refl H1) _ fun n H2 hn e2 h2 => ?_
  refine ⟨rfl, rfl, ?_⟩
  exact mk_step (d := ⟨"make", [a, b], "half", none⟩) (st_of h2) (F.d2 H2) (q.ex (e1.trans e2))
theorem rd_readnew (F : KN K) (vs : List V) (H : Hp) (Q : VK) (E : XK) (h : sp_readnew K vs H Q E) : Wt_readnew K vs H Q := by
  obtain ⟨p, ws, d, rfl, hp, hs, q⟩ := h
  obtain ⟨k, x, hk, rfl, rfl⟩ : ∃ k x : Str, (k = "face" ∨ k = "corner") ∧ ws = [k, x] ∧ d = ⟨"new", [x], k, none⟩ := by
    generalize e : (("new" : Str) :: ws) = l at hs
    cases hs with
    | nw hk => exact ⟨_, _, hk, (List.cons.inj e).2, rfl⟩
    | lt _ => exact absurd (List.cons.inj e).1 (by decide +kernel)
    | mk => exact absurd (List.cons.inj e).1 (by decide +kernel)
    | dr _ _ => exact absurd (List.cons.inj e).1 (by decide +kernel)
  unfold Wt_readnew t_readnew
  have hi : inV (.str k) [.str "face", .str "corner"] = true := by rcases hk with rfl | rfl <;> decide +kernel
  have g1 : ∀ {H1 : Hp}, Ex H H1 → Ev (tOp (rIxL K) (tVar 0) (tC (.int 1))) (start nm_readnew [.ref p]) H1 (.str k) := fun e1 => ev_op (ev_var rfl) ev_c (rv_ixL (ex_l e1 hp) (atI_nat (j := 1) rfl))
  refine q_when (b := false) (et_is (et_or (et_test (ev_op (ev_cb (ea_1 (ev_var rfl)) (rc_len hp)) ev_c (rv_ne rfl))) fun _ => et_test (ev_op (g1 (Ex.refl H)) ev_c (rv_niT (F.tLB _) rfl rfl))) (by rw [hi]; rfl)) (fun q => nomatch q) fun _ H1 e1 => ?_
  refine rmk2 ?_
  refine eu_tup (σ := start nm_readnew [.ref p]) (vs := [.str x]) (ea_1 (ev_op (ev_var rfl) ev_c (rv_ixL (ex_l e1 hp) (atI_nat (j := 2) rfl)))) (by show 1 ≤ 100000; decide) H1 (Ex.refl H1) _ fun n H2 hn e2 h2 => ?_
  refine g1 (e1.trans e2) H2 (Ex.refl H2) _ fun H3 e3 => ?_
  refine ⟨rfl, rfl, ?_⟩
  exact mk_step (d := ⟨"new", [x], k, none⟩) (st_of (e3 _ _ h2)) (F.d2 H3) (q.ex ((e1.trans e2).trans e3))
theorem rd_readdrop (F : KN K) (vs : List V) (H : Hp) (Q : VK) (E : XK) (h : sp_readdrop K vs H Q E) : Wt_readdrop K vs H Q := by
  obtain ⟨p, ws, d, rfl, hp, hs, q⟩ := h
  obtain ⟨x, hw, hl, rfl, rfl⟩ : ∃ x, isW x = true ∧ x.length ≤ 1000 ∧ ws = [x] ∧ d = ⟨"drop", [], "half", some (x, He.ga K "ALL_KINDS")⟩ := by
    generalize e : (("drop" : Str) :: ws) = l at hs
    cases hs with
    | dr hw hl => exact ⟨_, hw, hl, (List.cons.inj e).2, rfl⟩
    | lt _ => exact absurd (List.cons.inj e).1 (by decide +kernel)
    | mk => exact absurd (List.cons.inj e).1 (by decide +kernel)
    | nw _ => exact absurd (List.cons.inj e).1 (by decide +kernel)
  unfold Wt_readdrop t_readdrop
  have g1 : ∀ {H1 : Hp}, Ex H H1 → Ev (tOp (rIxL K) (tVar 0) (tC (.int 1))) (start nm_readdrop [.ref p]) H1 (.str x) := fun e1 => ev_op (ev_var rfl) ev_c (rv_ixL (ex_l e1 hp) (atI_nat (j := 1) rfl))
  refine q_when (b := false) (et_is (et_or (et_test (ev_op (ev_cb (ea_1 (ev_var rfl)) (rc_len hp)) ev_c (rv_ne rfl))) fun _ => et_not (et_B (ev_call (ea_1 (g1 (Ex.refl H))) (spv_isword hl)))) (by rw [hw]; rfl)) (fun q => nomatch q) fun _ H1 e1 => ?_
  refine rmk1 ?_
  refine tup1 ?_
  refine eu_tup (σ := start nm_readdrop [.ref p]) (vs := [.str x, .ref (He.ga K "ALL_KINDS")]) (ea_2 (g1 e1) ev_c) (by show 2 ≤ 100000; decide) H1 (Ex.refl H1) _ fun n H2 hn e2 h2 => ?_
  refine eu_tup (σ := start nm_readdrop [.ref p]) (vs := [.ref n]) (fun H3 _ _ q => q H3 (Ex.refl H3)) (by show 1 ≤ 100000; decide) H2 (Ex.refl H2) _ fun m H3 hm e3 h3 => ?_
  refine ⟨rfl, rfl, ?_⟩
  exact mk_step (d := ⟨"drop", [], "half", some (x, He.ga K "ALL_KINDS")⟩) (F.d0 H3) ⟨n, st_of h3, st_of (e3 _ _ h2)⟩ (q.ex ((e1.trans e2).trans e3))
theorem rd_readlet (F : KN K) (vs : List V) (H : Hp) (Q : VK) (E : XK) (h : sp_readlet K vs H Q E) : Wt_readlet K vs H Q := by
  obtain ⟨p, ws, d, rfl, hp, hs, q⟩ := h
  obtain ⟨t, O, n, k, x, hm, rfl, rfl⟩ : ∃ t O n k x : Str, (t, O, n, k) ∈ PT ∧ ws = [x, "=", t] ∧ d = ⟨"let", [x], k, some (O, He.ga K "HALVES")⟩ := by
    generalize e : (("let" : Str) :: ws) = l at hs
    cases hs with
    | lt hm => exact ⟨_, _, _, _, _, hm, (List.cons.inj e).2, rfl⟩
    | mk => exact absurd (List.cons.inj e).1 (by decide +kernel)
    | nw _ => exact absurd (List.cons.inj e).1 (by decide +kernel)
    | dr _ _ => exact absurd (List.cons.inj e).1 (by decide +kernel)
  unfold Wt_readlet t_readlet
  refine q_when (b := false) (et_is (et_or (et_test (ev_op (ev_cb (ea_1 (ev_var rfl)) (rc_len hp)) ev_c (rv_ne rfl))) fun _ => et_test (ev_op (ev_op (ev_var rfl) ev_c (rv_ixL hp (atI_nat (j := 2) rfl))) ev_c (rv_ne rfl))) (by rfl)) (fun q => nomatch q) fun _ H1 e1 => ?_
  refine q_asg0 ?_
  refine (ea_1 (σ := start nm_readlet [.ref p]) (ev_op (ev_var rfl) ev_c (rv_ixL (ex_l e1 hp) (atI_nat (j := 3) rfl)))) H1 (Ex.refl H1) _ fun H2 e2 => ⟨t, O, n, k, rfl, hm, fun pa H3 hpa e3 a3 => ?_⟩
  have e13 := e2.trans e3
  refine q_when (b := false) (et_test (ev_op (ev_var rfl) ev_c (fun H4 _ Q4 q4 => ⟨rfl, q4 H4 (Ex.refl H4)⟩))) (fun q => nomatch q) fun _ H4 e4 => ?_
  obtain ⟨pdx, pl, a4⟩ := a3.ex e4
  refine rmk4 ?_
  refine eu_tup (vs := [.str x]) (ea_1 (ev_op (ev_var rfl) ev_c (rv_ixL (ex_l ((e1.trans e13).trans e4) hp) (atI_nat (j := 1) rfl)))) (by show 1 ≤ 100000; decide) H4 (Ex.refl H4) _ fun nw H5 hn e5 h5 => ?_
  refine ev_fld (ev_var rfl) (e5 _ _ a4) F.cP F.nP3 pfs_k H5 (Ex.refl H5) _ fun H6 e6 => ?_
  refine tcall1 ?_
  refine el_lst (vs := [.str O]) (ea_1 (ev_fld (ev_var rfl) ((e5.trans e6) _ _ a4) F.cP F.nP1 pfs_n)) (by show 1 ≤ 100000; decide) H6 (Ex.refl H6) _ fun ln H7 hl e7 h7 => ⟨ln, O, rfl, sq_of h7, fun ua H8 hua e8 hu => ?_⟩
  refine ⟨.ref pa, rfl, rfl, rfl, ?_⟩
  exact mk_step (d := ⟨"let", [x], k, some (O, He.ga K "HALVES")⟩) (st_of (((e6.trans e7).trans e8) _ _ h5)) hu (q.ex ((((((e1.trans e13).trans e4).trans e5).trans e6).trans e7).trans e8))
end
def S_form (K : PySem.W.Frag) (f : Addr) (sp : Sp) : Prop := (f = He.ga K "_read_let" ∧ sp = sp_readlet K) ∨ (f = He.ga K "_read_make" ∧ sp = sp_readmake K) ∨ (f = He.ga K "_read_drop" ∧ sp = sp_readdrop K) ∨ (f = He.ga K "_read_new" ∧ sp = sp_readnew K)
def sp_readstep (K : PySem.W.Frag) : Sp := fun vs H Q _ => ∃ (ws : List Str) (d : Sd), vs = [.str (jn spc ws)] ∧ (∀ w ∈ ws, 32 ∉ tl w) ∧ (jn spc ws).length ≤ 90000 ∧ Says K ws d ∧ NewStep K d H Q
abbrev nm_readstep : List Str := ["line", "words", "form"]
abbrev pr_readstep : List Str := ["line"]
def t_readstep (K : PySem.W.Frag) : TS :=
  (tSeq (tAsg (tM1 rSplit (tVar 0) (tC (.str " "))) (gName 1))
  (tSeq (tIfS (tTest (tOp (rInK K (He.ga K "FORMS")) (tOp (rIxL K) (tVar 1) (tC (.int 0))) (tC (.ref (He.ga K "FORMS"))))) (tSeq (tAsg (tOp (rIxK K (He.ga K "FORMS")) (tC (.ref (He.ga K "FORMS"))) (tOp (rIxL K) (tVar 1) (tC (.int 0)))) (gName 2))
      (tRet (tCallS 2 (S_form K) (tCons (tVar 1) tNil)))) tNext)
  tNever))
abbrev Wt_readstep (K : PySem.W.Frag) (vs : List V) (H : Hp) (Q : VK) : Prop := t_readstep K { nx := fun _ H' => Q .non H', rt := Q } (start nm_readstep vs) H
theorem ln_readstep {K : PySem.W.Frag} (vs : List V) (H : Hp) (Q : VK) (E : XK) (h : sp_readstep K vs H Q E) : vs.length = pr_readstep.length := by
  obtain ⟨_, _, rfl, _⟩ := h
  rfl
theorem says_head {K : PySem.W.Frag} {ws : List Str} {d : Sd} (F : KN K) (h : Says K ws d) : ∃ w r f, ws = w :: r ∧ PySem.W.nsIn K (He.ga K "FORMS") w = some (some (.ref f)) ∧ S_form K f (SpR K w) := by
  cases h with
  | lt _ => exact ⟨_, _, _, rfl, F.fl, .inl ⟨rfl, rfl⟩⟩
  | mk => exact ⟨_, _, _, rfl, F.fm, .inr (.inl ⟨rfl, rfl⟩)⟩
  | nw _ => exact ⟨_, _, _, rfl, F.fn, .inr (.inr (.inr ⟨rfl, rfl⟩))⟩
  | dr _ _ => exact ⟨_, _, _, rfl, F.fd, .inr (.inr (.inl ⟨rfl, rfl⟩))⟩
theorem rd_readstep {K : PySem.W.Frag} (F : KN K) (vs : List V) (H : Hp) (Q : VK) (E : XK) (h : sp_readstep K vs H Q E) : Wt_readstep K vs H Q := by
  obtain ⟨ws, d, rfl, hf, hz, hs, q⟩ := h
  obtain ⟨w, r, f, rfl, hn, hS⟩ := says_head F hs
  unfold Wt_readstep t_readstep
  have h1 := el_split (σ := start nm_readstep [.str (jn spc (w :: r))]) (H := H) (ta := tVar 0) (tb := tC (.str " ")) (ev_var rfl) ev_c (by decide +kernel) hz
  rw [jn_split tl_spc (by decide +kernel) (List.cons_ne_nil _ _) hf] at h1
  refine q_asgL h1 fun p H1 hp e1 hp1 => ?_
  have g : ∀ {H2 : Hp} {σ : L2.St}, Ex H1 H2 → σ[1]? = some (some (.ref p)) → Ev (tOp (rIxL K) (tVar 1) (tC (.int 0))) σ H2 (.str w) := fun e2 hσ => ev_op (ev_var hσ) ev_c (rv_ixL (sq_of (e2 _ _ hp1)) (atI_nat (j := 0) rfl))
  refine q_if (b := true) (et_test (ev_op (g (Ex.refl H1) rfl) ev_c (fun H2 _ Q2 q2 => ⟨w, _, rfl, rfl, hn, q2 H2 (Ex.refl H2)⟩))) (fun _ H2 e2 => ?_) (fun q => nomatch q)
  refine q_asg (v := .ref f) (ev_op ev_c (g e2 rfl) (fun H3 _ Q3 q3 => ⟨w, .ref f, .ref f, rfl, rfl, hn, rfl, q3 H3 (Ex.refl H3)⟩)) fun H3 e3 => ?_
  exact ⟨f, SpR K w, rfl, hS, .ref p, rfl, p, r, d, rfl, sq_of (e3 _ _ (e2 _ _ hp1)), hs, q.ex ((e1.trans e2).trans e3)⟩
end K33
namespace K33
open PySem PySem.Spec PyProof.Rows L2 Evl TL Hm
/-! ### names and their kinds -/
def kvH (hs : List Str) : List (Key × V) := hs.map fun h => (.inr h, .str "half")
def ScopeAt (K : PySem.W.Frag) (H : Hp) (sc kd : Addr) : Prop := ∃ dx, H sc = some (.ins (He.ga K "Scope") dx [("kinds", .ref kd)])
theorem ScopeAt.ex {K : PySem.W.Frag} {H H' : Hp} {sc kd : Addr} (h : ScopeAt K H sc kd) (e : Ex H H') : ScopeAt K H' sc kd := by
  obtain ⟨dx, h⟩ := h
  exact ⟨dx, e _ _ h⟩
theorem scf (kd : Addr) : ([("kinds", .ref kd)] : List (Str × V)).lookup ("kinds" : Str) = some (.ref kd) := by kernel_rfl
theorem dc_le1 {K : PySem.W.Frag} {σ : L2.St} {H : Hp} {tl : TE} {a : Addr} {hs : List Str} {j : Nat} {vs : List Nat} {z : V} {Q : VK} (h : Ev tl σ H (.ref a)) (hx : SqL K H a (hs.map V.str)) (hl : hs.length ≤ 1) (hw : ∀ x, wipe ((wipe σ vs).set j (some x)) vs = wipe σ vs)
    (hj : ∀ x, ((wipe σ vs).set j (some x))[j]? = some (some x)) (q : ∀ p H', H p = none → Ex H H' → H' p = some (.dK (hs.map fun h => ((.inr h : Key), z))) → Q (.ref p) H') : tDc (iList K tl) (gName j) tYes (tVar j) (tC z) vs σ H Q :=
  h H (Ex.refl H) _ fun H1 e1 => ⟨a, rfl, ⟨_, ex_l e1 hx⟩, fun Dl hD => by
    refine ⟨fun i m H' => m = hs.length - i ∧ i ≤ hs.length ∧ Ex H1 H' ∧ H' Dl = some (.dK ((hs.take i).map fun h => ((.inr h : Key), z))), ⟨hs.length, by simp, Nat.zero_le _, Ex.new hD, upd_same⟩, ?_⟩
    rintro i m H' ⟨rfl, hi, e2, p⟩
    have sq := ex_l (e1.trans e2) hx
    by_cases hlt : i < hs.length
    · obtain rfl : i = 0 := by omega
      obtain ⟨x, rfl⟩ : ∃ x, hs = [x] := by
        cases hs with
        | nil => exact absurd hlt (Nat.lt_irrefl 0)
        | cons x r =>
          cases r with
          | nil => exact ⟨x, rfl⟩
          | cons y r => exact absurd hl (by show ¬ r.length + 1 + 1 ≤ 1; omega)
      refine .inr ⟨⟨_, _, sq, rfl⟩, fun H2 => Ex H1 H2 ∧ H2 Dl = some (.dK [((.inr x : Key), z)]), fun H2 p2 => ⟨0, by show 0 < 1; decide, rfl, by show 1 ≤ 1; decide, p2⟩, ?_⟩
      rintro y H2 ⟨rfl, hy⟩
      have hy0 : V.str x = y := Option.some.inj (hy _ sq)
      subst hy0
      refine ⟨hw _, ?_⟩
      exact ⟨.str x, hj _, [], .inr x, rfl, p, sz_lt (by decide), Ex.mut e2 hD, upd_same⟩
    · have ei : i = hs.length := by omega
      refine .inl ⟨⟨_, sq, by rw [List.length_map]; omega⟩, q Dl H' (fresh_back e1 hD) (e1.trans e2) ?_⟩
      rw [ei, List.take_length] at p
      exact p⟩
theorem sfld0 {K : PySem.W.Frag} {σ : L2.St} {H : Hp} {D : Ends} {ta tv : TE} {f : Str} (h : tv σ H fun y H1 => ta σ H1 fun x H2 => ∃ a C dx fs, x = .ref a ∧ H2 a = some (.ins C dx fs) ∧ Cls K C ∧ NoAttr K C f ∧ fs.length < 1000 ∧ D.nx σ (upd H2 a (.ins C dx (putF f y fs)))) : sFld K ta tv f D σ H := h
def sp_Scopeinit (K : PySem.W.Frag) : Sp := fun vs H Q _ => ∃ (x dx a : Addr) (hs : List Str), vs = [.ref x, .ref a] ∧ H x = some (.ins (He.ga K "Scope") dx []) ∧ SqL K H a (hs.map V.str) ∧ hs.length ≤ 1 ∧
  ∀ kd H', H kd = none → kd ≠ x → ExO x H H' → ScopeAt K H' x kd → H' kd = some (.dK (kvH hs)) → Q .non H'
abbrev nm_Scopeinit : List Str := ["self", "halves", "name"]
abbrev pr_Scopeinit : List Str := ["self", "halves"]
def t_Scopeinit (K : PySem.W.Frag) : TS :=
  (sFld K (tVar 0) (tDc (iList K (tVar 1)) (gName 2) tYes (tVar 2) (tC (.str "half")) [2]) "kinds")
abbrev Wt_Scopeinit (K : PySem.W.Frag) (vs : List V) (H : Hp) (Q : VK) : Prop := t_Scopeinit K { nx := fun _ H' => Q .non H', rt := Q } (start nm_Scopeinit vs) H
theorem ln_Scopeinit {K : PySem.W.Frag} (vs : List V) (H : Hp) (Q : VK) (E : XK) (h : sp_Scopeinit K vs H Q E) : vs.length = pr_Scopeinit.length := by
  obtain ⟨_, _, _, _, rfl, _⟩ := h
  rfl
theorem rd_Scopeinit {K : PySem.W.Frag} (F : KN K) (vs : List V) (H : Hp) (Q : VK) (E : XK) (h : sp_Scopeinit K vs H Q E) : Wt_Scopeinit K vs H Q := by
  obtain ⟨x, dx, a, hs, rfl, hx, ha, hl, q⟩ := h
  unfold Wt_Scopeinit t_Scopeinit
  refine sfld0 ?_
  refine dc_le1 (K := K) (j := 2) (vs := [2]) (tl := tVar 1) (σ := start nm_Scopeinit [.ref x, .ref a]) (z := .str "half") (ev_var rfl) ha hl (fun _ => rfl) (fun _ => rfl) fun kd H1 hkd e1 h1 => ⟨.ref x, rfl, x, _, dx, [], rfl, e1 _ _ hx, F.cC, F.nC1, by decide, ?_⟩
  have n : kd ≠ x := (ne_of_none hx hkd).symm
  refine q kd _ hkd n ((ExO.of e1).upd) ⟨dx, upd_same⟩ ?_
  rw [upd_ne n]
  exact h1
/-- may these names be bound -/
def canB (kvs : List (Key × V)) (ns : List Str) : Bool := decide (cntD ns ns.length = ns.length) && (ns.map fun n => isNm n && !(valV kvs (.inr n)).isSome).all id
def sp_Scopecanbind (K : PySem.W.Frag) : Sp := fun vs H Q _ => ∃ (x kd a : Addr) (kvs : List (Key × V)) (ns : List Str), vs = [.ref x, .ref a] ∧ ScopeAt K H x kd ∧ H kd = some (.dK kvs) ∧ (SqL K H a (ns.map V.str) ∨ SqT K H a (ns.map V.str)) ∧ ns.length ≤ 100 ∧ (∀ n ∈ ns, n.length ≤ 1000) ∧ RetV (.bl (canB kvs ns)) H Q
abbrev nm_Scopecanbind : List Str := ["self", "names", "name"]
abbrev pr_Scopecanbind : List Str := ["self", "names"]
def t_Scopecanbind (K : PySem.W.Frag) : TS :=
  (tSeq (tIfS (tTest (tOp rNe (PSet.tLenD K (tVar 1)) (tCB (cLen K) (tCons (tVar 1) tNil)))) (tRet (tC (.bl false))) tNext)
  (tRet (tCB (rAll K) (tCons (tLc (iAny K (tVar 1)) (gName 2) tYes (tAndV (tCall (sp_isname K) [] E0 (tCons (tVar 2) tNil)) (tDNotIn (tVar 2) (tFld K (tVar 0) "kinds"))) [2]) tNil))))
abbrev Wt_Scopecanbind (K : PySem.W.Frag) (vs : List V) (H : Hp) (Q : VK) : Prop := t_Scopecanbind K { nx := fun _ H' => Q .non H', rt := Q } (start nm_Scopecanbind vs) H
theorem ln_Scopecanbind {K : PySem.W.Frag} (vs : List V) (H : Hp) (Q : VK) (E : XK) (h : sp_Scopecanbind K vs H Q E) : vs.length = pr_Scopecanbind.length := by
  obtain ⟨_, _, _, _, _, rfl, _⟩ := h
  rfl
theorem el_lcAny {K : PySem.W.Frag} {σ : L2.St} {H : Hp} {tl te : TE} {t : TT} {a : Addr} {xs : List V} {j : Nat} {vs : List Nat} (f : Nat → Bool) (v : Nat → V) (h : Ev tl σ H (.ref a)) (hx : SqL K H a xs ∨ SqT K H a xs) (hz : xs.length ≤ 40000) (hw : ∀ x, wipe ((wipe σ vs).set j (some x)) vs = wipe σ vs)
    (ht : ∀ (i : Nat) (x : V) H1, Ex H H1 → xs[i]? = some x → EvT t ((wipe σ vs).set j (some x)) H1 (f i)) (he : ∀ (i : Nat) (x : V) H1, Ex H H1 → xs[i]? = some x → f i = true → Ev te ((wipe σ vs).set j (some x)) H1 (v i)) :
    EvL (tLc (iAny K tl) (gName j) t te vs) σ H (given xs.length f v) := fun H0 e Q q => by
  rcases hx with hx | hx
  · exact .inl (el_lcL f v h hx hz hw ht he H0 e Q q)
  · exact .inr (el_lcT f v h hx hz hw ht he H0 e Q q)
theorem ev_dninS {σ : L2.St} {H : Hp} {ty td : TE} {d : Addr} {kvs : List (Key × V)} {i : Str} (hy : Ev ty σ H (.str i)) (hd : Ev td σ H (.ref d)) (h : H d = some (.dK kvs)) : Ev (tDNotIn ty td) σ H (.bl (!(valV kvs (.inr i)).isSome)) := fun H1 e Q q =>
  hy H1 e _ fun H2 e2 => hd H2 (e.trans e2) _ fun H3 e3 => ⟨d, _, rfl, DGet.k (k := .inr i) (((e.trans e2).trans e3) _ _ h), q H3 (e2.trans e3)⟩
theorem ev_dinS {σ : L2.St} {H : Hp} {ty td : TE} {d : Addr} {kvs : List (Key × V)} {i : Str} (hy : Ev ty σ H (.str i)) (hd : Ev td σ H (.ref d)) (h : H d = some (.dK kvs)) : Ev (tDIn ty td) σ H (.bl (valV kvs (.inr i)).isSome) := fun H1 e Q q =>
  hy H1 e _ fun H2 e2 => hd H2 (e.trans e2) _ fun H3 e3 => ⟨d, _, rfl, DGet.k (k := .inr i) (((e.trans e2).trans e3) _ _ h), q H3 (e2.trans e3)⟩
theorem ev_dgetS {σ : L2.St} {H : Hp} {ty td : TE} {d : Addr} {kvs : List (Key × V)} {i : Str} {v : V} (hd : Ev td σ H (.ref d)) (hy : Ev ty σ H (.str i)) (h : H d = some (.dK kvs)) (hv : valV kvs (.inr i) = some v) : Ev (tDGet td ty) σ H v := fun H1 e Q q =>
  hd H1 e _ fun H2 e2 => hy H2 (e.trans e2) _ fun H3 e3 => ⟨d, v, rfl, by
    have g := DGet.k (k := .inr i) (((e.trans e2).trans e3) _ _ h)
    rw [hv] at g
    exact g, q H3 (e2.trans e3)⟩
theorem rd_Scopecanbind {K : PySem.W.Frag} (F : KN K) (vs : List V) (H : Hp) (Q : VK) (E : XK) (h : sp_Scopecanbind K vs H Q E) : Wt_Scopecanbind K vs H Q := by
  obtain ⟨x, kd, a, kvs, ns, rfl, hsc, hkd, ha, hl, hn, q⟩ := h
  have any : ∀ {H1}, Ex H H1 → (SqL K H1 a (ns.map V.str) ∨ SqT K H1 a (ns.map V.str)) := fun e => ha.elim (fun h => .inl (ex_l e h)) fun h => .inr (ex_t e h)
  have elen : Ev (tCB (cLen K) (tCons (tVar 1) tNil)) (start nm_Scopecanbind [.ref x, .ref a]) H (.int ((ns.map V.str).length : Int)) := ev_cb (ea_1 (ev_var rfl)) fun H1 e1 Q1 q1 => ⟨a, _, rfl, any e1, q1 H1 (Ex.refl H1)⟩
  have ed : Ev (PSet.tLenD K (tVar 1)) (start nm_Scopecanbind [.ref x, .ref a]) H (.int (cntD ns ns.length : Nat)) := fun H1 e1 Q1 q1 => ⟨.ref a, rfl, a, ns, rfl, any e1, by omega, q1 H1 (Ex.refl H1)⟩
  unfold Wt_Scopecanbind t_Scopecanbind
  by_cases hc : cntD ns ns.length = ns.length
  · refine q_when (b := false) (et_is (et_test (ev_op ed elen (rv_ne rfl))) (by rw [List.length_map, hc]; simp)) (fun q => nomatch q) fun _ H1 e1 => ?_
    obtain ⟨dx, hsc1⟩ := hsc.ex e1
    refine s_ret (v := .bl (canB kvs ns)) ?_ fun H2 e2 => q H2 (e1.trans e2)
    have h1 := el_lcAny (K := K) (σ := start nm_Scopecanbind [.ref x, .ref a]) (H := H1) (j := 2) (vs := [2]) (tl := tVar 1) (t := tYes) (te := tAndV (tCall (sp_isname K) [] E0 (tCons (tVar 2) tNil)) (tDNotIn (tVar 2) (tFld K (tVar 0) "kinds"))) (fun _ => true)
      (fun i => V.bl (isNm (ns.getD i Str.empty) && !(valV kvs (.inr (ns.getD i Str.empty))).isSome)) (ev_var rfl) (any e1) (by rw [List.length_map]; omega) (fun _ => rfl) (fun _ _ _ _ _ => et_yes) (fun i y H2 e2 hi _ => by
        rw [List.getElem?_map] at hi
        cases w : ns[i]? with
        | none =>
          rw [w] at hi
          cases hi
        | some n =>
          rw [w] at hi
          obtain rfl : V.str n = y := Option.some.inj hi
          rw [List.getD_eq_getElem?_getD, w]
          exact ev_andV (ev_call (ea_1 (ev_var rfl)) (spv_isname (hn n (List.mem_of_getElem? w)))) fun _ => ev_dninS (ev_var rfl) (ev_fld (ev_var rfl) (e2 _ _ hsc1) F.cC F.nC1 (scf kd)) (e2 _ _ (e1 _ _ hkd)))
    rw [given_all, List.length_map] at h1
    have e : (List.range ns.length).map (fun i => V.bl (isNm (ns.getD i Str.empty) && !(valV kvs (.inr (ns.getD i Str.empty))).isSome)) = (ns.map fun n => isNm n && !(valV kvs (.inr n)).isSome).map V.bl := by
      rw [List.map_map]
      refine List.ext_getElem? fun i => ?_
      rw [List.getElem?_map, List.getElem?_map]
      by_cases hi : i < ns.length
      · rw [List.getElem?_range hi, List.getElem?_eq_getElem hi]
        show some (V.bl (isNm (ns.getD i Str.empty) && _)) = some _
        rw [List.getD_eq_getElem?_getD, List.getElem?_eq_getElem hi] <;> rfl
      · rw [List.getElem?_eq_none (by rw [List.length_range]; omega), List.getElem?_eq_none (by omega)] <;> rfl
    rw [e] at h1
    have h2 := ev_cbN (r := rAll K) h1 fun p H2 hp _ => rc_all (sq_of hp)
    unfold canB
    rw [decide_eq_true hc, Bool.true_and]
    exact h2
  · refine q_when (b := true) (et_is (et_test (ev_op ed elen (rv_ne rfl))) ?_) (fun _ H1 e1 => ?_) (fun q => nomatch q)
    · rw [List.length_map]
      have : ¬ (V.int (cntD ns ns.length : Nat) = V.int (ns.length : Int)) := fun w => hc (by injection w with w; omega)
      rw [decide_eq_false this] <;> rfl
    · refine s_ret ev_c fun H2 e2 => ?_
      have e : canB kvs ns = false := by
        unfold canB
        rw [decide_eq_false hc, Bool.false_and]
      rw [← e]
      exact q H2 (e1.trans e2)
end K33
namespace K33
open PySem PySem.Spec PyProof.Rows L2 Evl TL Hm
/-! ### the uses of a step, its new names -/
/-- the name that the step uses is known and of a right kind -/
def UsesOk (K : PySem.W.Frag) (kvs : List (Key × V)) : Option (Str × Addr) → Prop
  | none => True
  | some (n, c) => ∃ k ks, valV kvs (.inr n) = some (.str k) ∧ (∀ H, SqT K H c (List.map V.str ks)) ∧ inV (.str k) (List.map V.str ks) = true
def sp_Scopecheckuses (K : PySem.W.Frag) : Sp := fun vs H Q _ => ∃ (x kd s : Addr) (i : Int) (kvs : List (Key × V)) (d : Sd), vs = [.ref x, .ref s, .int i] ∧ ScopeAt K H x kd ∧ H kd = some (.dK kvs) ∧ StepAt K H s d ∧ UsesOk K kvs d.us ∧ RetV .non H Q
abbrev nm_Scopecheckuses : List Str := ["self", "step", "number", "name", "kinds"]
abbrev pr_Scopecheckuses : List Str := ["self", "step", "number"]
def t_Scopecheckuses (K : PySem.W.Frag) : TS :=
  (tFor (iTup K (tFld K (tVar 1) "uses")) (gTup K 2 (gCons (gName 3) (gCons (gName 4) gNil))) (tSeq (tIfS (tB (tDNotIn (tVar 3) (tFld K (tVar 0) "kinds"))) tNever tNext)
    (tIfS (tTest (tOp (rIn K true) (tDGet (tFld K (tVar 0) "kinds") (tVar 3)) (tVar 4))) tNever tNext)))
abbrev Wt_Scopecheckuses (K : PySem.W.Frag) (vs : List V) (H : Hp) (Q : VK) : Prop := t_Scopecheckuses K { nx := fun _ H' => Q .non H', rt := Q } (start nm_Scopecheckuses vs) H
theorem ln_Scopecheckuses {K : PySem.W.Frag} (vs : List V) (H : Hp) (Q : VK) (E : XK) (h : sp_Scopecheckuses K vs H Q E) : vs.length = pr_Scopecheckuses.length := by
  obtain ⟨_, _, _, _, _, _, rfl, _⟩ := h
  rfl
theorem rd_Scopecheckuses {K : PySem.W.Frag} (F : KN K) (vs : List V) (H : Hp) (Q : VK) (E : XK) (h : sp_Scopecheckuses K vs H Q E) : Wt_Scopecheckuses K vs H Q := by
  obtain ⟨x, kd, s, i, kvs, d, rfl, ⟨cdx, hsc⟩, hkd, ⟨dx, nw, ua, qa, v, hs, _, hu, _⟩, ho, q⟩ := h
  unfold Wt_Scopecheckuses t_Scopecheckuses
  have eu : Ev (tFld K (tVar 1) "uses") (start nm_Scopecheckuses [.ref x, .ref s, .int i]) H (.ref ua) := ev_fld (ev_var rfl) hs F.cS F.nS4 sfs_us
  cases hd : d.us with
  | none =>
    rw [hd] at hu
    refine s_forT (xs := []) eu hu (fun j σ' H' => j = 0 ∧ Ex H H') (fun H1 e1 => ⟨rfl, e1⟩) (fun j σ' H' _ p => ex_t p.2 hu) (fun j y σ' H' hj _ => nomatch hj) fun σ' H' p => q H' p.2
  | some nc =>
    obtain ⟨n, c⟩ := nc
    rw [hd] at hu ho
    obtain ⟨r, hu, hr⟩ := hu
    obtain ⟨k, ks, hv, hc, hin⟩ := ho
    refine s_forT (xs := [.ref r]) eu hu (fun j σ' H' => Ex H H' ∧ σ'[0]? = some (some (.ref x)) ∧ σ'.length = 5) (fun H1 e1 => ⟨e1, rfl, rfl⟩) (fun j σ' H' _ p => ex_t p.1 hu) (fun j y σ' H' hj p => ?_) fun σ' H' p => q H' p.1
    obtain ⟨e1, s0, sl⟩ := p
    obtain ⟨a0, a1, a2, a3, a4, rfl⟩ : ∃ a0 a1 a2 a3 a4, σ' = [a0, a1, a2, a3, a4] := by
      match σ', sl with
      | [a0, a1, a2, a3, a4], _ => exact ⟨a0, a1, a2, a3, a4, rfl⟩
    have s0 : a0 = some (.ref x) := Option.some.inj s0
    subst s0
    have hy : V.ref r = y := by
      match j, hj with
      | 0, hj => exact Option.some.inj hj
    subst hy
    refine ⟨r, _, rfl, ex_t e1 hr, rfl, .str n, _, rfl, .ref c, _, rfl, rfl, ?_⟩
    have ek : ∀ {H1 : Hp}, Ex H' H1 → Ev (tFld K (tVar 0) "kinds") [some (.ref x), a1, a2, some (.str n), some (.ref c)] H1 (.ref kd) := fun e2 => ev_fld (ev_var rfl) ((e1.trans e2) _ _ hsc) F.cC F.nC1 (scf kd)
    refine q_when (b := false) (et_is (et_B (ev_dninS (ev_var rfl) (ek (Ex.refl H')) (e1 _ _ hkd))) (by rw [hv]; rfl)) (fun w => nomatch w) fun _ H2 e2 => ?_
    refine s_when (b := false) (et_is (et_test (ev_op (ev_dgetS (ek e2) (ev_var rfl) ((e1.trans e2) _ _ hkd) hv) (ev_var rfl) (rv_niT (hc _) rfl (flat_strs ks)))) (by rw [hin]; rfl)) (fun w => nomatch w) fun _ H3 e3 => ?_
    exact ⟨(e1.trans e2).trans e3, rfl, rfl⟩
def sp_Scopebind (K : PySem.W.Frag) : Sp := fun vs H Q _ => ∃ (x kd s : Addr) (kvs : List (Key × V)) (d : Sd), vs = [.ref x, .ref s] ∧ ScopeAt K H x kd ∧ H kd = some (.dK kvs) ∧ kvs.length ≤ 100 ∧ StepAt K H s d ∧ d.nw.length ≤ 100 ∧ ∀ H', ExO kd H H' → Q .non H'
abbrev nm_Scopebind : List Str := ["self", "step", "name"]
abbrev pr_Scopebind : List Str := ["self", "step"]
def t_Scopebind (K : PySem.W.Frag) : TS :=
  (tFor (iTup K (tFld K (tVar 1) "news")) (gName 2) (sDPut (tFld K (tVar 0) "kinds") (tVar 2) (tFld K (tVar 1) "kind")))
abbrev Wt_Scopebind (K : PySem.W.Frag) (vs : List V) (H : Hp) (Q : VK) : Prop := t_Scopebind K { nx := fun _ H' => Q .non H', rt := Q } (start nm_Scopebind vs) H
theorem ln_Scopebind {K : PySem.W.Frag} (vs : List V) (H : Hp) (Q : VK) (E : XK) (h : sp_Scopebind K vs H Q E) : vs.length = pr_Scopebind.length := by
  obtain ⟨_, _, _, _, _, rfl, _⟩ := h
  rfl
theorem exO_td {K : PySem.W.Frag} {H H' : Hp} {x p : Addr} {kvs : List (Key × V)} {xs : List V} (e : ExO x H H') (hx : H x = some (.dK kvs)) (h : SqT K H p xs) : SqT K H' p xs := by
  rcases h with h | h
  · rcases h with h | ⟨o, h⟩
    · exact .inl (.inl (e p _ (fun q => by rw [q, hx] at h; cases h) h))
    · exact .inl (.inr ⟨o, e p _ (fun q => by rw [q, hx] at h; cases h) h⟩)
  · exact .inr h
theorem putK_len {kvs : List (Key × V)} {k : Key} {v : V} : (putK kvs k v).length ≤ kvs.length + 1 := by
  unfold putK
  split
  · rw [List.length_map]
    omega
  · rw [List.length_append]
    exact Nat.le_refl _
theorem dput0 {σ : L2.St} {H : Hp} {D : Ends} {td ty tv : TE} (h : tv σ H fun v H1 => td σ H1 fun x H2 => ty σ H2 fun y H3 => ∃ a H4, x = .ref a ∧ DPut H3 a y v H4 ∧ D.nx σ H4) : sDPut td ty tv D σ H := h
theorem rd_Scopebind {K : PySem.W.Frag} (F : KN K) (vs : List V) (H : Hp) (Q : VK) (E : XK) (h : sp_Scopebind K vs H Q E) : Wt_Scopebind K vs H Q := by
  obtain ⟨x, kd, s, kvs, d, rfl, ⟨cdx, hsc⟩, hkd, hl, ⟨dx, nw, ua, qa, v, hs, hn, _, _⟩, hnl, q⟩ := h
  unfold Wt_Scopebind t_Scopebind
  have nx : x ≠ kd := fun w => by rw [w, hkd] at hsc; cases hsc
  have ns : s ≠ kd := fun w => by rw [w, hkd] at hs; cases hs
  refine s_forT (xs := d.nw.map V.str) (ev_fld (ev_var rfl) hs F.cS F.nS2 sfs_n) hn (fun j σ' H' => ExO kd H H' ∧ (∃ kvs', H' kd = some (.dK kvs') ∧ kvs'.length ≤ 100 + j) ∧ σ'[0]? = some (some (.ref x)) ∧ σ'[1]? = some (some (.ref s)) ∧ σ'.length = 3)
    (fun H1 e1 => ⟨ExO.of e1, ⟨kvs, e1 _ _ hkd, by omega⟩, rfl, rfl, rfl⟩) (fun j σ' H' _ p => exO_td p.1 hkd hn) (fun j y σ' H' hj p => ?_) fun σ' H' p => q H' p.1
  obtain ⟨e1, ⟨kvs', hk', hl'⟩, s0, s1, sl⟩ := p
  obtain ⟨a0, a1, a2, rfl⟩ : ∃ a0 a1 a2, σ' = [a0, a1, a2] := by
    match σ', sl with
    | [a0, a1, a2], _ => exact ⟨a0, a1, a2, rfl⟩
  have t0 : a0 = some (.ref x) := Option.some.inj s0
  have t1 : a1 = some (.ref s) := Option.some.inj s1
  subst t0
  subst t1
  have hjl : j < d.nw.length := by
    have := (List.getElem?_eq_some_iff.mp hj).1
    rwa [List.length_map] at this
  rw [List.getElem?_map] at hj
  obtain ⟨n, hn0, rfl⟩ := Option.map_eq_some_iff.mp hj
  have hs' := e1 _ _ ns hs
  have hsc' := e1 _ _ nx hsc
  refine dput0 (σ := [some (.ref x), some (.ref s), some (.str n)]) (H := H') ?_
  refine ev_fld (σ := [some (.ref x), some (.ref s), some (.str n)]) (ev_var rfl) hs' F.cS F.nS3 sfs_k H' (Ex.refl H') _ fun H2 e2 => ?_
  refine ev_fld (σ := [some (.ref x), some (.ref s), some (.str n)]) (ev_var rfl) (e2 _ _ hsc') F.cC F.nC1 (scf kd) H2 (Ex.refl H2) _ fun H3 e3 => ?_
  have e23 := e2.trans e3
  refine ⟨.str n, rfl, kd, _, rfl, DPut.k (k := .inr n) (e23 _ _ hk') (sz_lt (by omega)), (e1.trans (ExO.of e23)).upd, ⟨_, upd_same, by have := @putK_len kvs' (.inr n) (.str d.k); omega⟩, rfl, rfl, rfl⟩
/-! ### a draft -/
def dfs (sc st jp bl : Addr) (b : Bool) : List (Str × V) := [("scope", .ref sc), ("steps", .ref st), ("jumps", .ref jp), ("blocks", .ref bl), ("has_labels", .bl b)]
theorem dfs_put (sc st jp bl : Addr) (b : Bool) : putF "has_labels" (.bl b) (putF "blocks" (.ref bl) (putF "jumps" (.ref jp) (putF "steps" (.ref st) (putF "scope" (.ref sc) [])))) = dfs sc st jp bl b := by kernel_rfl
section
variable {sc st jp bl : Addr} {b b2 : Bool}
theorem dfs_sc : (dfs sc st jp bl b).lookup ("scope" : Str) = some (.ref sc) := by kernel_rfl
theorem dfs_st : (dfs sc st jp bl b).lookup ("steps" : Str) = some (.ref st) := by kernel_rfl
theorem dfs_jp : (dfs sc st jp bl b).lookup ("jumps" : Str) = some (.ref jp) := by kernel_rfl
theorem dfs_bl : (dfs sc st jp bl b).lookup ("blocks" : Str) = some (.ref bl) := by kernel_rfl
theorem dfs_hl : (dfs sc st jp bl b).lookup ("has_labels" : Str) = some (.bl b) := by kernel_rfl
theorem dfs_re : putF "has_labels" (.bl b2) (dfs sc st jp bl b) = dfs sc st jp bl b2 := by kernel_rfl
end
end K33
namespace K33
open PySem PySem.Spec PyProof.Rows L2 Evl TL Hm
/-! ### small parts of _add_line -/
def DraftIs (K : PySem.W.Frag) (H : Hp) (d sc st jp bl : Addr) (b : Bool) : Prop := ∃ dx, H d = some (.ins (He.ga K "Draft") dx (dfs sc st jp bl b))
theorem DraftIs.ex {K : PySem.W.Frag} {H H' : Hp} {d sc st jp bl : Addr} {b : Bool} (h : DraftIs K H d sc st jp bl b) (e : Ex H H') : DraftIs K H' d sc st jp bl b := by
  obtain ⟨dx, h⟩ := h
  exact ⟨dx, e _ _ h⟩
def okA : List Str := ["let", "make", "drop", "new"]
/-- may_stand: no label line ahead -/
def sp_maystand (K : PySem.W.Frag) : Sp := fun vs H Q _ => ∃ (d sc st jp bl s : Addr) (x : Sd) (v : V), vs = [.ref d, .ref s, v] ∧ DraftIs K H d sc st jp bl false ∧ StepAt K H s x ∧ x.a ∈ okA ∧ RetV (.bl true) H Q
abbrev nm_maystand : List Str := ["draft", "step", "is_last"]
abbrev pr_maystand : List Str := ["draft", "step", "is_last"]
def t_maystand (K : PySem.W.Frag) : TS :=
  (tSeq (tIfS (tTest (tOp rEq (tFld K (tVar 1) "action") (tC (.str "given")))) tNever tNext)
  (tSeq (tIfS (tTest (tOp rEq (tFld K (tVar 1) "action") (tC (.str "tell")))) tNever tNext)
  (tSeq (tIfS (tTest (tOp rEq (tFld K (tVar 1) "action") (tC (.str "if")))) tNever tNext)
  (tSeq (tIfS (tTest (tOp rEq (tFld K (tVar 1) "action") (tC (.str "else")))) tNever tNext)
  (tSeq (tIfS (tTest (tOp rEq (tFld K (tVar 1) "action") (tC (.str "end")))) tNever tNext)
  (tSeq (tIfS (tTest (tOp (rIn K false) (tFld K (tVar 1) "action") (tC (.ref (He.ga K "AHEAD_OF_LABELS"))))) (tRet (tNotV (tFld K (tVar 0) "has_labels"))) tNext)
  (tRet (tOp rNe (tFld K (tVar 1) "action") (tC (.str "call"))))))))))
abbrev Wt_maystand (K : PySem.W.Frag) (vs : List V) (H : Hp) (Q : VK) : Prop := t_maystand K { nx := fun _ H' => Q .non H', rt := Q } (start nm_maystand vs) H
theorem ln_maystand {K : PySem.W.Frag} (vs : List V) (H : Hp) (Q : VK) (E : XK) (h : sp_maystand K vs H Q E) : vs.length = pr_maystand.length := by
  obtain ⟨_, _, _, _, _, _, _, _, rfl, _⟩ := h
  rfl
theorem ok_ne : ∀ a ∈ okA, decide (V.str a = V.str "given") = false ∧ decide (V.str a = V.str "tell") = false ∧ decide (V.str a = V.str "if") = false ∧ decide (V.str a = V.str "else") = false ∧ decide (V.str a = V.str "end") = false ∧ decide (V.str a = V.str "call") = false := by decide +kernel
theorem rd_maystand {K : PySem.W.Frag} (F : KN K) (vs : List V) (H : Hp) (Q : VK) (E : XK) (h : sp_maystand K vs H Q E) : Wt_maystand K vs H Q := by
  obtain ⟨d, sc, st, jp, bl, s, x, v, rfl, ⟨ddx, hd⟩, ⟨dx, nw, ua, qa, vv, hs, _, _, _⟩, ha, q⟩ := h
  obtain ⟨n1, n2, n3, n4, n5, n6⟩ := ok_ne _ ha
  unfold Wt_maystand t_maystand
  have ea : ∀ {H1 : Hp}, Ex H H1 → Ev (tFld K (tVar 1) "action") (start nm_maystand [.ref d, .ref s, v]) H1 (.str x.a) := fun e => ev_fld (ev_var rfl) (e _ _ hs) F.cS F.nS1 sfs_a
  refine q_when (b := false) (et_is (et_test (ev_op (ea (Ex.refl H)) ev_c (rv_eq rfl))) n1) (fun w => nomatch w) fun _ H1 e1 => ?_
  refine q_when (b := false) (et_is (et_test (ev_op (ea e1) ev_c (rv_eq rfl))) n2) (fun w => nomatch w) fun _ H2 e2 => ?_
  have e2 := e1.trans e2
  refine q_when (b := false) (et_is (et_test (ev_op (ea e2) ev_c (rv_eq rfl))) n3) (fun w => nomatch w) fun _ H3 e3 => ?_
  have e3 := e2.trans e3
  refine q_when (b := false) (et_is (et_test (ev_op (ea e3) ev_c (rv_eq rfl))) n4) (fun w => nomatch w) fun _ H4 e4 => ?_
  have e4 := e3.trans e4
  refine q_when (b := false) (et_is (et_test (ev_op (ea e4) ev_c (rv_eq rfl))) n5) (fun w => nomatch w) fun _ H5 e5 => ?_
  have e5 := e4.trans e5
  refine q_when (b := inV (.str x.a) [.str "let", .str "make", .str "link"]) (et_test (ev_op (ea e5) ev_c (rv_isT (F.tAL _) rfl rfl))) (fun _ H6 e6 => ?_) fun _ H6 e6 => ?_
  · exact s_ret (v := .bl true) (ev_notV (a := false) (ev_fld (ev_var rfl) ((e5.trans e6) _ _ hd) F.cD F.nD5 dfs_hl)) fun H7 e7 => q H7 ((e5.trans e6).trans e7)
  · exact s_ret (v := .bl true) (ev_is (ev_op (ea (e5.trans e6)) ev_c (rv_ne rfl)) (by rw [n6] <;> rfl)) fun H7 e7 => q H7 ((e5.trans e6).trans e7)
def sp_openorclose (K : PySem.W.Frag) : Sp := fun vs H Q _ => ∃ (d sc st jp bl s : Addr) (b : Bool) (x : Sd) (xs : List V), vs = [.ref d, .ref s] ∧ DraftIs K H d sc st jp bl b ∧ H st = some (.lst xs) ∧ StepAt K H s x ∧ x.a ∈ okA ∧ RetV .non H Q
abbrev nm_openorclose : List Str := ["draft", "step", "at", "block"]
abbrev pr_openorclose : List Str := ["draft", "step"]
def t_openorclose (K : PySem.W.Frag) : TS :=
  (tSeq (tAsg (tCB (cLen K) (tCons (tFld K (tVar 0) "steps") tNil)) (gName 2))
  (tIfS (tTest (tOp rEq (tFld K (tVar 1) "action") (tC (.str "if")))) tNever (tIfS (tTest (tOp rEq (tFld K (tVar 1) "action") (tC (.str "else")))) (tSeq tNever
      (tSeq tNever
      (tSeq tNever
      (tSeq tNever
      tNever)))) (tIfS (tTest (tOp rEq (tFld K (tVar 1) "action") (tC (.str "end")))) (tSeq tNever
        (tSeq tNever
        tNever)) tNext))))
abbrev Wt_openorclose (K : PySem.W.Frag) (vs : List V) (H : Hp) (Q : VK) : Prop := t_openorclose K { nx := fun _ H' => Q .non H', rt := Q } (start nm_openorclose vs) H
theorem ln_openorclose {K : PySem.W.Frag} (vs : List V) (H : Hp) (Q : VK) (E : XK) (h : sp_openorclose K vs H Q E) : vs.length = pr_openorclose.length := by
  obtain ⟨_, _, _, _, _, _, _, _, _, rfl, _⟩ := h
  rfl
theorem rd_openorclose {K : PySem.W.Frag} (F : KN K) (vs : List V) (H : Hp) (Q : VK) (E : XK) (h : sp_openorclose K vs H Q E) : Wt_openorclose K vs H Q := by
  obtain ⟨d, sc, st, jp, bl, s, b, x, xs, rfl, ⟨ddx, hd⟩, hst, ⟨dx, nw, ua, qa, vv, hs, _, _, _⟩, ha, q⟩ := h
  obtain ⟨n1, n2, n3, n4, n5, n6⟩ := ok_ne _ ha
  unfold Wt_openorclose t_openorclose
  refine q_asg (v := .int (xs.length : Int)) (ev_cb (ea_1 (ev_fld (ev_var rfl) hd F.cD F.nD2 dfs_st)) (rc_len (sq_of hst))) fun H1 e1 => ?_
  have ea : ∀ {H2 : Hp} {σ : L2.St}, σ[1]? = some (some (.ref s)) → Ex H H2 → Ev (tFld K (tVar 1) "action") σ H2 (.str x.a) := fun hσ e => ev_fld (ev_var hσ) (e _ _ hs) F.cS F.nS1 sfs_a
  refine s_if (b := false) (et_is (et_test (ev_op (ea rfl e1) ev_c (rv_eq rfl))) n3) (fun w => nomatch w) fun _ H2 e2 => ?_
  refine s_if (b := false) (et_is (et_test (ev_op (ea rfl (e1.trans e2)) ev_c (rv_eq rfl))) n4) (fun w => nomatch w) fun _ H3 e3 => ?_
  refine s_when (b := false) (et_is (et_test (ev_op (ea rfl ((e1.trans e2).trans e3)) ev_c (rv_eq rfl))) n5) (fun w => nomatch w) fun _ H4 e4 => ?_
  exact q H4 (((e1.trans e2).trans e3).trans e4)
end K33
namespace K33
open PySem PySem.Spec PyProof.Rows L2 Evl TL Hm
/-! ### the Routine -/
/-- a list of steps whose last one is no tell line -/
def StepsAt (K : PySem.W.Frag) (H : Hp) (st : Addr) : Prop := ∃ (xs : List V) (s : Addr) (x : Sd), SqL K H st (xs ++ [.ref s]) ∧ StepAt K H s x ∧ decide (V.str x.a = V.str "tell") = false ∧ xs.length ≤ 10
theorem StepsAt.ex {K : PySem.W.Frag} {H H' : Hp} {st : Addr} (h : StepsAt K H st) (e : Ex H H') : StepsAt K H' st := by
  obtain ⟨xs, s, x, a, b, c, d⟩ := h
  exact ⟨xs, s, x, ex_l e a, b.ex e, c, d⟩
def sp_toldnames (K : PySem.W.Frag) : Sp := fun vs H Q _ => ∃ st : Addr, vs = [.ref st] ∧ StepsAt K H st ∧ ∀ p H', H p = none → Ex H H' → H' p = some (.tup []) → Q (.ref p) H'
abbrev nm_toldnames : List Str := ["steps"]
abbrev pr_toldnames : List Str := ["steps"]
def t_toldnames (K : PySem.W.Frag) : TS :=
  (tSeq (tIfS (tTest (tOp rNe (tFld K (tOp (rIxL K) (tVar 0) (tUn zNeg (tC (.int 1)))) "action") (tC (.str "tell")))) (tRet (tTup tNil)) tNext)
  tNever)
abbrev Wt_toldnames (K : PySem.W.Frag) (vs : List V) (H : Hp) (Q : VK) : Prop := t_toldnames K { nx := fun _ H' => Q .non H', rt := Q } (start nm_toldnames vs) H
theorem ln_toldnames {K : PySem.W.Frag} (vs : List V) (H : Hp) (Q : VK) (E : XK) (h : sp_toldnames K vs H Q E) : vs.length = pr_toldnames.length := by
  obtain ⟨_, rfl, _⟩ := h
  rfl
theorem at_last {xs : List V} {y : V} : atI (xs ++ [y]) (-1) = some y := by
  unfold atI
  simp only [ixN, List.length_append, List.length_singleton]
  have h1 : (-1 : Int) < 0 := by decide
  have h2 : ¬ ((xs.length + 1 : Nat) : Int) < 1 := by omega
  simp
  rw [if_pos (by omega)]
  have e : (-1 + ((xs.length : Int) + 1)).toNat = xs.length := by omega
  show (xs ++ [y])[(-1 + ((xs.length : Int) + 1)).toNat]? = some y
  rw [e]
  simp
theorem rd_toldnames {K : PySem.W.Frag} (F : KN K) (vs : List V) (H : Hp) (Q : VK) (E : XK) (h : sp_toldnames K vs H Q E) : Wt_toldnames K vs H Q := by
  obtain ⟨st, rfl, ⟨xs, s, x, hl, ⟨dx, nw, ua, qa, vv, hs, _, _, _⟩, hn, _⟩, q⟩ := h
  unfold Wt_toldnames t_toldnames
  refine q_if (b := true) (et_is (et_test (ev_op (ev_fld (ev_op (ev_var rfl) (ev_un ev_c ru_neg) (rv_ixL hl at_last)) hs F.cS F.nS1 sfs_a) ev_c (rv_ne rfl))) (by rw [hn] <;> rfl)) (fun _ H1 e1 => ?_) (fun w => nomatch w)
  exact s_retU (eu_tup ea_nil (Nat.zero_le _)) fun p H2 hp e2 h2 => q p H2 (fresh_back e1 hp) (e1.trans e2) h2
/-- the label lines: here none stands ahead -/
def isLab (x : Sd) : Bool := inV (.str x.a) [.str "new", .str "label", .str "round", .str "some"]
theorem StepAt.exO {K : PySem.W.Frag} {H H' : Hp} {s x C dx : Addr} {d : Sd} (h : StepAt K H s d) (e : ExO x H H') (hx : H x = some (.ins C dx [])) : StepAt K H' s d := by
  obtain ⟨sdx, nw, ua, q, v, h1, h2, h3, h4⟩ := h
  refine ⟨sdx, nw, ua, q, v, e s _ (fun w => ?_) h1, exO_t e hx h2, h3.exO e hx, exO_t e hx h4⟩
  rw [w, hx] at h1
  have := Option.some.inj h1
  injection this with _ _ w3
  cases w3
theorem StepsAt.exO {K : PySem.W.Frag} {H H' : Hp} {st x C dx : Addr} (h : StepsAt K H st) (e : ExO x H H') (hx : H x = some (.ins C dx [])) : StepsAt K H' st := by
  obtain ⟨xs, s, d, a, b, c, l⟩ := h
  exact ⟨xs, s, d, exO_l e hx a, b.exO e hx, c, l⟩
theorem eu_call {σ : L2.St} {H : Hp} {ta : TA} {sp : Sp} {dvs vs xs : List V} {E : XK} (h : EvA ta σ H vs) (hs : ∀ H1, Ex H H1 → ∀ Q : VK, (∀ p H2, H1 p = none → Ex H1 H2 → H2 p = some (.tup xs) → Q (.ref p) H2) → sp (vs ++ dvs) H1 Q E) : EvU (tCall sp dvs E ta) σ H xs := fun H1 e Q q =>
  h H1 e _ fun H2 e2 => hs H2 (e.trans e2) Q fun p H3 hp e3 h3 => q p H3 (fresh_back e2 hp) (e2.trans e3) h3
def sp_Routineinit (K : PySem.W.Frag) : Sp := fun vs H Q _ => ∃ (x dx h l st jp : Addr) (n : Str) (hs ls js : List V), vs = [.ref x, .str n, .ref h, .ref l, .ref st, .ref jp] ∧ H x = some (.ins (He.ga K "Routine") dx []) ∧ SqL K H h hs ∧ SqL K H l ls ∧ SqL K H jp js ∧ StepsAt K H st ∧
  ∀ H', ExO x H H' → Q .non H'
abbrev nm_Routineinit : List Str := ["self", "name", "halves", "lines", "steps", "jumps"]
abbrev pr_Routineinit : List Str := ["self", "name", "halves", "lines", "steps", "jumps"]
def t_Routineinit (K : PySem.W.Frag) : TS :=
  (tSeq (sFld K (tVar 0) (tVar 1) "name")
  (tSeq (sFld K (tVar 0) (tCB (cTup K) (tCons (tVar 2) tNil)) "halves")
  (tSeq (sFld K (tVar 0) (tCall (sp_toldnames K) [] E0 (tCons (tVar 4) tNil)) "told")
  (tSeq (sFld K (tVar 0) (tCB (cTup K) (tCons (tVar 3) tNil)) "lines")
  (tSeq (sFld K (tVar 0) (tCB (cTup K) (tCons (tVar 4) tNil)) "steps")
  (sFld K (tVar 0) (tCB (cTup K) (tCons (tVar 5) tNil)) "jumps"))))))
abbrev Wt_Routineinit (K : PySem.W.Frag) (vs : List V) (H : Hp) (Q : VK) : Prop := t_Routineinit K { nx := fun _ H' => Q .non H', rt := Q } (start nm_Routineinit vs) H
theorem ln_Routineinit {K : PySem.W.Frag} (vs : List V) (H : Hp) (Q : VK) (E : XK) (h : sp_Routineinit K vs H Q E) : vs.length = pr_Routineinit.length := by
  obtain ⟨_, _, _, _, _, _, _, _, _, _, rfl, _⟩ := h
  rfl
theorem rd_Routineinit {K : PySem.W.Frag} (F : KN K) (vs : List V) (H : Hp) (Q : VK) (E : XK) (h : sp_Routineinit K vs H Q E) : Wt_Routineinit K vs H Q := by
  obtain ⟨x, dx, hh, l, st, jp, n, hs, ls, js, rfl, hx, h1, h2, h3, h4, q⟩ := h
  unfold Wt_Routineinit t_Routineinit
  refine q_o (Oi.start hx) (y := .str n) (ev_var rfl) (ev_var rfl) F.cR F.nR1 (by decide) fun H1 o1 => ?_
  refine q_oU o1 (eu_tupL (ev_var rfl) (exO_l o1.1 hx h1)) (ev_var rfl) F.cR F.nR2 pl1 fun _ H2 _ _ o2 _ => ?_
  refine q_oU o2 (eu_call (xs := []) (ea_1 (ev_var rfl)) fun H3 e3 Q3 q3 => ⟨st, rfl, (h4.exO o2.1 hx).ex e3, fun p H4 hp e4 h4' => q3 p H4 hp e4 h4'⟩) (ev_var rfl) F.cR F.nR3 pl2 fun _ H3 _ _ o3 _ => ?_
  refine q_oU o3 (eu_tupL (ev_var rfl) (exO_l o3.1 hx h2)) (ev_var rfl) F.cR F.nR4 pl3 fun _ H4 _ _ o4 _ => ?_
  obtain ⟨xs, s, d, hl, _⟩ := h4
  refine q_oU o4 (eu_tupL (ev_var rfl) (exO_l o4.1 hx hl)) (ev_var rfl) F.cR F.nR5 pl4 fun _ H5 _ _ o5 _ => ?_
  exact s_oU o5 (eu_tupL (ev_var rfl) (exO_l o5.1 hx h3)) (ev_var rfl) F.cR F.nR6 pl5 fun _ H6 _ _ o6 _ => q H6 o6.1
end K33
namespace K33
open PySem PySem.Spec PyProof.Rows L2 Evl TL Hm
/-- no label line stands ahead; a half that is dropped is a half -/
def sp_checklabels (K : PySem.W.Frag) : Sp := fun vs H Q _ => ∃ (d sc kd st jp bl s : Addr) (i : Int) (kvs : List (Key × V)) (x : Sd), vs = [.ref d, .ref s, .int i] ∧ DraftIs K H d sc st jp bl false ∧ ScopeAt K H sc kd ∧ H kd = some (.dK kvs) ∧ StepAt K H s x ∧
  (x.a = "drop" → ∃ n c, x.us = some (n, c) ∧ valV kvs (.inr n) = some (.str "half")) ∧ ∀ b H', ExO d H H' → DraftIs K H' d sc st jp bl b → Q .non H'
abbrev nm_checklabels : List Str := ["draft", "step", "number", "is_label_line"]
abbrev pr_checklabels : List Str := ["draft", "step", "number"]
def t_checklabels (K : PySem.W.Frag) : TS :=
  (tSeq (tAsg (tOp (rIn K false) (tFld K (tVar 1) "action") (tC (.ref (He.ga K "LABEL_ACTIONS")))) (gName 3))
  (tSeq (tIfS (tTest (tOp rEq (tFld K (tVar 1) "action") (tC (.str "drop")))) (tSeq (tAsg (tOp rNe (tDGet (tFld K (tFld K (tVar 0) "scope") "kinds") (tOp (rIxT K) (tFld K (tVar 1) "used") (tC (.int 0)))) (tC (.str "half"))) (gName 3))
      (tIfS (tAnd (tB (tFld K (tVar 0) "has_labels")) (tNot (tB (tVar 3)))) tNever tNext)) tNext)
  (sFld K (tVar 0) (tOrV (tFld K (tVar 0) "has_labels") (tVar 3)) "has_labels")))
abbrev Wt_checklabels (K : PySem.W.Frag) (vs : List V) (H : Hp) (Q : VK) : Prop := t_checklabels K { nx := fun _ H' => Q .non H', rt := Q } (start nm_checklabels vs) H
theorem ln_checklabels {K : PySem.W.Frag} (vs : List V) (H : Hp) (Q : VK) (E : XK) (h : sp_checklabels K vs H Q E) : vs.length = pr_checklabels.length := by
  obtain ⟨_, _, _, _, _, _, _, _, _, _, rfl, _⟩ := h
  rfl
/-- its last line -/
theorem lab_end {K : PySem.W.Frag} (F : KN K) {σ : L2.St} {H : Hp} {d sc st jp bl : Addr} {b : Bool} {D : Ends} (h0 : σ[0]? = some (some (.ref d))) (h3 : σ[3]? = some (some (.bl b))) (hd : DraftIs K H d sc st jp bl false) (k : ∀ H', ExO d H H' → DraftIs K H' d sc st jp bl b → D.nx σ H') :
    sFld K (tVar 0) (tOrV (tFld K (tVar 0) "has_labels") (tVar 3)) "has_labels" D σ H := by
  obtain ⟨ddx, hd⟩ := hd
  refine s_o (Oi.start hd) (y := .bl (false || b)) (ev_orV (ev_fld (ev_var h0) hd F.cD F.nD5 dfs_hl) fun _ => ev_var h3) (ev_var h0) F.cD F.nD5 (by show 5 < 1000; decide) fun H' o => k H' o.1 ⟨ddx, ?_⟩
  rw [← dfs_re (b := false) (b2 := b)]
  exact o.2
theorem rd_checklabels {K : PySem.W.Frag} (F : KN K) (vs : List V) (H : Hp) (Q : VK) (E : XK) (h : sp_checklabels K vs H Q E) : Wt_checklabels K vs H Q := by
  obtain ⟨d, sc, kd, st, jp, bl, s, i, kvs, x, rfl, ⟨ddx, hd⟩, ⟨cdx, hsc⟩, hkd, ⟨dx, nw, ua, qa, vv, hs, _, _, hq⟩, hdrop, q⟩ := h
  unfold Wt_checklabels t_checklabels
  have ea : ∀ {H1 : Hp} {σ : L2.St}, σ[1]? = some (some (.ref s)) → Ex H H1 → Ev (tFld K (tVar 1) "action") σ H1 (.str x.a) := fun hσ e => ev_fld (ev_var hσ) (e _ _ hs) F.cS F.nS1 sfs_a
  refine q_asg (v := .bl (inV (.str x.a) [.str "new", .str "label", .str "round", .str "some"])) (ev_op (ea rfl (Ex.refl H)) ev_c (rv_isT (F.tLA _) rfl rfl)) fun H1 e1 => ?_
  by_cases ha : x.a = "drop"
  · obtain ⟨n, c, hu, hv⟩ := hdrop ha
    rw [hu] at hq
    refine q_if (b := true) (et_is (et_test (ev_op (ea rfl e1) ev_c (rv_eq rfl))) (by rw [ha]; decide +kernel)) (fun _ H2 e2 => ?_) (fun w => nomatch w)
    have e12 := e1.trans e2
    refine q_asg (v := .bl false) (ev_is (ev_op (ev_dgetS (ev_fld (ev_fld (ev_var rfl) (e12 _ _ hd) F.cD F.nD1 dfs_sc) (e12 _ _ hsc) F.cC F.nC1 (scf kd)) (ev_op (ev_fld (ev_var rfl) (e12 _ _ hs) F.cS F.nS5 sfs_q) ev_c (rv_ixT (ex_t e12 hq) (atI_nat (j := 0) rfl))) (e12 _ _ hkd) hv) ev_c (rv_ne rfl)) (by decide +kernel)) fun H3 e3 => ?_
    have e13 := e12.trans e3
    refine s_when (b := false) (et_is (et_and (a := false) (b := false) (et_B (ev_fld (ev_var rfl) (e13 _ _ hd) F.cD F.nD5 dfs_hl)) fun w => nomatch w) (by rfl)) (fun w => nomatch w) fun _ H4 e4 => ?_
    exact lab_end F (b := false) rfl rfl ⟨ddx, (e13.trans e4) _ _ hd⟩ fun H' e' a => q false H' ((ExO.of (e13.trans e4)).trans e') a
  · refine q_if (b := false) (et_is (et_test (ev_op (ea rfl e1) ev_c (rv_eq rfl))) ?_) (fun w => nomatch w) fun _ H2 e2 => ?_
    · exact decide_eq_false fun w => ha (by injection w)
    · exact lab_end F rfl rfl ⟨ddx, (e1.trans e2) _ _ hd⟩ fun H' e' a => q _ H' ((ExO.of (e1.trans e2)).trans e') a
end K33
namespace K33
open PySem PySem.Spec PyProof.Rows L2 Evl TL Hm
/-! ### a new Draft -/
/-- the draft's parts -/
structure DraftAt (K : PySem.W.Frag) (H : Hp) (d sc kd st jp bl : Addr) (b : Bool) (kvs : List (Key × V)) (xs ys : List V) : Prop where
  dr : DraftIs K H d sc st jp bl b
  sc : ScopeAt K H sc kd
  kd : H kd = some (.dK kvs)
  st : H st = some (.lst xs)
  jp : H jp = some (.lst ys)
  bl : H bl = some (.lst [])
theorem oi_fresh {H0 H : Hp} {x C dx p : Addr} {fs : List (Str × V)} (o : Oi H0 x C dx fs H) (h : H p = none) : H0 p = none ∧ p ≠ x :=
  have n : p ≠ x := (ne_of_none o.2 h).symm
  ⟨fresh_exo o.1 h n, n⟩
abbrev rou : Sd := ⟨"routine", [], "half", none⟩
def sp_Draftinit (K : PySem.W.Frag) : Sp := fun vs H Q _ => ∃ (x dx a : Addr) (O : Str), vs = [.ref x, .ref a] ∧ H x = some (.ins (He.ga K "Draft") dx []) ∧ SqL K H a [.str O] ∧
  ∀ (sc kd st jp bl s : Addr) H', H sc = none → H kd = none → H st = none → H jp = none → H bl = none → ExO x H H' → DraftAt K H' x sc kd st jp bl false (kvH [O]) [.ref s] [.non] → StepAt K H' s rou → Q .non H'
abbrev nm_Draftinit : List Str := ["self", "halves"]
abbrev pr_Draftinit : List Str := ["self", "halves"]
def t_Draftinit (K : PySem.W.Frag) : TS :=
  (tSeq (sFld K (tVar 0) (tMake (He.ga K "Scope") (sp_Scopeinit K) [] E0 (tCons (tVar 1) tNil)) "scope")
  (tSeq (sFld K (tVar 0) (tLst (tCons (tMake (He.ga K "Step") (sp_Stepinit K) (dfl_Step K) E0 (tCons (tC (.str "routine")) tNil)) tNil)) "steps")
  (tSeq (sFld K (tVar 0) (tLst (tCons (tC .non) tNil)) "jumps")
  (tSeq (sFld K (tVar 0) (tLst tNil) "blocks")
  (sFld K (tVar 0) (tC (.bl false)) "has_labels")))))
abbrev Wt_Draftinit (K : PySem.W.Frag) (vs : List V) (H : Hp) (Q : VK) : Prop := t_Draftinit K { nx := fun _ H' => Q .non H', rt := Q } (start nm_Draftinit vs) H
theorem ln_Draftinit {K : PySem.W.Frag} (vs : List V) (H : Hp) (Q : VK) (E : XK) (h : sp_Draftinit K vs H Q E) : vs.length = pr_Draftinit.length := by
  obtain ⟨_, _, _, _, rfl, _⟩ := h
  rfl
theorem qfld0 {K : PySem.W.Frag} {σ : L2.St} {H : Hp} {D : Ends} {ta tv : TE} {tz : TS} {f : Str} (h : tv σ H fun y H1 => ta σ H1 fun x H2 => ∃ a C dx fs, x = .ref a ∧ H2 a = some (.ins C dx fs) ∧ Cls K C ∧ NoAttr K C f ∧ fs.length < 1000 ∧ tz D σ (upd H2 a (.ins C dx (putF f y fs)))) : tSeq (sFld K ta tv f) tz D σ H := h
/-- as q_oL, with what was changed since H -/
theorem q_oLk {K : PySem.W.Frag} {σ : L2.St} {H H0 : Hp} {tv ta : TE} {D : Ends} {tz : TS} {x C dx : Addr} {fs : List (Str × V)} {f : Str} {xs : List V} (o : Oi H0 x C dx fs H) (hv : EvL tv σ H xs) (ha : Ev ta σ H (.ref x)) (hc : Cls K C) (hn : NoAttr K C f) (hl : fs.length < 1000) (k : ∀ p H', H0 p = none → p ≠ x → Oi H0 x C dx (putF f (.ref p) fs) H' → H' p = some (.lst xs) → ExO x H H' → tz D σ H') : tSeq (sFld K ta tv f) tz D σ H :=
  hv H (Ex.refl H) _ fun p H1 hp e1 h1 => ha H1 e1 _ fun H2 e2 => ⟨x, C, dx, fs, rfl, e2 _ _ (e1 _ _ o.2), hc, hn, hl, by
    have n : p ≠ x := (ne_of_none o.2 hp).symm
    exact k p _ (fresh_exo o.1 hp n) n ((o.ex (e1.trans e2)).put) (by rw [upd_ne n]; exact e2 _ _ h1) ((ExO.of (e1.trans e2)).upd)⟩
/-- Scope(halves) -/
theorem mk_scope {K : PySem.W.Frag} {H : Hp} {σ : L2.St} {tl : TE} {a : Addr} {hs : List Str} {Q : VK} (h : Ev tl σ H (.ref a)) (ha : SqL K H a (hs.map V.str)) (hl : hs.length ≤ 1) (q : ∀ sc kd H', H sc = none → H kd = none → Ex H H' → ScopeAt K H' sc kd → H' kd = some (.dK (kvH hs)) → Q (.ref sc) H') :
    tMake (He.ga K "Scope") (sp_Scopeinit K) [] E0 (tCons tl tNil) σ H Q := by
  refine h H (Ex.refl H) _ fun H1 e1 => fun x dx hx hdx hne => ?_
  have e2 : ∀ {H' : Hp}, ExO x (upd (upd H1 dx (.own x)) x (.ins (He.ga K "Scope") dx [])) H' → Ex H1 H' := fun e' => mk_ex hx hdx hne e'
  refine ⟨x, dx, a, hs, rfl, upd_same, ?_, hl, fun kd H' hkd hn e' s k => ⟨rfl, q x kd H' (fresh_back e1 hx) ?_ (e1.trans (e2 e')) s k⟩⟩
  · have h1 := ex_l e1 ha
    have n1 : ∀ {y : Addr}, H1 y = none → ∀ u, Rd H1 a u → a ≠ y := fun hy u hu w => by
      rcases hu with hu | ⟨o, hu⟩ <;> (rw [w, hy] at hu; cases hu)
    rcases h1 with h1 | h1
    · have a1 := n1 hx _ h1
      have a2 := n1 hdx _ h1
      rcases h1 with h1 | ⟨o, h1⟩
      · exact .inl (.inl (by rw [upd_ne a1, upd_ne a2]; exact h1))
      · exact .inl (.inr ⟨o, by rw [upd_ne a1, upd_ne a2]; exact h1⟩)
    · exact .inr h1
  · rw [upd_ne hn] at hkd
    by_cases w : kd = dx
    · rw [w, upd_same] at hkd
      cases hkd
    · rw [upd_ne w] at hkd
      exact fresh_back e1 hkd
/-- [Step('routine')] -/
theorem mk_rou {K : PySem.W.Frag} (F : KN K) {H : Hp} {σ : L2.St} {Q : VK} (q : ∀ l s H', H l = none → Ex H H' → H' l = some (.lst [.ref s]) → StepAt K H' s rou → Q (.ref l) H') :
    tLst (tCons (tMake (He.ga K "Step") (sp_Stepinit K) (dfl_Step K) E0 (tCons (tC (.str "routine")) tNil)) tNil) σ H Q := by
  refine fun x dx hx hdx hne => ?_
  have m := mk_step (K := K) (H := H) (d := rou) (nw := He.dflAt ("Step", some "__init__") 0 K) (ua := He.dflAt ("Step", some "__init__") 2 K) (v := .non) (Q := fun v H3 => ∃ s, v = .ref s ∧ Ex H H3 ∧ StepAt K H3 s rou) (F.d0 H) (F.d2 H) (fun s H' _ e p => ⟨s, rfl, e, p⟩) x dx hx hdx hne
  obtain ⟨x', dx', nw, ua, v, d, w, h1, h2, h3, h4⟩ := m
  refine ⟨x', dx', nw, ua, v, d, w, h1, h2, h3, fun H' e' p => ?_⟩
  obtain ⟨h5, s, h6, h7, h8⟩ := h4 H' e' p
  refine ⟨h5, by show 1 ≤ sizeLine; exact sz_of (by decide), fun l hl => ?_⟩
  cases h6
  exact q l x _ (fresh_back h7 hl) (h7.trans (Ex.new hl)) upd_same (h8.ex (Ex.new hl))
theorem rd_Draftinit {K : PySem.W.Frag} (F : KN K) (vs : List V) (H : Hp) (Q : VK) (E : XK) (h : sp_Draftinit K vs H Q E) : Wt_Draftinit K vs H Q := by
  obtain ⟨x, dx, a, O, rfl, hx, ha, q⟩ := h
  unfold Wt_Draftinit t_Draftinit
  refine qfld0 ?_
  refine mk_scope (hs := [O]) (ev_var rfl) ha (by show 1 ≤ 1; decide) fun sc kd H1 hsc0 hkd0 e1 hsc hkd => ?_
  refine ⟨.ref x, rfl, x, _, dx, [], rfl, e1 _ _ hx, F.cD, F.nD1, by decide, ?_⟩
  have o1 : Oi H x (He.ga K "Draft") dx (putF "scope" (.ref sc) []) (upd H1 x (.ins (He.ga K "Draft") dx (putF "scope" (.ref sc) []))) := ⟨(ExO.of e1).upd, upd_same⟩
  have nsc : sc ≠ x := (ne_of_none hx hsc0).symm
  have nkd : kd ≠ x := (ne_of_none hx hkd0).symm
  obtain ⟨sdx, hsc⟩ := hsc
  have hsc1 : upd H1 x (.ins (He.ga K "Draft") dx (putF "scope" (.ref sc) [])) sc = _ := (upd_ne nsc).trans hsc
  have hkd1 : upd H1 x (.ins (He.ga K "Draft") dx (putF "scope" (.ref sc) [])) kd = _ := (upd_ne nkd).trans hkd
  revert o1 hsc1 hkd1
  generalize upd H1 x (.ins (He.ga K "Draft") dx (putF "scope" (.ref sc) [])) = G1
  intro o1 hsc1 hkd1
  refine qfld0 ?_
  refine mk_rou F fun st s H2 hst0 e2 hst hs => ?_
  refine ⟨.ref x, rfl, x, _, dx, _, rfl, e2 _ _ o1.2, F.cD, F.nD2, pl1, ?_⟩
  obtain ⟨fst, nst⟩ := oi_fresh o1 hst0
  have o2 : Oi H x (He.ga K "Draft") dx (putF "steps" (.ref st) (putF "scope" (.ref sc) [])) (upd H2 x (.ins (He.ga K "Draft") dx (putF "steps" (.ref st) (putF "scope" (.ref sc) [])))) := (o1.ex e2).put
  have hst2 : upd H2 x (.ins (He.ga K "Draft") dx (putF "steps" (.ref st) (putF "scope" (.ref sc) []))) st = _ := (upd_ne nst).trans hst
  have hs2 : StepAt K (upd H2 x (.ins (He.ga K "Draft") dx (putF "steps" (.ref st) (putF "scope" (.ref sc) [])))) s rou := by
    obtain ⟨sdx, nw, ua, qq, v, k1, k2, k3, k4⟩ := hs
    have hx2 := e2 _ _ o1.2
    have ex : ExO x H2 (upd H2 x (.ins (He.ga K "Draft") dx (putF "steps" (.ref st) (putF "scope" (.ref sc) [])))) := ExO.refl.upd
    have ne : s ≠ x := fun w => by
      rw [w, hx2] at k1
      have := Option.some.inj k1
      injection this with _ _ w3
      exact absurd (congrArg List.length w3) (by have := @pk1 "scope" (.ref sc); intro w; rw [w] at this; exact absurd this (by show ¬ 6 ≤ 1; decide))
    exact ⟨sdx, nw, ua, qq, v, (upd_ne ne).trans k1, exO_t ex hx2 k2, UsesAt.exO k3 ex hx2, exO_t ex hx2 k4⟩
  have hsc2 : upd H2 x (.ins (He.ga K "Draft") dx (putF "steps" (.ref st) (putF "scope" (.ref sc) []))) sc = _ := (upd_ne nsc).trans (e2 _ _ hsc1)
  have hkd2 : upd H2 x (.ins (He.ga K "Draft") dx (putF "steps" (.ref st) (putF "scope" (.ref sc) []))) kd = _ := (upd_ne nkd).trans (e2 _ _ hkd1)
  revert o2 hsc2 hkd2 hst2 hs2
  generalize upd H2 x (.ins (He.ga K "Draft") dx (putF "steps" (.ref st) (putF "scope" (.ref sc) []))) = G2
  intro o2 hst2 hs2 hsc2 hkd2
  refine q_oLk o2 (xs := [.non]) (el_lst (ea_1 ev_c) (by show 1 ≤ 100000; decide)) (ev_var rfl) F.cD F.nD3 pl2 fun jp H3 fjp njp o3 hjp e3 => ?_
  refine q_oLk o3 (xs := []) (el_lst ea_nil (Nat.zero_le _)) (ev_var rfl) F.cD F.nD4 pl3 fun bl H4 fbl nbl o4 hbl e4 => ?_
  refine s_o2 o4 (y := .bl false) ev_c (ev_var rfl) F.cD F.nD5 pl4 fun H5 o5 e5 => ?_
  have e35 : ExO x G2 H5 := (e3.trans e4).trans e5
  refine q sc kd st jp bl s H5 hsc0 hkd0 fst fjp fbl o5.1 ⟨⟨dx, by rw [← dfs_put]; exact o5.2⟩, ⟨sdx, e35 _ _ nsc hsc2⟩, e35 _ _ nkd hkd2, e35 _ _ nst hst2, (e4.trans e5) _ _ njp hjp, e5 _ _ nbl hbl⟩ ?_
  obtain ⟨sdx, nw, ua, qq, v, k1, k2, k3, k4⟩ := hs2
  have ne : s ≠ x := fun w => by
    rw [w, o2.2] at k1
    have := Option.some.inj k1
    injection this with _ _ w3
    exact absurd (congrArg List.length w3) (by have := @pk2 "scope" "steps" (.ref sc) (.ref st); intro w; rw [w] at this; exact absurd this (by show ¬ 6 ≤ 2; decide))
  exact ⟨sdx, nw, ua, qq, v, e35 _ _ ne k1, exO_t e35 o2.2 k2, UsesAt.exO k3 e35 o2.2, exO_t e35 o2.2 k4⟩
end K33
namespace Hm
open PySem PySem.Spec PyProof.Rows L2 Evl TL
/-! ### walks over new lists -/
section
variable {K : PySem.W.Frag} {σ : L2.St} {H : Hp} {D : Ends} {tz tu : TS} {tl te : TE}
theorem q_forEn {p : Addr} {xs : List V} {j1 j2 : Nat} (h : Ev tl σ H (.ref p)) (hx : SqL K H p xs) (Pv : Nat → L2.St → Hp → Prop) (h0 : ∀ H1, Ex H H1 → Pv 0 σ H1) (hl : ∀ i σ' H', i ≤ xs.length → Pv i σ' H' → SqL K H' p xs)
    (hs : ∀ i σ' H' x, xs[i]? = some x → Pv i σ' H' → ∀ H2, Ex H' H2 → tu { D with nx := Pv (i + 1), ct := Pv (i + 1), bk := tz D } ((σ'.set j1 (some (vi i))).set j2 (some x)) H2) (hd : ∀ σ' H', Pv xs.length σ' H' → tz D σ' H') :
    tSeq (tFor (iEnum K (tCons tl tNil)) (gTup K 2 (gCons (gName j1) (gCons (gName j2) gNil))) tu) tz D σ H :=
  h H (Ex.refl H) _ fun H1 e1 => ⟨p, xs, rfl, ex_l e1 hx, for_it (walk_enum (xs := xs)) Pv (h0 H1 e1) (fun i σ' H' hi q => hl i σ' H' hi q) (fun i x σ' H2 H3 hi q y => by
    obtain ⟨T, x1, x2, rfl, hT, rfl, e2, e3⟩ := y
    have e2 : vi i = x1 := Option.some.inj e2
    have e3 : xs[i]? = some x2 := e3
    subst e2
    exact ⟨T, [vi i, x2], rfl, .inl (.inl upd_same), rfl, vi i, [x2], rfl, x2, [], rfl, rfl, hs i σ' H2 x2 e3 q _ (Ex.new hT)⟩) hd⟩
theorem q_enN {xs : List V} {g : TG} (h : EvL tl σ H xs) (k : ∀ p H1, H p = none → Ex H H1 → H1 p = some (.lst xs) → tSeq (tFor (iEnum K (tCons (tC (.ref p)) tNil)) g tu) tz D σ H1) : tSeq (tFor (iEnum K (tCons tl tNil)) g tu) tz D σ H :=
  h H (Ex.refl H) _ fun p H1 hp e1 h1 => k p H1 hp e1 h1
theorem el_lcLL {xss : List (List Nat)} {j : Nat} {vs : List Nat} (v : Nat → V) (h : EvLL tl σ H xss) (hz : xss.length ≤ 40000) (hw : ∀ x, wipe ((wipe σ vs).set j (some x)) vs = wipe σ vs)
    (he : ∀ (i : Nat) (hi : i < xss.length) a H1, Ex H H1 → H1 a = some (.lst (L (xss[i]'hi))) → Ev te ((wipe σ vs).set j (some (.ref a))) H1 (v i)) : EvL (tLc (iList K tl) (gName j) tYes te vs) σ H ((List.range xss.length).map v) := fun H1 e Q q =>
  h H1 e _ fun p H2 hp e2 hl => by
    obtain ⟨as, hps, la, hfr⟩ := hl
    have hlen : as.length = xss.length := Paired.length la
    have := el_lcL (K := K) (σ := σ) (H := H2) (j := j) (vs := vs) (tl := tC (.ref p)) (t := tYes) (te := te) (a := p) (xs := as.map V.ref) (fun _ => true) v ev_c (sq_of hps) (by rw [List.length_map]; omega) hw (fun i x H3 _ _ => et_yes) (fun i x H3 e3 hx _ => by
      rw [List.getElem?_map] at hx
      cases ea : as[i]? with
      | none =>
        rw [ea] at hx
        cases hx
      | some a =>
        rw [ea] at hx
        have hx : V.ref a = x := Option.some.inj hx
        subst hx
        have hi : i < xss.length := by
          have := (List.getElem?_eq_some_iff.mp ea).1
          omega
        refine he i hi a H3 ((e.trans e2).trans e3) (e3 _ _ ?_)
        have key : ∀ {as : List Addr} {xss : List (List Nat)}, LA H2 as xss → ∀ (i : Nat) (h : i < xss.length) (a : Addr), as[i]? = some a → H2 a = some (.lst (L (xss[i]'h))) := by
          intro as xss la
          induction la with
          | nil => intro i h; exact absurd h (Nat.not_lt_zero _)
          | @cons a x as xs r q ih =>
            intro i h b hb
            cases i with
            | zero =>
              cases hb
              exact r
            | succ i => exact ih i (Nat.lt_of_succ_lt_succ h) b hb
        exact key la i hi a ea)
    rw [given_all, List.length_map, hlen] at this
    exact this H2 (Ex.refl H2) Q fun p' H3 hp' e3 h3 => q p' H3 (fresh_back e2 hp') (e2.trans e3) h3
end
theorem range_map_get {α β : Type} (l : List α) (f : α → β) (v : Nat → β) (h : ∀ (i : Nat) (hi : i < l.length), v i = f (l[i]'hi)) : (List.range l.length).map v = l.map f := by
  refine List.ext_getElem? fun j => ?_
  rw [List.getElem?_map, List.getElem?_map]
  by_cases hj : j < l.length
  · rw [List.getElem?_range hj, List.getElem?_eq_getElem hj]
    show some (v j) = some _
    rw [h j hj]
  · rw [List.getElem?_eq_none (by rw [List.length_range]; omega), List.getElem?_eq_none (by omega)]
    rfl
/-! ### the text of a mesh -/
def sp_BadLineinit := spNI "BadLine" "line"
abbrev nm_BadLineinit : List Str := ["self", "line", "__class__"]
abbrev pr_BadLineinit : List Str := ["self", "line"]
def a_BadLineinit (K : PySem.W.Frag) : TA := (tCons (tFs [(tC (.str "line ")), (tFmt (tVar 1)), (tC (.str " is wrong"))]) tNil)
def t_BadLineinit (K : PySem.W.Frag) : TS :=
  (tOst K "line" (tVar 0) (tVar 1))
theorem ln_BadLineinit {K : PySem.W.Frag} (vs : List V) (H : Hp) (Q : VK) (E : XK) (h : sp_BadLineinit K vs H Q E) : vs.length = pr_BadLineinit.length := by
  obtain ⟨_, _, rfl, _⟩ := h
  rfl
theorem go_BadLine {K : PySem.W.Frag} (T : OexC K (He.ga K "BadLine")) (hno : NoAttr K (He.ga K "BadLine") "line") (vs : List V) (H : Hp) (Q : VK) (E : XK) (h : sp_BadLineinit K vs H Q E) : GoE (He.ga K "BadLine") ["self", "line", "__class__"] (a_BadLineinit K) (t_BadLineinit K) vs H Q := by
  obtain ⟨x, i, rfl, hx, hi, k⟩ := h
  refine ⟨x, rfl, hx, sup_arg (x := x) (σ := [some (.ref x), some (.int i), none]) (fC (by decide) (fI rfl hi (fC (by decide) .nil))) (by decide) hx fun H1 e1 => ?_⟩
  exact s_ost1 (x := x) (y := .int i) T hno rfl (ExO.of e1) (e1 _ _ hx) (ev_var rfl) fun H' e r _ => k H' e r
/-- ' '.join([str(x) for x in a]) -/
theorem ev_line {K : PySem.W.Frag} {σ : L2.St} {H : Hp} {tl : TE} {j : Nat} {vs : List Nat} {a : Addr} {ns : List Nat} (h : Ev tl σ H (.ref a)) (hS : SqL K H a (L ns)) (hl : ns.length ≤ 1000) (hb : ∀ n ∈ ns, n < 10000) (hw : ∀ x, wipe ((wipe σ vs).set j (some x)) vs = wipe σ vs) (hj : ∀ x, ((wipe σ vs).set j (some x))[j]? = some (some x)) :
    Ev (tM1 (rJoin K) (tC (.str " ")) (tLc (iList K tl) (gName j) tYes (tCB cStr (tCons (tVar j) tNil)) vs)) σ H (.str (lineOf ns)) := by
  have := el_lcL (K := K) (σ := σ) (H := H) (j := j) (vs := vs) (tl := tl) (t := tYes) (te := tCB cStr (tCons (tVar j) tNil)) (fun _ => true) (fun i => V.str (num (fn ns i))) h hS (by rw [L_len]; omega) hw (fun i x H1 _ _ => et_yes) (fun i x H1 _ hx _ => by
    obtain ⟨q1, rfl⟩ := L_item hx
    have hn : fn ns i < 10000 := hb _ (fn_mem q1)
    exact ev_cb (ea_1 (ev_var (hj _))) (rc_str (by
      have h1 : ((fn ns i : Nat) : Int).natAbs = fn ns i := Int.natAbs_natCast _
      rw [h1]
      by_cases h0 : fn ns i = 0
      · rw [h0]; decide
      · have := (Nat.log2_lt (k := 14) h0).mpr (by have : (2 : Nat) ^ 14 = 16384 := by decide
                                                   omega)
        omega)))
  rw [given_all, L_len, range_map_get ns (fun n => V.str (num n)) _ (fun i hi => by
    show V.str (num (fn ns i)) = _
    have h3 := fn_get hi
    rw [List.getElem?_eq_getElem hi] at h3
    rw [Option.some.inj h3])] at this
  have e : ns.map (fun n => V.str (num n)) = (ns.map num).map V.str := by rw [List.map_map]; rfl
  rw [e] at this
  refine ev_joinL ev_c this ?_
  have := sum_len (ws := ns.map num) (B := 4) fun w hw => by
    obtain ⟨n, hn, rfl⟩ := List.mem_map.mp hw
    exact num_len (hb n hn)
  rw [List.length_map] at this ⊢
  have h1 : (" " : Str).length = 1 := rfl
  rw [h1]
  omega
theorem cyc_small {ns : List Nat} (hM : MP ns) {b : Bool} {f : List Nat} (h : f ∈ cyc ns b) : f.length ≤ 1000 ∧ ∀ n ∈ f, n < 10000 := by
  have hP := pf_stp hM.p hM.two b
  unfold cyc cycs at h
  obtain ⟨s, hs, rfl⟩ := List.mem_map.mp h
  have hs := List.mem_range.mp (List.mem_filter.mp hs).1
  have hl := hM.len
  refine ⟨?_, fun n hn => ?_⟩
  · rw [rnd_length]
    have := (per_spec hP hs).2.1
    omega
  · have := rnd_lt hP hs hn
    omega
def sp_Meshtext (K : PySem.W.Frag) : Sp := fun vs H Q _ => ∃ (x : Addr) (ns : List Nat), vs = [.ref x] ∧ MeshAt K H x ns ∧ MP ns ∧ ∀ H', Ex H H' → Q (.str (textOf (cyc ns true))) H'
abbrev nm_Meshtext : List Str := ["self", "face", "half"]
abbrev pr_Meshtext : List Str := ["self"]
def t_Meshtext (K : PySem.W.Frag) : TS :=
  (tRet (tM1 (rJoin K) (tC (.str "\n")) (tLc (iList K (tMeth (He.ga K "Mesh") "faces" (sp_Meshfaces K) [] E0 (tVar 0) tNil)) (gName 1) tYes (tM1 (rJoin K) (tC (.str " ")) (tLc (iList K (tVar 1)) (gName 2) tYes (tCB cStr (tCons (tVar 2) tNil)) [2])) [1])))
abbrev Wt_Meshtext (K : PySem.W.Frag) (vs : List V) (H : Hp) (Q : VK) : Prop := t_Meshtext K { nx := fun _ H' => Q .non H', rt := Q } (start nm_Meshtext vs) H
theorem ln_Meshtext {K : PySem.W.Frag} (vs : List V) (H : Hp) (Q : VK) (E : XK) (h : sp_Meshtext K vs H Q E) : vs.length = pr_Meshtext.length := by
  obtain ⟨_, _, rfl, _⟩ := h
  rfl
theorem text_size {gs : List (List Nat)} (h : gs.length ≤ 1000) (h2 : ∀ g ∈ gs, g.length ≤ 1000 ∧ ∀ n ∈ g, n < 10000) : ((gs.map lineOf).map (·.length)).sum + (gs.map lineOf).length * nl.length ≤ 16777216 := by
  have := sum_len (ws := gs.map lineOf) (B := 5000) fun w hw => by
    obtain ⟨g, hg, rfl⟩ := List.mem_map.mp hw
    have h3 := line_len (h2 g hg).2
    have := (h2 g hg).1
    omega
  rw [List.length_map] at this ⊢
  have h1 : nl.length = 1 := rfl
  rw [h1]
  omega
theorem rd_Meshtext {K : PySem.W.Frag} (F : KF K) (vs : List V) (H : Hp) (Q : VK) (E : XK) (h : sp_Meshtext K vs H Q E) : Wt_Meshtext K vs H Q := by
  obtain ⟨x, ns, rfl, m, hM, k⟩ := h
  show t_Meshtext K _ [some (.ref x), none, none] H
  have hc := el_lcLL (K := K) (σ := [some (.ref x), none, none]) (H := H) (tl := tMeth (He.ga K "Mesh") "faces" (sp_Meshfaces K) [] E0 (tVar 0) tNil) (j := 1) (vs := [1]) (te := tM1 (rJoin K) (tC (.str " ")) (tLc (iList K (tVar 1)) (gName 2) tYes (tCB cStr (tCons (tVar 2) tNil)) [2])) (fun i => V.str (lineOf ((cyc ns true).getD i []))) (ell_mm m (ev_var rfl) (by decide +kernel) ea_nil (spll_faces m hM)) (by have := cyc_len hM true; omega) (fun _ => rfl) (fun i hi a H1 e1 ha => by
    have hg := cyc_small hM (List.getElem_mem hi)
    have := ev_line (K := K) (σ := [some (.ref x), some (.ref a), none]) (j := 2) (vs := [2]) (tl := tVar 1) (ev_var rfl) (sq_of ha) hg.1 hg.2 (fun _ => rfl) (fun _ => rfl)
    rw [show (cyc ns true).getD i [] = (cyc ns true)[i]'hi from by rw [List.getD_eq_getElem?_getD, List.getElem?_eq_getElem hi]; rfl]
    exact this)
  rw [range_map_get (cyc ns true) (fun g => V.str (lineOf g)) _ (fun i hi => by
    rw [List.getD_eq_getElem?_getD, List.getElem?_eq_getElem hi]
    rfl)] at hc
  have e : (cyc ns true).map (fun g => V.str (lineOf g)) = ((cyc ns true).map lineOf).map V.str := by rw [List.map_map]; rfl
  rw [e] at hc
  exact s_ret (ev_joinL ev_c hc (text_size (cyc_len hM true) fun g hg => cyc_small hM hg)) (fun H1 e1 => k H1 e1)
def sp_isnumber (K : PySem.W.Frag) : Sp := fun vs H Q _ => ∃ w : Str, vs = [.str w] ∧ w.length ≤ 100000 ∧ ∀ H', Ex H H' → Q (.bl (numB w)) H'
abbrev nm_isnumber : List Str := ["word"]
abbrev pr_isnumber : List Str := ["word"]
def t_isnumber (K : PySem.W.Frag) : TS :=
  (tSeq (tIfS (tOr (tNot (tB (tM0 rIsascii (tVar 0)))) (tOr (tNot (tB (tM0 rIsdigit (tVar 0)))) (tTest (tOp zGt (tCB cLenS (tCons (tVar 0) tNil)) (tC (.int 4)))))) (tRet (tC (.bl false))) tNext)
  (tRet (tOrV (tOp rEq (tVar 0) (tC (.str "0"))) (tNotV (tM1 rStarts (tVar 0) (tC (.str "0")))))))
abbrev Wt_isnumber (K : PySem.W.Frag) (vs : List V) (H : Hp) (Q : VK) : Prop := t_isnumber K { nx := fun _ H' => Q .non H', rt := Q } (start nm_isnumber vs) H
theorem ln_isnumber {K : PySem.W.Frag} (vs : List V) (H : Hp) (Q : VK) (E : XK) (h : sp_isnumber K vs H Q E) : vs.length = pr_isnumber.length := by
  obtain ⟨_, rfl, _⟩ := h
  rfl
theorem rd_isnumber {K : PySem.W.Frag} (F : KF K) (vs : List V) (H : Hp) (Q : VK) (E : XK) (h : sp_isnumber K vs H Q E) : Wt_isnumber K vs H Q := by
  obtain ⟨w, rfl, hw, k⟩ := h
  show t_isnumber K _ [some (.str w)] H
  refine q_when (et_or (et_not (et_B (ev_isascii (ev_var rfl)))) (fun _ => et_or (et_not (et_B (ev_isdigit (ev_var rfl)))) (fun _ => et_is (et_test (ev_op (ev_cb (ea_1 (ev_var rfl)) (rc_lenS hw)) ev_c rv_I0)) (show _ = decide (4 < w.length) from decide_eq_decide.mpr (by omega))))) (fun hb H1 e1 => ?_) (fun hb H1 e1 => ?_)
  · refine s_ret ev_c (fun H2 e2 => ?_)
    have : numB w = false := by
      unfold numB
      rw [if_pos]
      simpa using hb
    rw [← this]
    exact k H2 (e1.trans e2)
  · refine s_ret (ev_orV (ev_op (ev_var rfl) ev_c (rv_eq rfl)) (fun _ => ev_notV (ev_starts (ev_var rfl) ev_c))) (fun H2 e2 => ?_)
    have : numB w = (decide (V.str w = V.str "0") || !(Txt.startswith w "0")) := by
      unfold numB
      rw [if_neg (by rw [Bool.not_eq_true]; simpa using hb)]
      congr 1
      exact decide_eq_decide.mpr ⟨fun q => by rw [q], fun q => V.str.inj q⟩
    rw [← this]
    exact k H2 (e1.trans e2)
theorem spv_isnumber {K : PySem.W.Frag} {H : Hp} {w : Str} (hw : w.length ≤ 100000) : SpV (sp_isnumber K) [.str w] H (.bl (numB w)) := fun H1 _ Q q E => ⟨w, rfl, hw, q⟩
end Hm
namespace Hm
open PySem PySem.Spec PyProof.Rows L2 Evl TL
theorem LA.at {H : Hp} {as : List Addr} {xss : List (List Nat)} (la : LA H as xss) : ∀ (i : Nat) (h : i < xss.length), ∃ a, as[i]? = some a ∧ H a = some (.lst (L (xss[i]'h))) := by
  induction la with
  | nil => intro i h; exact absurd h (Nat.not_lt_zero _)
  | @cons a x as xs r q ih =>
    intro i h
    cases i with
    | zero => exact ⟨a, rfl, r⟩
    | succ i => exact ih i (Nat.lt_of_succ_lt_succ h)
theorem LA.len {H : Hp} {as : List Addr} {xss : List (List Nat)} (la : LA H as xss) : as.length = xss.length := Paired.length la
theorem L_take_succ {g : List Nat} {j : Nat} (h : j < g.length) : L (g.take j) ++ [vi (g[j]'h)] = L (g.take (j + 1)) := by
  rw [List.take_succ_eq_append_getElem h, L_app]
  rfl
theorem flat_succ {gs : List (List Nat)} {i : Nat} (h : i < gs.length) : (gs.take (i + 1)).flatten = (gs.take i).flatten ++ gs[i]'h := by
  rw [List.take_succ_eq_append_getElem h, List.flatten_append]
  simp
theorem yes_go {σ : L2.St} {H : Hp} {A B : Hp → Prop} (a : A H) : tYes σ H (fun b H3 => if b = true then A H3 else B H3) := by
  show (if true = true then A H else B H)
  rw [if_pos rfl]
  exact a
section
variable {K : PySem.W.Frag} {σ : L2.St} {H : Hp} {tl : TE}
theorem el_flat {p : Addr} {gs : List (List Nat)} {j1 j2 : Nat} {vs : List Nat} (h : Ev tl σ H (.ref p)) (hL : LL H p gs) (hz : gs.flatten.length ≤ 90000) (hw1 : ∀ x, wipe ((wipe σ vs).set j1 (some x)) vs = wipe σ vs) (hj1 : ∀ x, ((wipe σ vs).set j1 (some x))[j1]? = some (some x))
    (hw2 : ∀ x y, wipe ((wipe ((wipe σ vs).set j1 (some x)) [j2]).set j2 (some y)) [j2] = wipe ((wipe σ vs).set j1 (some x)) [j2]) (hj2 : ∀ x y, ((wipe ((wipe σ vs).set j1 (some x)) [j2]).set j2 (some y))[j2]? = some (some y)) :
    EvL (tLc2 (iList K tl) (gName j1) tYes (iList K (tVar j1)) (gName j2) tYes (tVar j2) vs [j2]) σ H (L gs.flatten) := fun H0 e0 Q q => h H0 e0 _ fun H1 e1 => by
  obtain ⟨as, hps, la⟩ := hL.ex (e0.trans e1)
  have hlen := la.len
  refine ⟨p, rfl, ⟨_, sq_of hps⟩, fun D hD => ⟨fun i m H' => m = gs.length - i ∧ i ≤ gs.length ∧ H' D = some (.lst (L (gs.take i).flatten)) ∧ Ex H1 H', ⟨gs.length, by simp, Nat.zero_le _, by rw [upd_same]; rfl, Ex.new hD⟩, ?_⟩⟩
  rintro i m H2 ⟨rfl, hi, hd, ex⟩
  by_cases hlt : i < gs.length
  · obtain ⟨a, ha, hga⟩ := la.at i hlt
    have hpi : (as.map V.ref)[i]? = some (.ref a) := by rw [List.getElem?_map, ha]; rfl
    refine .inr ⟨⟨_, .ref a, ex_l ex (sq_of hps), hpi⟩, fun H' => i + 1 ≤ gs.length ∧ H' D = some (.lst (L (gs.take (i + 1)).flatten)) ∧ Ex H1 H', fun H' z => ⟨gs.length - (i + 1), by omega, rfl, z⟩, fun x H3 y => ?_⟩
    obtain ⟨rfl, y⟩ := y
    have ex' : x = .ref a := by
      have := y _ (ex_l ex (sq_of hps))
      rw [hpi] at this
      exact (Option.some.inj this).symm
    subst ex'
    refine ⟨hw1 _, ?_⟩
    refine yes_go ?_
    have hzi : (gs.take i).flatten.length + (gs[i]'hlt).length ≤ 90000 := by
      have h1 : (gs.take (i + 1)).flatten.length ≤ gs.flatten.length := by
        have h2 : gs.flatten = (gs.take (i + 1)).flatten ++ (gs.drop (i + 1)).flatten := by rw [← List.flatten_append, List.take_append_drop]
        rw [h2, List.length_append]
        omega
      rw [flat_succ hlt, List.length_append] at h1
      omega
    refine ⟨.ref a, hj1 _, a, rfl, ⟨_, sq_of (ex _ _ hga)⟩, ?_⟩
    refine ⟨fun j k H' => k = (gs[i]'hlt).length - j ∧ j ≤ (gs[i]'hlt).length ∧ H' D = some (.lst (L ((gs.take i).flatten ++ (gs[i]'hlt).take j))) ∧ Ex H1 H', ⟨(gs[i]'hlt).length, by simp, Nat.zero_le _, by rw [hd]; simp, ex⟩, ?_⟩
    rintro j k H4 ⟨rfl, hj, hd4, ex4⟩
    by_cases hjl : j < (gs[i]'hlt).length
    · have hgj : (L (gs[i]'hlt))[j]? = some (vi ((gs[i]'hlt)[j]'hjl)) := by
        unfold L
        rw [List.getElem?_map, List.getElem?_eq_getElem hjl]
        rfl
      refine .inr ⟨⟨_, _, sq_of (ex4 _ _ hga), hgj⟩, fun H' => j + 1 ≤ (gs[i]'hlt).length ∧ H' D = some (.lst (L ((gs.take i).flatten ++ (gs[i]'hlt).take (j + 1)))) ∧ Ex H1 H', fun H' z => ⟨(gs[i]'hlt).length - (j + 1), by omega, rfl, z⟩, fun x H5 y => ?_⟩
      obtain ⟨rfl, y⟩ := y
      have ey : x = vi ((gs[i]'hlt)[j]'hjl) := by
        have := y _ (sq_of (ex4 _ _ hga))
        rw [hgj] at this
        exact (Option.some.inj this).symm
      subst ey
      refine ⟨hw2 _ _, ?_⟩
      refine yes_go ?_
      refine ⟨_, hj2 _ _, _, hd4, sz_lt (by rw [L_len, List.length_append, List.length_take]; omega), hjl, ?_, Ex.mut ex4 hD⟩
      rw [upd_same, L_app, List.append_assoc, L_take_succ hjl, ← L_app]
    · have ej : j = (gs[i]'hlt).length := by omega
      subst ej
      refine .inl ⟨⟨_, sq_of (ex4 _ _ hga), by rw [L_len]; exact Nat.le_refl _⟩, hlt, ?_, ex4⟩
      rw [hd4, List.take_length, flat_succ hlt]
  · have ei : i = gs.length := by omega
    subst ei
    refine .inl ⟨⟨_, ex_l ex (sq_of hps), by rw [List.length_map, hlen]; exact Nat.le_refl _⟩, ?_⟩
    rw [List.take_length] at hd
    exact q D H2 (fresh_back e1 hD) (e1.trans ex) hd
end
/-! ### reading the faces -/
def GoodG (g : List Nat) : Prop := g ≠ [] ∧ g.length ≤ 1000 ∧ ∀ n ∈ g, n < 10000
def lineP (gs : List (List Nat)) (rest : List Str) : List Str := gs.map lineOf ++ rest
def FacesIn (text : Str) (gs : List (List Nat)) (rest : List Str) : Prop := text = jn nl (lineP gs rest) ∧ lineP gs rest ≠ [] ∧ text.length ≤ 90000 ∧ (∀ g ∈ gs, GoodG g) ∧ gs.length ≤ 1000 ∧ (∀ l ∈ rest, 10 ∉ tl l) ∧ (∀ y r, rest = y :: r → BadL y)
theorem FacesIn.split {text : Str} {gs : List (List Nat)} {rest : List Str} (h : FacesIn text gs rest) : Txt.split text nl = lineP gs rest := by
  obtain ⟨rfl, h1, _, _, _, h2, _⟩ := h
  refine jn_split tl_nl (by decide +kernel) h1 fun w hw => ?_
  unfold lineP at hw
  rcases List.mem_append.mp hw with hw | hw
  · obtain ⟨g, _, rfl⟩ := List.mem_map.mp hw
    exact line_free g
  · exact h2 w hw
def sp_readfaces (K : PySem.W.Frag) : Sp := fun vs H Q E => ∃ (text : Str) (gs : List (List Nat)) (rest : List Str), vs = [.str text] ∧ FacesIn text gs rest ∧
  (rest = [] → ∀ p H', H p = none → Ex H H' → LLn H H' p gs → Q (.ref p) H') ∧ (rest ≠ [] → ∀ H' d, Ex H H' → H d = none → H' d = some (.xd [("line", .int ((gs.length + 1 : Nat) : Int))]) → E (.ref (He.ga K "BadLine")) (some d) H')
abbrev nm_readfaces : List Str := ["text", "faces", "at", "line", "words", "word"]
abbrev pr_readfaces : List Str := ["text"]
def t_readfaces (K : PySem.W.Frag) (E : XK) : TS :=
  (tSeq (tAsg (tLst tNil) (gName 1))
  (tSeq (tFor (iEnum K (tCons (tM1 rSplit (tVar 0) (tC (.str "\n"))) tNil)) (gTup K 2 (gCons (gName 2) (gCons (gName 3) gNil))) (tSeq (tAsg (tM1 rSplit (tVar 3) (tC (.str " "))) (gName 4))
      (tSeq (tIfS (tNot (tB (tCB (rAll K) (tCons (tLc (iList K (tVar 4)) (gName 5) tYes (tCall (sp_isnumber K) [] E0 (tCons (tVar 5) tNil)) [5]) tNil)))) (tRzO (He.ga K "BadLine") (sp_BadLineinit K) (tCons (tOp zAdd (tVar 2) (tC (.int 1))) tNil) E) tNext)
      (tDrop (tBM K "list" rAppend (tVar 1) (tCons (tLc (iList K (tVar 4)) (gName 5) tYes (tCB cIntS (tCons (tVar 5) tNil)) [5]) tNil))))))
  (tRet (tVar 1))))
abbrev Wt_readfaces (K : PySem.W.Frag) (vs : List V) (H : Hp) (Q : VK) (E : XK) : Prop := t_readfaces K E { nx := fun _ H' => Q .non H', rt := Q } (start nm_readfaces vs) H
theorem ln_readfaces {K : PySem.W.Frag} (vs : List V) (H : Hp) (Q : VK) (E : XK) (h : sp_readfaces K vs H Q E) : vs.length = pr_readfaces.length := by
  obtain ⟨_, _, _, rfl, _⟩ := h
  rfl
theorem el_words {K : PySem.W.Frag} {σ : L2.St} {H : Hp} {p : Addr} {ws : List Str} {ti : Nat} {j : Nat} {vs : List Nat} (hv : σ[ti]? = some (some (.ref p))) (h : H p = some (.lst (ws.map V.str))) (hl : ws.length ≤ 40000) (hb : ∀ w ∈ ws, w.length ≤ 100000) (hw : ∀ x, wipe ((wipe σ vs).set j (some x)) vs = wipe σ vs) (hj : ∀ x, ((wipe σ vs).set j (some x))[j]? = some (some x)) :
    EvL (tLc (iList K (tVar ti)) (gName j) tYes (tCall (sp_isnumber K) [] E0 (tCons (tVar j) tNil)) vs) σ H ((ws.map numB).map V.bl) := by
  have := el_lcL (K := K) (σ := σ) (H := H) (j := j) (vs := vs) (tl := tVar ti) (t := tYes) (te := tCall (sp_isnumber K) [] E0 (tCons (tVar j) tNil)) (fun _ => true) (fun i => V.bl (numB (ws.getD i ""))) (ev_var hv) (sq_of h) (by rw [List.length_map]; exact hl) hw (fun i x H1 _ _ => et_yes) (fun i x H1 _ hx _ => by
    rw [List.getElem?_map] at hx
    cases ew : ws[i]? with
    | none =>
      rw [ew] at hx
      cases hx
    | some w =>
      rw [ew] at hx
      have hx : V.str w = x := Option.some.inj hx
      subst hx
      rw [show ws.getD i "" = w from by rw [List.getD_eq_getElem?_getD, ew]; rfl]
      exact ev_call (ea_1 (ev_var (hj _))) (spv_isnumber (hb w (List.mem_of_getElem? ew))))
  rw [given_all, List.length_map, range_map_get ws (fun w => V.bl (numB w)) _ (fun i hi => by rw [List.getD_eq_getElem?_getD, List.getElem?_eq_getElem hi]; rfl)] at this
  rw [List.map_map]
  exact this
theorem el_ints {K : PySem.W.Frag} {σ : L2.St} {H : Hp} {p : Addr} {g : List Nat} {ti : Nat} {j : Nat} {vs : List Nat} (hv : σ[ti]? = some (some (.ref p))) (h : H p = some (.lst ((g.map num).map V.str))) (hg : GoodG g) (hw : ∀ x, wipe ((wipe σ vs).set j (some x)) vs = wipe σ vs) (hj : ∀ x, ((wipe σ vs).set j (some x))[j]? = some (some x)) :
    EvL (tLc (iList K (tVar ti)) (gName j) tYes (tCB cIntS (tCons (tVar j) tNil)) vs) σ H (L g) := by
  have := el_lcL (K := K) (σ := σ) (H := H) (j := j) (vs := vs) (tl := tVar ti) (t := tYes) (te := tCB cIntS (tCons (tVar j) tNil)) (fun _ => true) (fun i => vi (g.getD i 0)) (ev_var hv) (sq_of h) (by rw [List.length_map, List.length_map]; have := hg.2.1; omega) hw (fun i x H1 _ _ => et_yes) (fun i x H1 _ hx _ => by
    rw [List.getElem?_map, List.getElem?_map] at hx
    cases ew : g[i]? with
    | none =>
      rw [ew] at hx
      cases hx
    | some n =>
      rw [ew] at hx
      have hx : V.str (num n) = x := Option.some.inj hx
      subst hx
      rw [show g.getD i 0 = n from by rw [List.getD_eq_getElem?_getD, ew]; rfl]
      have hn := hg.2.2 n (List.mem_of_getElem? ew)
      exact ev_cb (ea_1 (ev_var (hj _))) (rc_intS (int_of_num hn) (by have := num_len hn; omega)))
  rw [given_all, List.length_map, List.length_map, range_map_get g vi _ (fun i hi => by rw [List.getD_eq_getElem?_getD, List.getElem?_eq_getElem hi]; rfl)] at this
  exact this
theorem all_num {g : List Nat} (hg : GoodG g) : ((g.map num).map numB).all id = true := by
  rw [List.all_eq_true]
  intro b hb
  obtain ⟨w, hw, rfl⟩ := List.mem_map.mp hb
  obtain ⟨n, hn, rfl⟩ := List.mem_map.mp hw
  exact numB_num (hg.2.2 n hn)
theorem not_all {ws : List Str} (h : ∃ w ∈ ws, numB w = false) : (ws.map numB).all id = false := by
  obtain ⟨w, hw, h⟩ := h
  rw [Bool.eq_false_iff]
  intro q
  have := List.all_eq_true.mp q _ (List.mem_map.mpr ⟨w, hw, rfl⟩)
  rw [h] at this
  cases this
theorem rd_readfaces {K : PySem.W.Frag} (vs : List V) (H : Hp) (Q : VK) (E : XK) (h : sp_readfaces K vs H Q E) : Wt_readfaces K vs H Q E := by
  obtain ⟨text, gs, rest, rfl, hF, kq, ke⟩ := h
  have hsp := hF.split
  obtain ⟨-, hne, hz, hg, hgl, hfr, hbad⟩ := id hF
  show t_readfaces K E _ [some (.str text), none, none, none, none, none] H
  refine q_asgL (el_lst ea_nil (Nat.zero_le _)) (fun p0 H1 hp0 e1 h1 => ?_)
  refine q_enN (xs := (lineP gs rest).map V.str) (by have := el_split (σ := [some (.str text), some (.ref p0), none, none, none, none]) (H := H1) (ta := tVar 0) (tb := tC (.str "\n")) (a := text) (b := "\n") (ev_var rfl) ev_c (by decide +kernel) hz; rw [hsp] at this; exact this) (fun pl H2 hpl e2 h2 => ?_)
  have hp02 : H1 p0 = some (.lst []) := h1
  refine q_forEn ev_c (sq_of h2) (fun i σ' H' => ∃ (as : List Addr) (v2 v3 v4 : Option V), σ' = [some (.str text), some (.ref p0), v2, v3, v4, none] ∧ i ≤ gs.length ∧ H' p0 = some (.lst (as.map V.ref)) ∧ LA H' as (gs.take i) ∧ (∀ a ∈ as, H a = none ∧ a ≠ p0) ∧ Ex H H' ∧ H' pl = some (.lst ((lineP gs rest).map V.str)))
    (fun H' e => ⟨[], _, _, _, rfl, Nat.zero_le _, e _ _ (e2 _ _ h1), .nil, (fun a ha => nomatch ha), (e1.trans e2).trans e, e _ _ h2⟩) (fun i σ' H' _ q => by
      obtain ⟨as, v2, v3, v4, rfl, _, _, _, _, _, q⟩ := q
      exact sq_of q) ?_ ?_
  · rintro i σ' H' x hx ⟨as, v2, v3, v4, rfl, hi, ha, hla, hfa, ex, hpl'⟩ H3 e3
    rw [List.getElem?_map] at hx
    have hlen : as.length = i := by
      have := hla.len
      rw [List.length_take] at this
      omega
    by_cases hlt : i < gs.length
    · have hline : (lineP gs rest)[i]? = some (lineOf (gs[i]'hlt)) := by
        unfold lineP
        rw [List.getElem?_append_left (by rw [List.length_map]; exact hlt), List.getElem?_map, List.getElem?_eq_getElem hlt]
        rfl
      rw [hline] at hx
      have hx : V.str (lineOf (gs[i]'hlt)) = x := Option.some.inj hx
      subst hx
      have hgi := hg _ (List.getElem_mem hlt)
      refine q_asgL (xs := ((gs[i]'hlt).map num).map V.str) (by
        have := el_split (σ := [some (.str text), some (.ref p0), some (vi i), some (.str (lineOf (gs[i]'hlt))), v4, none]) (H := H3) (ta := tVar 3) (tb := tC (.str " ")) (a := lineOf (gs[i]'hlt)) (b := " ") (ev_var rfl) ev_c (by decide +kernel) (by have := line_len hgi.2.2; have := hgi.2.1; omega)
        rw [show Txt.split (lineOf (gs[i]'hlt)) " " = _ from line_words hgi.1] at this
        exact this) (fun pw H4 hpw e4 h4 => ?_)
      refine q_when (b := !true) (et_not (et_B (ev_cbN (el_words rfl h4 (by rw [List.length_map]; have := hgi.2.1; omega) (fun w hw => by
        obtain ⟨n, hn, rfl⟩ := List.mem_map.mp hw
        have := num_len (hgi.2.2 n hn)
        omega) (fun _ => rfl) (fun _ => rfl)) (fun p H5 hp e5 => by
          have := rc_all (K := K) (sq_of hp)
          rw [all_num hgi] at this
          exact this)))) (fun hb => nomatch hb) (fun _ H5 e5 => ?_)
      have e35 := (e3.trans e4).trans e5
      refine s_appL (xs := as.map V.ref) (e35 _ _ ha) (ev_var rfl) (el_ints rfl (e5 _ _ h4) hgi (fun _ => rfl) (fun _ => rfl)) (by rw [List.length_map]; omega) (fun pn H6 hpn e6 h6 => ?_)
      have hp0n : pn ≠ p0 := (ne_of_none (e35 _ _ ha) hpn).symm
      have hpn0 : H pn = none := fresh_back (ex.trans e35) hpn
      have eall := e35.trans e6
      refine ⟨as ++ [pn], _, _, _, rfl, hlt, by rw [upd_same, List.map_append]; rfl, ?_, ?_, Ex.mut (ex.trans eall) hp0, ?_⟩
      · rw [List.take_succ_eq_append_getElem hlt]
        have hla2 : LA (L2.upd H6 p0 (.lst (as.map V.ref ++ [.ref pn]))) as (gs.take i) := (hla.ex eall).upd fun a ha2 => (hfa a ha2).2
        exact paired_snoc hla2 (by rw [upd_ne hp0n]; exact h6)
      · intro a ha2
        rcases List.mem_append.mp ha2 with ha2 | ha2
        · exact hfa a ha2
        · rw [List.mem_singleton.mp ha2]
          exact ⟨hpn0, hp0n⟩
      · have hplp : pl ≠ p0 := (ne_of_none h1 hpl).symm
        rw [upd_ne hplp]
        exact eall _ _ hpl'
    · have hie : i = gs.length := by omega
      subst hie
      obtain ⟨y, r, hr⟩ : ∃ y r, rest = y :: r := by
        cases hr : rest with
        | nil =>
          unfold lineP at hx
          rw [hr, List.append_nil, List.getElem?_eq_none (by rw [List.length_map]; exact Nat.le_refl _)] at hx
          cases hx
        | cons y r => exact ⟨y, r, rfl⟩
      have hline : (lineP gs rest)[gs.length]? = some y := by
        unfold lineP
        rw [hr, List.getElem?_append_right (by rw [List.length_map]; exact Nat.le_refl _), List.length_map, Nat.sub_self]
        rfl
      rw [hline] at hx
      have hx : V.str y = x := Option.some.inj hx
      subst hx
      have hb := hbad y r hr
      obtain ⟨ws, w1, w2, w3, w4, w5, w6⟩ := id hb
      have hsy : Txt.split y " " = ws := by
        rw [w2]
        exact jn_split tl_spc (by decide +kernel) w1 fun w hw => (w3 w hw).1
      have hyl : y.length ≤ 90000 := by
        have hm : y ∈ lineP gs rest := List.mem_of_getElem? hline
        have h9 : (tl text).length ≤ 90000 := by rw [← len_tl]; exact hz
        rw [hF.1, tl_jn, tl_nl] at h9
        have key : ∀ {l : List (List Nat)} {z : List Nat}, z ∈ l → z.length ≤ (joinL [10] l).length := by
          intro l
          induction l with
          | nil => intro z hz; cases hz
          | cons a t ih =>
            intro z hz
            cases t with
            | nil =>
              rw [List.mem_singleton.mp hz]
              exact Nat.le_refl _
            | cons b t =>
              have hj : joinL [10] (a :: b :: t) = a ++ ([10] ++ joinL [10] (b :: t)) := rfl
              rw [hj, List.length_append, List.length_append]
              rcases List.mem_cons.mp hz with rfl | hz
              · omega
              · have := ih hz
                omega
        have := key (l := (lineP gs rest).map tl) (z := tl y) (List.mem_map.mpr ⟨y, hm, rfl⟩)
        rw [len_tl]
        omega
      refine q_asgL (xs := ws.map V.str) (by
        have := el_split (σ := [some (.str text), some (.ref p0), some (vi gs.length), some (.str y), v4, none]) (H := H3) (ta := tVar 3) (tb := tC (.str " ")) (a := y) (b := " ") (ev_var rfl) ev_c (by decide +kernel) hyl
        rw [hsy] at this
        exact this) (fun pw H4 hpw e4 h4 => ?_)
      refine q_when (b := !false) (et_not (et_B (ev_cbN (el_words rfl h4 (by omega) (fun w hw => by have := w5 w hw; omega) (fun _ => rfl) (fun _ => rfl)) (fun p H5 hp e5 => by
          have := rc_all (K := K) (sq_of hp)
          rw [not_all w4] at this
          exact this)))) (fun _ H5 e5 => ?_) (fun hb => nomatch hb)
      refine rz_I (i := ((gs.length + 1 : Nat) : Int)) (ev_is (ev_op (ev_var rfl) ev_c rv_I0) (by show V.int _ = _; congr 1)) ?_ (fun H6 d e6 hd hd6 => ke (by rw [hr]; exact List.cons_ne_nil _ _) H6 d (((ex.trans e3).trans e4).trans (e5.trans e6)) (fresh_back (((ex.trans e3).trans e4).trans e5) hd) hd6)
      show ((gs.length + 1 : Nat) : Int).natAbs.log2 < 1900
      rw [Int.natAbs_natCast]
      have h11 : (2 : Nat) ^ 11 = 2048 := by decide
      have := (Nat.log2_lt (n := gs.length + 1) (k := 11) (by omega)).mpr (by omega)
      omega
  · rintro σ' H' ⟨as, v2, v3, v4, rfl, hi, ha, hla, hfa, ex, _⟩
    have hr : rest = [] := by
      cases hr : rest with
      | nil => rfl
      | cons y r =>
        rw [List.length_map] at hi
        unfold lineP at hi
        rw [hr, List.length_append, List.length_map] at hi
        simp only [List.length_cons] at hi
        omega
    refine s_ret (ev_var rfl) (fun H2 e2 => kq hr p0 H2 hp0 (ex.trans e2) ⟨as, e2 _ _ ha, ?_, hfa⟩)
    rw [List.length_map] at hla
    unfold lineP at hla
    rw [hr, List.append_nil, List.length_map, List.take_length] at hla
    exact hla.ex e2
end Hm
namespace K33
open PySem PySem.Spec PyProof.Rows L2 Evl TL Hm
/-! ### a line is added -/
theorem rd_BadLineinit {K : PySem.W.Frag} (F : KN K) (vs : List V) (H : Hp) (Q : VK) (E : XK) (h : sp_BadLineinit K vs H Q E) : GoE (He.ga K "BadLine") ["self", "line", "__class__"] (a_BadLineinit K) (t_BadLineinit K) vs H Q := go_BadLine F.oe F.nb vs H Q E h
/-- no tuple -/
structure NT (u : HO) : Prop where
  t : ∀ xs, u ≠ .tup xs
  f : ∀ o w, u ≠ .frz o w
theorem nt_ins {C dx : Addr} {fs : List (Str × V)} : NT (.ins C dx fs) := ⟨(fun _ h => nomatch h), (fun _ _ h => nomatch h)⟩
theorem nt_dk {kvs : List (Key × V)} : NT (.dK kvs) := ⟨(fun _ h => nomatch h), (fun _ _ h => nomatch h)⟩
theorem nt_lst {xs : List V} : NT (.lst xs) := ⟨(fun _ h => nomatch h), (fun _ _ h => nomatch h)⟩
theorem exN_t {K : PySem.W.Frag} {H H' : Hp} {x p : Addr} {u : HO} {xs : List V} (e : ExO x H H') (hx : H x = some u) (hu : NT u) (h : SqT K H p xs) : SqT K H' p xs := by
  rcases h with h | h
  · rcases h with h | ⟨o, h⟩
    · exact .inl (.inl (e p _ (fun q => by rw [q, hx] at h; exact hu.t _ (Option.some.inj h)) h))
    · exact .inl (.inr ⟨o, e p _ (fun q => by rw [q, hx] at h; exact hu.f _ _ (Option.some.inj h)) h⟩)
  · exact .inr h
theorem UsesAt.exN {K : PySem.W.Frag} {H H' : Hp} {u x : Addr} {v : HO} {o : Option (Str × Addr)} (h : UsesAt K H u o) (e : ExO x H H') (hx : H x = some v) (hu : NT v) : UsesAt K H' u o := by
  cases o with
  | none => exact exN_t e hx hu h
  | some nc =>
    obtain ⟨r, h1, h2⟩ := h
    exact ⟨r, exN_t e hx hu h1, exN_t e hx hu h2⟩
theorem StepAt.exN {K : PySem.W.Frag} {H H' : Hp} {s x : Addr} {u : HO} {d : Sd} (h : StepAt K H s d) (e : ExO x H H') (hx : H x = some u) (hu : NT u) (n : s ≠ x) : StepAt K H' s d := by
  obtain ⟨sdx, nw, ua, q, v, h1, h2, h3, h4⟩ := h
  exact ⟨sdx, nw, ua, q, v, e s _ n h1, exN_t e hx hu h2, h3.exN e hx hu, exN_t e hx hu h4⟩
/-- all but four is kept -/
def K4 (d kd st jp : Addr) (H H' : Hp) : Prop := ∀ a o, a ≠ d → a ≠ kd → a ≠ st → a ≠ jp → H a = some o → H' a = some o
def sp_addline (K : PySem.W.Frag) : Sp := fun vs H Q E => ∃ (d sc kd st jp bl : Addr) (ws : List Str) (i : Int) (v : V) (kvs : List (Key × V)) (xs ys : List V) (x : Sd), vs = [.ref d, .str (jn spc ws), .int i, v] ∧ DraftAt K H d sc kd st jp bl false kvs xs ys ∧ st ≠ jp ∧
  xs.length ≤ 10 ∧ ys.length ≤ 10 ∧ kvs.length ≤ 100 ∧ (∀ w ∈ ws, 32 ∉ tl w) ∧ (jn spc ws).length ≤ 90000 ∧ Says K ws x ∧ okI i ∧ (∀ n ∈ x.nw, n.length ≤ 1000) ∧ x.nw.length ≤ 100 ∧
  (canB kvs x.nw = false → ∀ H' dd, Ex H H' → H dd = none → H' dd = some (.xd [("line", .int i)]) → E (.ref (He.ga K "BadLine")) (some dd) H') ∧
  (canB kvs x.nw = true → UsesOk K kvs x.us ∧ (x.a = "drop" → ∃ n c, x.us = some (n, c) ∧ valV kvs (.inr n) = some (.str "half")) ∧
    ∀ s b H', H s = none → K4 d kd st jp H H' → DraftIs K H' d sc st jp bl b → H' st = some (.lst (xs ++ [.ref s])) → StepAt K H' s x → H' jp = some (.lst (ys ++ [.non])) → Q .non H')
abbrev nm_addline : List Str := ["draft", "line", "number", "is_last", "step"]
abbrev pr_addline : List Str := ["draft", "line", "number", "is_last"]
def t_addline (K : PySem.W.Frag) (E : XK) : TS :=
  (tSeq (tAsg (tCall (sp_readstep K) [] E0 (tCons (tVar 1) tNil)) (gName 4))
  (tSeq (tIfS (tOr (tTest (tOp rIsNon (tVar 4) (tC .non))) (tTest (tOp zGt (tCB (cLen K) (tCons (tFld K (tVar 0) "steps") tNil)) (tC (.int 60))))) (tRzO (He.ga K "BadLine") (sp_BadLineinit K) (tCons (tVar 2) tNil) E) tNext)
  (tSeq (tIfS (tOr (tNot (tB (tMeth (He.ga K "Scope") "can_bind" (sp_Scopecanbind K) [] E0 (tFld K (tVar 0) "scope") (tCons (tFld K (tVar 4) "news") tNil)))) (tNot (tB (tCall (sp_maystand K) [] E0 (tCons (tVar 0) (tCons (tVar 4) (tCons (tVar 3) tNil))))))) (tRzO (He.ga K "BadLine") (sp_BadLineinit K) (tCons (tVar 2) tNil) E) tNext)
  (tSeq (tDrop (tMeth (He.ga K "Scope") "check_uses" (sp_Scopecheckuses K) [] E0 (tFld K (tVar 0) "scope") (tCons (tVar 4) (tCons (tVar 2) tNil))))
  (tSeq (tDrop (tCall (sp_checklabels K) [] E0 (tCons (tVar 0) (tCons (tVar 4) (tCons (tVar 2) tNil)))))
  (tSeq (tDrop (tCall (sp_openorclose K) [] E0 (tCons (tVar 0) (tCons (tVar 4) tNil))))
  (tSeq (tDrop (tMeth (He.ga K "Scope") "bind" (sp_Scopebind K) [] E0 (tFld K (tVar 0) "scope") (tCons (tVar 4) tNil)))
  (tSeq (tDrop (tBM K "list" rAppend (tFld K (tVar 0) "steps") (tCons (tVar 4) tNil)))
  (tDrop (tBM K "list" rAppend (tFld K (tVar 0) "jumps") (tCons (tC .non) tNil)))))))))))
abbrev Wt_addline (K : PySem.W.Frag) (vs : List V) (H : Hp) (Q : VK) (E : XK) : Prop := t_addline K E { nx := fun _ H' => Q .non H', rt := Q } (start nm_addline vs) H
theorem ln_addline {K : PySem.W.Frag} (vs : List V) (H : Hp) (Q : VK) (E : XK) (h : sp_addline K vs H Q E) : vs.length = pr_addline.length := by
  obtain ⟨_, _, _, _, _, _, _, _, _, _, _, _, _, rfl, _⟩ := h
  rfl
theorem qdrop0 {σ : L2.St} {H : Hp} {D : Ends} {te : TE} {tz : TS} (h : te σ H fun _ H1 => tz D σ H1) : tSeq (tDrop te) tz D σ H := h
theorem says_a {K : PySem.W.Frag} {ws : List Str} {x : Sd} (h : Says K ws x) : x.a ∈ okA := by
  cases h with
  | lt _ => exact List.mem_cons_self ..
  | mk => exact List.mem_cons_of_mem _ (List.mem_cons_self ..)
  | nw _ => exact List.mem_cons_of_mem _ (List.mem_cons_of_mem _ (List.mem_cons_of_mem _ (List.mem_cons_self ..)))
  | dr _ _ => exact List.mem_cons_of_mem _ (List.mem_cons_of_mem _ (List.mem_cons_self ..))
theorem rd_addline {K : PySem.W.Frag} (F : KN K) (vs : List V) (H : Hp) (Q : VK) (E : XK) (h : sp_addline K vs H Q E) : Wt_addline K vs H Q E := by
  obtain ⟨d, sc, kd, st, jp, bl, ws, i, v, kvs, xs, ys, x, rfl, D, hsj, hxl, hyl, hkl, hws, hjl, hsay, hi, hnl, hnz, kbad, kgood⟩ := h
  unfold Wt_addline t_addline
  have hax := says_a hsay
  refine q_asg0 ?_
  refine (ea_1 (σ := start nm_addline [.ref d, .str (jn spc ws), .int i, v]) (H := H) (ev_var (i := 1) rfl)) H (Ex.refl H) _ fun H1 e1 => ⟨ws, x, rfl, hws, hjl, hsay, fun s H2 hs0 e2 hs => ?_⟩
  have e12 := e1.trans e2
  have hs0 : H s = none := fresh_back e1 hs0
  obtain ⟨ddx, hd⟩ := D.dr
  obtain ⟨cdx, hsc⟩ := D.sc
  have ed : ∀ {H3 : Hp} {σ : L2.St} {f : Str} {w : V}, σ[0]? = some (some (.ref d)) → Ex H H3 → NoAttr K (He.ga K "Draft") f → (dfs sc st jp bl false).lookup f = some w → Ev (tFld K (tVar 0) f) σ H3 w := fun hσ e hn hl => ev_fld (ev_var hσ) (e _ _ hd) F.cD hn hl
  show tSeq _ _ _ [some (.ref d), some (.str (jn spc ws)), some (.int i), some v, some (.ref s)] H2
  refine q_when (b := false) (et_is (et_or (et_test (ev_op (ev_var rfl) ev_c (fun H4 _ Q4 q4 => ⟨rfl, q4 H4 (Ex.refl H4)⟩))) fun _ => et_test (ev_op (ev_cb (ea_1 (ed rfl e12 F.nD2 dfs_st)) (rc_len (sq_of (e12 _ _ D.st)))) ev_c rv_I0)) ?_) (fun q => nomatch q) fun _ H3 e3 => ?_
  · show (false || decide ((60 : Int) < (xs.length : Int))) = false
    rw [decide_eq_false (by omega)]
    rfl
  have e13 := e12.trans e3
  have hs3 := hs.ex e3
  obtain ⟨sdx, nw, ua, qa, vv, k1, k2, k3, k4⟩ := id hs3
  have ebind : Ev (tMeth (He.ga K "Scope") "can_bind" (sp_Scopecanbind K) [] E0 (tFld K (tVar 0) "scope") (tCons (tFld K (tVar 4) "news") tNil)) [some (.ref d), some (.str (jn spc ws)), some (.int i), some v, some (.ref s)] H3 (.bl (canB kvs x.nw)) :=
    ev_meth (ed rfl e13 F.nD1 dfs_sc) (e13 _ _ hsc) (by kernel_rfl) (ea_1 (ev_fld (ev_var rfl) k1 F.cS F.nS2 sfs_n)) fun H4 e4 Q4 q4 E4 => ⟨sc, kd, nw, kvs, x.nw, rfl, ⟨cdx, (e13.trans e4) _ _ hsc⟩, (e13.trans e4) _ _ D.kd, .inr (ex_t e4 k2), hnz, hnl, q4⟩
  have emay : Ev (tCall (sp_maystand K) [] E0 (tCons (tVar 0) (tCons (tVar 4) (tCons (tVar 3) tNil)))) [some (.ref d), some (.str (jn spc ws)), some (.int i), some v, some (.ref s)] H3 (.bl true) :=
    ev_call (ea_cons (ev_var rfl) (ea_2 (ev_var rfl) (ev_var rfl))) fun H4 e4 Q4 q4 E4 => ⟨d, sc, st, jp, bl, s, x, v, rfl, ⟨ddx, (e13.trans e4) _ _ hd⟩, hs3.ex e4, hax, q4⟩
  cases hb : canB kvs x.nw with
  | false =>
    refine q_when (b := true) (et_is (et_or (et_not (et_B ebind)) fun _ => et_not (et_B emay)) (by rw [hb]; rfl)) (fun _ H4 e4 => ?_) (fun q => nomatch q)
    exact rz_I (f := "line") (ev_var rfl) hi fun H' dd e' hdd hx => kbad hb H' dd ((e13.trans e4).trans e') (fresh_back (e13.trans e4) hdd) hx
  | true =>
    obtain ⟨huse, hdrop, k⟩ := kgood hb
    refine q_when (b := false) (et_is (et_or (et_not (et_B ebind)) fun _ => et_not (et_B emay)) (by rw [hb]; rfl)) (fun q => nomatch q) fun _ H4 e4 => ?_
    have e14 := e13.trans e4
    have hs4 := hs3.ex e4
    refine q_drop (v := .non) (ev_meth (ed rfl e14 F.nD1 dfs_sc) (e14 _ _ hsc) (by kernel_rfl) (ea_2 (ev_var rfl) (ev_var rfl)) fun H5 e5 Q5 q5 E5 => ⟨sc, kd, s, i, kvs, x, rfl, ⟨cdx, (e14.trans e5) _ _ hsc⟩, (e14.trans e5) _ _ D.kd, hs4.ex e5, huse, q5⟩) fun H5 e5 => ?_
    have e15 := e14.trans e5
    have hs5 := hs4.ex e5
    have nsd : s ≠ d := (ne_of_none hd hs0).symm
    have nsk : s ≠ kd := (ne_of_none D.kd hs0).symm
    have nst : s ≠ st := (ne_of_none D.st hs0).symm
    have nsj : s ≠ jp := (ne_of_none D.jp hs0).symm
    have ndk : d ≠ kd := ne_of hd D.kd (fun h => nomatch h)
    have nds : d ≠ st := ne_of hd D.st (fun h => nomatch h)
    have ndj : d ≠ jp := ne_of hd D.jp (fun h => nomatch h)
    have nks : kd ≠ st := ne_of D.kd D.st (fun h => nomatch h)
    have nkj : kd ≠ jp := ne_of D.kd D.jp (fun h => nomatch h)
    have ncd : sc ≠ d := fun w => by
      rw [w, hd] at hsc
      have := Option.some.inj hsc
      injection this with _ _ w3
      exact absurd (congrArg List.length w3) (by show ¬ 5 = 1; decide)
    have nck : sc ≠ kd := ne_of hsc D.kd (fun h => nomatch h)
    refine qdrop0 ?_
    refine (ea_cons (σ := [some (.ref d), some (.str (jn spc ws)), some (.int i), some v, some (.ref s)]) (H := H5) (ev_var (i := 0) rfl) (ea_2 (ev_var (i := 4) rfl) (ev_var (i := 2) rfl))) H5 (Ex.refl H5) _ fun H6 e6 => ⟨d, sc, kd, st, jp, bl, s, i, kvs, x, rfl, ⟨ddx, (e15.trans e6) _ _ hd⟩, ⟨cdx, (e15.trans e6) _ _ hsc⟩, (e15.trans e6) _ _ D.kd, hs5.ex e6, hdrop, fun b H7 x7 d7 => ?_⟩
    have e16 := e15.trans e6
    have hs7 : StepAt K H7 s x := (hs5.ex e6).exN x7 (e16 _ _ hd) nt_ins nsd
    have q7 : ∀ {a : Addr} {o : HO}, a ≠ d → H a = some o → H7 a = some o := fun n h => x7 _ _ n (e16 _ _ h)
    obtain ⟨ddx7, hd7⟩ := d7
    have ed7 : ∀ {H3 : Hp} {f : Str} {w : V}, Ex H7 H3 → NoAttr K (He.ga K "Draft") f → (dfs sc st jp bl b).lookup f = some w → Ev (tFld K (tVar 0) f) [some (.ref d), some (.str (jn spc ws)), some (.int i), some v, some (.ref s)] H3 w := fun e hn hl => ev_fld (ev_var rfl) (e _ _ hd7) F.cD hn hl
    refine q_drop (v := .non) (ev_call (ea_2 (ev_var rfl) (ev_var rfl)) fun H8 e8 Q8 q8 E8 => ⟨d, sc, st, jp, bl, s, b, x, xs, rfl, ⟨ddx7, e8 _ _ hd7⟩, e8 _ _ (q7 nds.symm D.st), hs7.ex e8, hax, q8⟩) fun H8 e8 => ?_
    refine qdrop0 ?_
    refine ed7 e8 F.nD1 dfs_sc H8 (Ex.refl H8) _ fun H9 e9 => ⟨sc, cdx, [("kinds", .ref kd)], rfl, (e8.trans e9) _ _ (q7 ncd hsc), by kernel_rfl, ?_⟩
    refine (ea_1 (σ := [some (.ref d), some (.str (jn spc ws)), some (.int i), some v, some (.ref s)]) (H := H9) (ev_var (i := 4) rfl)) H9 (Ex.refl H9) _ fun H10 e10 => ?_
    have e710 := (e8.trans e9).trans e10
    refine ⟨sc, kd, s, kvs, x, rfl, ⟨cdx, e710 _ _ (q7 ncd hsc)⟩, e710 _ _ (q7 ndk.symm D.kd), hkl, hs7.ex e710, hnz, fun H11 x11 => ?_⟩
    have q11 : ∀ {a : Addr} {o : HO}, a ≠ kd → H7 a = some o → H11 a = some o := fun n h => x11 _ _ n (e710 _ _ h)
    have hd11 := q11 ndk hd7
    have hst11 := q11 nks.symm (q7 nds.symm D.st)
    have hjp11 := q11 nkj.symm (q7 ndj.symm D.jp)
    have hs11 : StepAt K H11 s x := (hs7.ex e710).exN x11 (e710 _ _ (q7 ndk.symm D.kd)) nt_dk nsk
    refine q_app (xs := xs) hst11 (ev_fld (ev_var rfl) hd11 F.cD F.nD2 dfs_st) (ev_var rfl) (by omega) fun H12 e12' => ?_
    have u12 : ExO st H11 (upd H12 st (.lst (xs ++ [.ref s]))) := (ExO.of e12').upd
    have hd12 := u12 _ _ nds hd11
    have hjp12 := u12 _ _ hsj.symm hjp11
    have hs12 : StepAt K (upd H12 st (.lst (xs ++ [.ref s]))) s x := hs11.exN u12 hst11 nt_lst nst
    have hst12 : upd H12 st (.lst (xs ++ [.ref s])) st = some (.lst (xs ++ [.ref s])) := upd_same
    revert u12 hd12 hjp12 hs12 hst12
    generalize upd H12 st (.lst (xs ++ [.ref s])) = G
    intro u12 hd12 hjp12 hs12 hst12
    refine s_app (xs := ys) hjp12 (ev_fld (ev_var rfl) hd12 F.cD F.nD3 dfs_jp) ev_c (by omega) fun H13 e13' => ?_
    have u13 : ExO jp G (upd H13 jp (.lst (ys ++ [.non]))) := (ExO.of e13').upd
    refine k s b _ hs0 (fun a o n1 n2 n3 n4 ha => ?_) ⟨ddx7, u13 _ _ ndj hd12⟩ (u13 _ _ hsj hst12) (hs12.exN u13 hjp12 nt_lst nsj) upd_same
    exact u13 _ _ n4 (u12 _ _ n3 (q11 n2 (q7 n1 ha)))
end K33
namespace K33
open PySem PySem.Spec PyProof.Rows L2 Evl TL Hm
/-! ### which names can be bound -/
theorem cnt1 (n : Str) : cntD [n] 1 = 1 := by
  show (if ([n].take 0).any _ then _ else _) = 1
  rfl
theorem cnt2 {n m : Str} : cntD [n, m] 2 = if n = m then 1 else 2 := by
  have h : cntD [n, m] 2 = if ([n, m].take 1).any (· == [n, m].getD 1 Str.empty) then cntD [n, m] 1 else cntD [n, m] 1 + 1 := rfl
  have h1 : cntD [n, m] 1 = 1 := rfl
  rw [h, h1]
  show (if (n == m || false) = true then 1 else 2) = _
  rw [Bool.or_false]
  by_cases e : n = m
  · rw [if_pos (by rw [e]; exact beq_self_eq_true m), if_pos e]
  · rw [if_neg (by rw [beq_iff_eq]; exact e), if_neg e]
theorem canB1 {kvs : List (Key × V)} {n : Str} (h : valV kvs (.inr n) = none) : canB kvs [n] = isNm n := by
  unfold canB
  show (decide (cntD [n] 1 = 1) && ((isNm n && !(valV kvs (.inr n)).isSome) && true)) = isNm n
  rw [cnt1, h]
  simp
theorem canB2 {kvs : List (Key × V)} {n m : Str} (h : valV kvs (.inr n) = none) (h2 : valV kvs (.inr m) = none) (ne : n ≠ m) : canB kvs [n, m] = (isNm n && isNm m) := by
  unfold canB
  show (decide (cntD [n, m] 2 = 2) && ((isNm n && !(valV kvs (.inr n)).isSome) && ((isNm m && !(valV kvs (.inr m)).isSome) && true))) = _
  rw [cnt2, h, h2, if_neg ne]
  simp
theorem canBd {kvs : List (Key × V)} {n : Str} : canB kvs [n, n] = false := by
  unfold canB
  show (decide (cntD [n, n] 2 = 2) && _) = _
  rw [cnt2, if_pos rfl]
  rfl
theorem val_kvH {O n : Str} (h : n ≠ O) : valV (kvH [O]) (.inr n) = none := by
  unfold valV kvH
  simp [List.find?]
  exact fun e => h e.symm
/-! ### the head of a routine -/
def Raises (H : Hp) (E : XK) (K : PySem.W.Frag) (i : Int) : Prop := ∀ H' dd, Ex H H' → H dd = none → H' dd = some (.xd [("line", .int i)]) → E (.ref (He.ga K "BadLine")) (some dd) H'
theorem Raises.ex {H H1 : Hp} {E : XK} {K : PySem.W.Frag} {i : Int} (h : Raises H E K i) (e : Ex H H1) : Raises H1 E K i := fun H' dd e' hd hx => h H' dd (e.trans e') (fresh_back e hd) hx
def sp_readhead (K : PySem.W.Frag) : Sp := fun vs H Q E => ∃ (N A : Str) (i : Int) (u : Addr), vs = [.str "routine", .str (jn spc ["routine", N, A]), .int i, .ref u] ∧ H u = some (.dK []) ∧ 32 ∉ tl N ∧ 32 ∉ tl A ∧ N.length ≤ 1000 ∧ A.length ≤ 1000 ∧ okI i ∧
  ((isNm N && isNm A) = false → Raises H E K i) ∧ ((isNm N && isNm A) = true → ∀ p l H', Ex H H' → H' p = some (.tup [.str N, .ref l]) → H' l = some (.lst [.str A]) → Q (.ref p) H')
abbrev nm_readhead : List Str := ["word", "line", "number", "used", "words", "names", "name", "halves"]
abbrev pr_readhead : List Str := ["word", "line", "number", "used"]
def t_readhead (K : PySem.W.Frag) (E : XK) : TS :=
  (tSeq (tAsg (tM1 rSplit (tVar 1) (tC (.str " "))) (gName 4))
  (tSeq (tAsg (tSl (rSlL K) (tVar 4) (tPart (tC (.int 1))) tNoPart) (gName 5))
  (tSeq (tIfS (tOr (tTest (tOp rNe (tOp (rIxL K) (tVar 4) (tC (.int 0))) (tVar 0))) (tNot (tTest (tChain zLe zLe (tC (.int 2)) (tCB (cLen K) (tCons (tVar 5) tNil)) (tOp zAdd (tC (.int 3)) (tC (.int 1))))))) (tRzO (He.ga K "BadLine") (sp_BadLineinit K) (tCons (tVar 2) tNil) E) tNext)
  (tSeq (tAsg (tVar 5) (gStar K 1 (gCons (gName 6) (gCons (gName 7) gNil))))
  (tSeq (tIfS (tOr (tNot (tB (tCall (sp_isname K) [] E0 (tCons (tVar 6) tNil)))) (tOr (tB (tDIn (tVar 6) (tVar 3))) (tNot (tB (tMeth (He.ga K "Scope") "can_bind" (sp_Scopecanbind K) [] E0 (tMake (He.ga K "Scope") (sp_Scopeinit K) [] E0 (tCons (tLst tNil) tNil)) (tCons (tVar 7) tNil)))))) (tRzO (He.ga K "BadLine") (sp_BadLineinit K) (tCons (tVar 2) tNil) E) tNext)
  (tRet (tTup (tCons (tVar 6) (tCons (tVar 7) tNil)))))))))
abbrev Wt_readhead (K : PySem.W.Frag) (vs : List V) (H : Hp) (Q : VK) (E : XK) : Prop := t_readhead K E { nx := fun _ H' => Q .non H', rt := Q } (start nm_readhead vs) H
theorem ln_readhead {K : PySem.W.Frag} (vs : List V) (H : Hp) (Q : VK) (E : XK) (h : sp_readhead K vs H Q E) : vs.length = pr_readhead.length := by
  obtain ⟨_, _, _, _, rfl, _⟩ := h
  rfl
/-- Scope([]).can_bind(names) -/
theorem ev_bindN {K : PySem.W.Frag} (F : KN K) {σ : L2.St} {H : Hp} {ta : TE} {a : Addr} {ns : List Str} (h : Ev ta σ H (.ref a)) (hS : SqL K H a (ns.map V.str)) (hl : ns.length ≤ 100) (hn : ∀ n ∈ ns, n.length ≤ 1000) :
    Ev (tMeth (He.ga K "Scope") "can_bind" (sp_Scopecanbind K) [] E0 (tMake (He.ga K "Scope") (sp_Scopeinit K) [] E0 (tCons (tLst tNil) tNil)) (tCons ta tNil)) σ H (.bl (canB (kvH []) ns)) := fun H1 e Q q => by
  refine ⟨by show 0 ≤ sizeLine; exact Nat.zero_le _, fun p hp => ?_⟩
  have e2 : Ex H1 (upd H1 p (.lst [])) := Ex.new hp
  refine fun x dx hx hdx hne => ?_
  have e3 : ∀ {H' : Hp}, ExO x (upd (upd (upd H1 p (.lst [])) dx (.own x)) x (.ins (He.ga K "Scope") dx [])) H' → Ex (upd H1 p (.lst [])) H' := fun e' => mk_ex hx hdx hne e'
  have npx : p ≠ x := (ne_of_none upd_same hx)
  have npd : p ≠ dx := (ne_of_none upd_same hdx)
  refine ⟨x, dx, p, [], rfl, upd_same, .inl (.inl ?_), Nat.zero_le _, fun kd H' hkd hn' e' s k => ⟨rfl, ?_⟩⟩
  · rw [upd_ne npx, upd_ne npd]
    exact upd_same
  obtain ⟨dx', s⟩ := s
  have e4 := e2.trans (e3 e')
  refine ⟨x, dx', _, rfl, s, by kernel_rfl, ?_⟩
  refine (ea_1 h) H' (e.trans e4) _ fun H5 e5 => ?_
  exact ⟨x, kd, a, kvH [], ns, rfl, ⟨dx', e5 _ _ s⟩, e5 _ _ k, .inl (ex_l ((e.trans e4).trans e5) hS), hl, hn, fun H6 e6 => q H6 ((e4.trans e5).trans e6)⟩
theorem rd_readhead {K : PySem.W.Frag} (F : KN K) (vs : List V) (H : Hp) (Q : VK) (E : XK) (h : sp_readhead K vs H Q E) : Wt_readhead K vs H Q E := by
  obtain ⟨N, A, i, u, rfl, hu, hN, hA, hNl, hAl, hi, kb, kg⟩ := h
  unfold Wt_readhead t_readhead
  have hlen : (jn spc ["routine", N, A]).length ≤ 90000 := by
    rw [len_tl, tl_jn, tl_spc]
    have a1 := len_tl N
    have a2 := len_tl A
    have a3 : (tl ("routine" : Str)).length = 7 := rfl
    show (tl ("routine" : Str) ++ ([32] ++ (tl N ++ ([32] ++ tl A)))).length ≤ 90000
    simp only [List.length_append]
    have : [32].length = 1 := rfl
    omega
  have h1 := el_split (σ := start nm_readhead [.str "routine", .str (jn spc ["routine", N, A]), .int i, .ref u]) (H := H) (ta := tVar 1) (tb := tC (.str " ")) (ev_var rfl) ev_c (by decide +kernel) hlen
  rw [jn_split tl_spc (by decide +kernel) (List.cons_ne_nil _ _) (by
    intro w hw
    simp only [List.mem_cons, List.not_mem_nil, or_false] at hw
    rcases hw with rfl | rfl | rfl
    · decide +kernel
    · exact hN
    · exact hA)] at h1
  refine q_asgL h1 fun p H1 hp e1 hp1 => ?_
  have h2 := el_sl (K := K) (σ := (start nm_readhead [.str "routine", .str (jn spc ["routine", N, A]), .int i, .ref u]).set 4 (some (.ref p))) (te := tVar 4) (tl := tPart (tC (.int 1))) (th := tNoPart) (H := H1) (ev_var rfl) (eo_some ev_c) eo_none (sq_of hp1)
  rw [show (some (1 : Int)) = some ((1 : Nat) : Int) from rfl, cut_from (by show 1 ≤ 3; decide)] at h2
  refine q_asgL h2 fun l H2 hl0 e2 hl => ?_
  have hl : H2 l = some (.lst [.str N, .str A]) := hl
  have hp2 : H2 p = some (.lst [.str "routine", .str N, .str A]) := e2 _ _ hp1
  have e12 := e1.trans e2
  refine q_when (b := false) (et_is (et_or (et_test (ev_op (ev_op (ev_var rfl) ev_c (rv_ixL (sq_of hp2) (atI_nat (j := 0) rfl))) (ev_var rfl) (rv_ne rfl))) fun _ => et_not (et_test (ev_chain (a := true) (b := true) ev_c (ev_cb (ea_1 (ev_var rfl)) (rc_len (sq_of hl))) (by exact fun H3 _ Q3 q3 => ⟨_, _, rfl, rfl, q3 H3 (Ex.refl H3)⟩) (fun _ => ev_op ev_c ev_c rv_I0) fun _ => (by exact fun H3 _ Q3 q3 => ⟨_, _, rfl, rfl, q3 H3 (Ex.refl H3)⟩)))) (by decide +kernel)) (fun q => nomatch q) fun _ H3 e3 => ?_
  refine q_starV (x := .str N) (xs := [.str A]) (ev_var rfl) (sq_of (e3 _ _ hl)) (by show 1 ≤ 1000; decide) fun m H4 hm0 e4 hm => ?_
  have e14 := (e12.trans e3).trans e4
  have et : EvT (tOr (tNot (tB (tCall (sp_isname K) [] E0 (tCons (tVar 6) tNil)))) (tOr (tB (tDIn (tVar 6) (tVar 3))) (tNot (tB (tMeth (He.ga K "Scope") "can_bind" (sp_Scopecanbind K) [] E0 (tMake (He.ga K "Scope") (sp_Scopeinit K) [] E0 (tCons (tLst tNil) tNil)) (tCons (tVar 7) tNil))))))
      [some (.str "routine"), some (.str (jn spc ["routine", N, A])), some (.int i), some (.ref u), some (.ref p), some (.ref l), some (.str N), some (.ref m)] H4 (!(isNm N && isNm A)) := by
    refine et_is (et_or (et_not (et_B (ev_call (ea_1 (ev_var rfl)) (spv_isname hNl)))) fun _ => et_or (et_B (ev_dinS (ev_var rfl) (ev_var rfl) (e14 _ _ hu))) fun _ => et_not (et_B (ev_bindN F (ns := [A]) (ev_var rfl) (sq_of hm) (by show 1 ≤ 100; decide) (fun n hn => by rw [List.mem_singleton.mp hn]; exact hAl)))) ?_
    rw [canB1 rfl]
    show (!isNm N || (false || !isNm A)) = _
    cases isNm N <;> cases isNm A <;> rfl
  cases hg : (isNm N && isNm A) with
  | false =>
    rw [hg] at et
    refine q_when (b := true) et (fun _ H5 e5 => ?_) (fun q => nomatch q)
    exact rz_I (f := "line") (ev_var rfl) hi fun H' dd e' hdd hx => kb hg H' dd ((e14.trans e5).trans e') (fresh_back (e14.trans e5) hdd) hx
  | true =>
    rw [hg] at et
    refine q_when (b := false) et (fun q => nomatch q) fun _ H5 e5 => ?_
    exact s_retU (eu_tup (ea_2 (ev_var rfl) (ev_var rfl)) (by show 2 ≤ 100000; decide)) fun t H6 ht e6 h6 => kg hg t m H6 ((e14.trans e5).trans e6) h6 ((e5.trans e6) _ _ hm)
end K33
namespace K33
open PySem PySem.Spec PyProof.Rows L2 Evl TL Hm
/-! ### a routine of a head and at most one more line -/
abbrev Rest := Option (List Str × Sd)
/-- what the second line is, when its names are bound behind these -/
def RestOk (K : PySem.W.Frag) (A : Str) : Rest → Prop
  | none => True
  | some (ws, x) => (∀ w ∈ ws, 32 ∉ tl w) ∧ (jn spc ws).length ≤ 90000 ∧ Says K ws x ∧ (∀ n ∈ x.nw, n.length ≤ 1000) ∧ x.nw.length ≤ 100 ∧
    (canB (kvH [A]) x.nw = true → UsesOk K (kvH [A]) x.us ∧ (x.a = "drop" → ∃ n c, x.us = some (n, c) ∧ valV (kvH [A]) (.inr n) = some (.str "half")))
def restL : Rest → List Str
  | none => []
  | some (ws, _) => [jn spc ws]
def r2 (A : Str) : Rest → Nat
  | none => 0
  | some (_, x) => if canB (kvH [A]) x.nw = true then 0 else 2
/-- the number of the wrong line, or 0 -/
def rres (N A : Str) (r : Rest) : Nat := if (isNm N && isNm A) = true then r2 A r else 1
def Out (K : PySem.W.Frag) (H : Hp) (Q : VK) (E : XK) (k : Nat) : Prop := (k = 0 → ∀ v H', Ex H H' → Q v H') ∧ (k ≠ 0 → Raises H E K (k : Int))
theorem Out.ex {K : PySem.W.Frag} {H H1 : Hp} {Q : VK} {E : XK} {k : Nat} (h : Out K H Q E k) (e : Ex H H1) : Out K H1 Q E k := ⟨fun hk v H' e' => h.1 hk v H' (e.trans e'), fun hk => (h.2 hk).ex e⟩
def sp_routineof (K : PySem.W.Frag) : Sp := fun vs H Q E => ∃ (l u : Addr) (N A : Str) (r : Rest), vs = [.ref l, .int 1, .ref u] ∧ SqL K H l ((jn spc ["routine", N, A] :: restL r).map V.str) ∧ H u = some (.dK []) ∧ 32 ∉ tl N ∧ 32 ∉ tl A ∧ N.length ≤ 1000 ∧ A.length ≤ 1000 ∧ ((isNm N && isNm A) = true → RestOk K A r) ∧ Out K H Q E (rres N A r)
abbrev nm_routineof : List Str := ["lines", "first", "used", "name", "halves", "draft", "at"]
abbrev pr_routineof : List Str := ["lines", "first", "used"]
def t_routineof (K : PySem.W.Frag) (E : XK) : TS :=
  (tSeq (tAsg (tCall (sp_readhead K) [] E (tCons (tC (.str "routine")) (tCons (tOp (rIxL K) (tVar 0) (tC (.int 0))) (tCons (tVar 1) (tCons (tVar 2) tNil))))) (gTup K 2 (gCons (gName 3) (gCons (gName 4) gNil))))
  (tSeq (tAsg (tMake (He.ga K "Draft") (sp_Draftinit K) [] E0 (tCons (tVar 4) tNil)) (gName 5))
  (tSeq (tFor (iRng2 (tCons (tC (.int 1)) (tCons (tCB (cLen K) (tCons (tVar 0) tNil)) tNil))) (gName 6) (tDrop (tCall (sp_addline K) [] E (tCons (tVar 5) (tCons (tOp (rIxL K) (tVar 0) (tVar 6)) (tCons (tOp zAdd (tVar 1) (tVar 6)) (tCons (tOp rEq (tOp zAdd (tVar 6) (tC (.int 1))) (tCB (cLen K) (tCons (tVar 0) tNil))) tNil)))))))
  (tSeq (tIfS (tTruL K (tFld K (tVar 5) "blocks")) tNever tNext)
  (tRet (tMake (He.ga K "Routine") (sp_Routineinit K) [] E0 (tCons (tVar 3) (tCons (tVar 4) (tCons (tVar 0) (tCons (tFld K (tVar 5) "steps") (tCons (tFld K (tVar 5) "jumps") tNil)))))))))))
abbrev Wt_routineof (K : PySem.W.Frag) (vs : List V) (H : Hp) (Q : VK) (E : XK) : Prop := t_routineof K E { nx := fun _ H' => Q .non H', rt := Q } (start nm_routineof vs) H
theorem ln_routineof {K : PySem.W.Frag} (vs : List V) (H : Hp) (Q : VK) (E : XK) (h : sp_routineof K vs H Q E) : vs.length = pr_routineof.length := by
  obtain ⟨_, _, _, _, _, rfl, _⟩ := h
  rfl
/-- behind the lines -/
structure Bh (K : PySem.W.Frag) (H0 H : Hp) (d st jp : Addr) : Prop where
  e : Ex H0 H
  dr : ∃ sc bl b, DraftIs K H d sc st jp bl b ∧ H bl = some (.lst [])
  st : StepsAt K H st
  jp : ∃ js, H jp = some (.lst js)
theorem stepsAt_of {K : PySem.W.Frag} {H : Hp} {st s : Addr} {xs : List V} {x : Sd} (h : H st = some (.lst (xs ++ [.ref s]))) (hs : StepAt K H s x) (ha : decide (V.str x.a = V.str "tell") = false) (hl : xs.length ≤ 10) : StepsAt K H st := ⟨xs, s, x, sq_of h, hs, ha, hl⟩
theorem mk_draft {K : PySem.W.Frag} {H : Hp} {σ : L2.St} {ta : TE} {a : Addr} {O : Str} {Q : VK} (h : Ev ta σ H (.ref a)) (ha : H a = some (.lst [.str O]))
    (q : ∀ d sc kd st jp bl s H', H d = none → H kd = none → H st = none → H jp = none → Ex H H' → DraftAt K H' d sc kd st jp bl false (kvH [O]) [.ref s] [.non] → StepAt K H' s rou → Q (.ref d) H') :
    tMake (He.ga K "Draft") (sp_Draftinit K) [] E0 (tCons ta tNil) σ H Q := by
  refine h H (Ex.refl H) _ fun H1 e1 => fun x dx hx hdx hne => ?_
  have n1 : a ≠ x := ne_of_none (e1 _ _ ha) hx
  have n2 : a ≠ dx := ne_of_none (e1 _ _ ha) hdx
  have back : ∀ {p : Addr}, upd (upd H1 dx (.own x)) x (.ins (He.ga K "Draft") dx []) p = none → H p = none := fun {p} hp => by
    by_cases w : p = x
    · rw [w, upd_same] at hp
      cases hp
    · rw [upd_ne w] at hp
      by_cases w2 : p = dx
      · rw [w2, upd_same] at hp
        cases hp
      · rw [upd_ne w2] at hp
        exact fresh_back e1 hp
  refine ⟨x, dx, a, O, rfl, upd_same, .inl (.inl ?_), fun sc kd st jp bl s H' h1 h2 h3 h4 h5 e' D hs => ⟨rfl, q x sc kd st jp bl s H' (fresh_back e1 hx) (back h2) (back h3) (back h4) (e1.trans (mk_ex hx hdx hne e')) D hs⟩⟩
  rw [upd_ne n1, upd_ne n2]
  exact e1 _ _ ha
theorem q_asgG {σ : L2.St} {H : Hp} {D : Ends} {te : TE} {g : TG} {tz : TS} (h : te σ H fun v H1 => g v σ H1 fun σ' H' => tz D σ' H') : tSeq (tAsg te g) tz D σ H := h
theorem tcallA {σ : L2.St} {H : Hp} {Q : VK} {sp : Sp} {dvs vs : List V} {E : XK} {ta : TA} (ha : EvA ta σ H vs) (h : ∀ H1, Ex H H1 → sp (vs ++ dvs) H1 Q E) : tCall sp dvs E ta σ H Q := ha H (Ex.refl H) _ h
theorem sdrop0 {σ : L2.St} {H : Hp} {D : Ends} {te : TE} (h : te σ H fun _ H1 => D.nx σ H1) : tDrop te D σ H := h
theorem tretMake {σ : L2.St} {H : Hp} {D : Ends} {C : Addr} {sp : Sp} {dvs vs : List V} {E : XK} {ta : TA} (ha : EvA ta σ H vs) (k : ∀ H1, Ex H H1 → ∀ x dx, H1 x = none → H1 dx = none → dx ≠ x → sp (.ref x :: (vs ++ dvs)) (upd (upd H1 dx (.own x)) x (.ins C dx [])) (fun v H2 => v = .non ∧ D.rt (.ref x) H2) E) : tRet (tMake C sp dvs E ta) D σ H := ha H (Ex.refl H) _ k
theorem rd_routineof {K : PySem.W.Frag} (F : KN K) (vs : List V) (H : Hp) (Q : VK) (E : XK) (h : sp_routineof K vs H Q E) : Wt_routineof K vs H Q E := by
  obtain ⟨l, u, N, A, r, rfl, hl, hu, hN, hA, hNl, hAl, hr, ho⟩ := h
  unfold Wt_routineof t_routineof
  have g0 : ∀ {H1 : Hp} {σ : L2.St}, σ[0]? = some (some (.ref l)) → Ex H H1 → Ev (tOp (rIxL K) (tVar 0) (tC (.int 0))) σ H1 (.str (jn spc ["routine", N, A])) := fun hσ e => ev_op (ev_var hσ) ev_c (rv_ixL (ex_l e hl) (atI_nat (j := 0) rfl))
  refine q_asgG ?_
  refine tcallA (ea_cons ev_c (ea_cons (g0 rfl (Ex.refl H)) (ea_2 (ev_var rfl) (ev_var rfl)))) fun H1 e1 => ?_
  refine ⟨N, A, 1, u, rfl, e1 _ _ hu, hN, hA, hNl, hAl, by show (1 : Int).natAbs.log2 < 1900; decide, fun hb => ?_, fun hg p a H2 e2 hp ha => ?_⟩
  · have hk : rres N A r = 1 := by unfold rres; rw [if_neg (by rw [hb]; decide)]
    rw [hk] at ho
    exact (ho.2 (by decide)).ex e1
  have hk : rres N A r = r2 A r := by unfold rres; rw [if_pos hg]
  have hr := hr hg
  have e12 := e1.trans e2
  refine ⟨p, _, rfl, st_of hp, rfl, .str N, _, rfl, .ref a, _, rfl, rfl, ?_⟩
  show tSeq _ _ _ [some (.ref l), some (.int 1), some (.ref u), some (.str N), some (.ref a), none, none] H2
  refine q_asg0 ?_
  refine mk_draft (O := A) (ev_var rfl) ha fun d sc kd st jp bl s H3 fd fkd fst fjp e3 D hs => ?_
  have e13 := e12.trans e3
  -- the last two lines
  have fin : ∀ (w6 : Option V) (H4 : Hp), rres N A r = 0 → Bh K H2 H4 d st jp →
      (tSeq (tIfS (tTruL K (tFld K (tVar 5) "blocks")) tNever tNext)
  (tRet (tMake (He.ga K "Routine") (sp_Routineinit K) [] E0 (tCons (tVar 3) (tCons (tVar 4) (tCons (tVar 0) (tCons (tFld K (tVar 5) "steps") (tCons (tFld K (tVar 5) "jumps") tNil))))))))
      { nx := fun _ H' => Q .non H', rt := Q } [some (.ref l), some (.int 1), some (.ref u), some (.str N), some (.ref a), some (.ref d), w6] H4 := by
    intro w6 H4 h0 B
    obtain ⟨e4, ⟨sc4, bl4, b4, ⟨ddx, hd4⟩, hbl4⟩, hst4, js, hjp4⟩ := B
    have ed : ∀ {H5 : Hp} {f : Str} {w : V}, Ex H4 H5 → NoAttr K (He.ga K "Draft") f → (dfs sc4 st jp bl4 b4).lookup f = some w → Ev (tFld K (tVar 5) f) [some (.ref l), some (.int 1), some (.ref u), some (.str N), some (.ref a), some (.ref d), w6] H5 w := fun e hn hl => ev_fld (ev_var rfl) (e _ _ hd4) F.cD hn hl
    refine q_when (b := false) (et_is (et_truL (ed (Ex.refl H4) F.nD4 dfs_bl) (sq_of hbl4)) (by rfl)) (fun q => nomatch q) fun _ H5 e5 => ?_
    refine tretMake (ea_cons (ev_var rfl) (ea_cons (ev_var rfl) (ea_cons (ev_var rfl) (ea_2 (ed e5 F.nD2 dfs_st) (ed e5 F.nD3 dfs_jp))))) fun H6 e6 x dx hx hdx hne => ?_
    have e26 := (e4.trans e5).trans e6
    have o0 : upd (upd H6 dx (.own x)) x (.ins (He.ga K "Routine") dx []) x = some (.ins (He.ga K "Routine") dx []) := upd_same
    have exm : Ex H6 (upd (upd H6 dx (.own x)) x (.ins (He.ga K "Routine") dx [])) := mk_ex hx hdx hne ExO.refl
    refine ⟨x, dx, a, l, st, jp, N, [.str A], (jn spc ["routine", N, A] :: restL r).map V.str, js, rfl, o0, sq_of ((e26.trans exm) _ _ ha), ex_l ((e12.trans e26).trans exm) hl, sq_of (((e5.trans e6).trans exm) _ _ hjp4), hst4.ex ((e5.trans e6).trans exm), fun H7 e7 => ⟨rfl, ?_⟩⟩
    exact ho.1 h0 _ _ ((e12.trans e26).trans (mk_ex hx hdx hne e7))
  have elen : ∀ {H4 : Hp} {σ : L2.St}, σ[0]? = some (some (.ref l)) → Ex H H4 → Ev (tCB (cLen K) (tCons (tVar 0) tNil)) σ H4 (.int (((jn spc ["routine", N, A] :: restL r).map V.str).length : Int)) := fun hσ e => ev_cb (ea_1 (ev_var hσ)) (rc_len (ex_l e hl))
  have st0 : Bh K H2 H3 d st jp := ⟨e3, ⟨sc, bl, false, D.dr, D.bl⟩, stepsAt_of (xs := []) D.st hs (by decide +kernel) (Nat.zero_le _), _, D.jp⟩
  cases r with
  | none =>
    refine q_forR2 (lo := 1) (n := 1) (ea_2 ev_c (elen rfl e13)) (by decide) (fun i σ' H' => i = 0 ∧ σ' = [some (.ref l), some (.int 1), some (.ref u), some (.str N), some (.ref a), some (.ref d), none] ∧ Bh K H2 H' d st jp) (fun H4 e4 => ⟨rfl, rfl, ⟨st0.e.trans e4, ?_, st0.st.ex e4, ?_⟩⟩) (fun i σ' H' hi => by exfalso; omega) ?_
    · obtain ⟨sc4, bl4, b4, h1, h2⟩ := st0.dr
      exact ⟨sc4, bl4, b4, h1.ex e4, e4 _ _ h2⟩
    · obtain ⟨js, h⟩ := st0.jp
      exact ⟨js, e4 _ _ h⟩
    · rintro σ' H' ⟨_, rfl, B⟩
      exact fin none H' (by rw [hk]; rfl) B
  | some wx =>
    obtain ⟨ws, x⟩ := wx
    obtain ⟨hws, hjl, hsay, hnl, hnz, hgood⟩ := hr
    refine q_forR2 (lo := 1) (n := 2) (ea_2 ev_c (elen rfl e13)) (by decide) (fun i σ' H' => (i = 0 ∧ Ex H3 H' ∧ σ' = [some (.ref l), some (.int 1), some (.ref u), some (.str N), some (.ref a), some (.ref d), none]) ∨ (i = 1 ∧ canB (kvH [A]) x.nw = true ∧ ∃ w6, σ' = [some (.ref l), some (.int 1), some (.ref u), some (.str N), some (.ref a), some (.ref d), w6] ∧ Bh K H2 H' d st jp)) (fun H4 e4 => .inl ⟨rfl, e4, rfl⟩) ?_ ?_
    · rintro i σ' H' hi (⟨rfl, e4, rfl⟩ | ⟨rfl, _⟩)
      · have e14 := e13.trans e4
        have D4 : DraftAt K H' d sc kd st jp bl false (kvH [A]) [.ref s] [.non] := ⟨D.dr.ex e4, D.sc.ex e4, e4 _ _ D.kd, e4 _ _ D.st, e4 _ _ D.jp, e4 _ _ D.bl⟩
        show tDrop (tCall (sp_addline K) [] E (tCons (tVar 5) (tCons (tOp (rIxL K) (tVar 0) (tVar 6)) (tCons (tOp zAdd (tVar 1) (tVar 6)) (tCons (tOp rEq (tOp zAdd (tVar 6) (tC (.int 1))) (tCB (cLen K) (tCons (tVar 0) tNil))) tNil))))) _ [some (.ref l), some (.int 1), some (.ref u), some (.str N), some (.ref a), some (.ref d), some (.int (1 + ((0 : Nat) : Int)))] H'
        have eat : Ev (tOp zAdd (tVar 6) (tC (.int 1))) [some (.ref l), some (.int 1), some (.ref u), some (.str N), some (.ref a), some (.ref d), some (.int (1 + ((0 : Nat) : Int)))] H' (.int 2) := ev_is (ev_op (ev_var rfl) ev_c rv_I0) (by rfl)
        refine sdrop0 ?_
        refine tcallA (ea_cons (ev_var rfl) (ea_cons (x := .str (jn spc ws)) (ev_op (ev_var rfl) (ev_var rfl) (rv_ixL (ex_l e14 hl) (atI_nat (j := 1) rfl))) (ea_2 (ev_op (ev_var rfl) (ev_var rfl) rv_I0) (ev_op eat (elen rfl e14) (rv_eq rfl))))) fun H5 e5 => ?_
        have e15 := e14.trans e5
        have D5 : DraftAt K H5 d sc kd st jp bl false (kvH [A]) [.ref s] [.non] := ⟨D4.dr.ex e5, D4.sc.ex e5, e5 _ _ D4.kd, e5 _ _ D4.st, e5 _ _ D4.jp, e5 _ _ D4.bl⟩
        have nsj : st ≠ jp := ne_of D.st D.jp (fun h => nomatch (List.cons.inj (HO.lst.inj h)).1)
        refine ⟨d, sc, kd, st, jp, bl, ws, 2, _, kvH [A], [.ref s], [.non], x, rfl, D5, nsj, by show 1 ≤ 10; decide, by show 1 ≤ 10; decide, by show 1 ≤ 100; decide, hws, hjl, hsay, by show (2 : Int).natAbs.log2 < 1900; decide, hnl, hnz, fun hb => ?_, fun hb => ⟨(hgood hb).1, (hgood hb).2, fun s2 b H6 hs2 k4 dr6 hst6 hs6 hjp6 => ?_⟩⟩
        · have h2 : rres N A (some (ws, x)) = 2 := by rw [hk]; show (if _ then 0 else 2) = 2; rw [if_neg (by rw [hb]; decide)]
          rw [h2] at ho
          exact (ho.2 (by decide)).ex e15
        · refine .inr ⟨rfl, hb, _, rfl, ⟨fun b' o h => ?_, ⟨sc, bl, b, dr6, ?_⟩, stepsAt_of hst6 hs6 (ok_ne _ (says_a hsay)).2.1 (by show 1 ≤ 10; decide), _, hjp6⟩⟩
          · exact k4 _ _ (ne_of_none h fd) (ne_of_none h fkd) (ne_of_none h fst) (ne_of_none h fjp) (e5 _ _ (e4 _ _ (e3 _ _ h)))
          · obtain ⟨ddx, hd⟩ := D5.dr
            exact k4 _ _ (ne_of D5.bl hd (fun h => nomatch h)) (ne_of D5.bl D5.kd (fun h => nomatch h)) (ne_of D5.bl D5.st (fun h => nomatch (HO.lst.inj h))) (ne_of D5.bl D5.jp (fun h => nomatch (HO.lst.inj h))) D5.bl
      · exfalso
        omega
    · rintro σ' H' (⟨w, _⟩ | ⟨_, hb, w6, rfl, B⟩)
      · exact absurd w (by decide)
      · exact fin w6 H' (by rw [hk]; show (if _ then 0 else 2) = 0; rw [if_pos hb]) B
end K33
namespace Hm
/-! ### new numbers: the order in which halves are met -/
/-- a half and its twin behind the others, if it is not there -/
def addE (o : List Nat) (h : Nat) : List Nat := if h ∈ o then o else o ++ [h, tw h]
/-- from place k on -/
def goE (f : Nat → Nat) : Nat → Nat → List Nat → List Nat
  | 0, _, o => o
  | n + 1, k, o => if h : k < o.length then goE f n (k + 1) (addE o (f o[k])) else o
/-- an order of halves below N -/
structure Od (N : Nat) (o : List Nat) : Prop where
  nd : o.Nodup
  lt : ∀ h ∈ o, h < N
  tm : ∀ h ∈ o, tw h ∈ o
  ix : ∀ h ∈ o, o.idxOf (Hm.tw h) = Hm.tw (o.idxOf h)
  ev : o.length % 2 = 0
theorem od_nil (N : Nat) : Od N [] := ⟨List.nodup_nil, fun _ h => (nomatch h), fun _ h => (nomatch h), fun _ h => (nomatch h), rfl⟩
theorem tw_ne (x : Nat) : tw x ≠ x := by unfold tw; split <;> omega
theorem Od.le {N : Nat} {o : List Nat} (h : Od N o) : o.length ≤ N := nodup_le N o h.nd h.lt
theorem addE_in {o : List Nat} {h : Nat} (q : h ∈ o) : addE o h = o := if_pos q
theorem addE_out {o : List Nat} {h : Nat} (q : h ∉ o) : addE o h = o ++ [h, tw h] := if_neg q
theorem addE_sub (o : List Nat) (h : Nat) : ∀ x ∈ o, x ∈ addE o h := fun x hx => by
  unfold addE
  split
  · exact hx
  · exact List.mem_append_left _ hx
theorem addE_mem (o : List Nat) (h : Nat) : h ∈ addE o h := by
  unfold addE
  split
  · assumption
  · exact List.mem_append_right _ (List.mem_cons_self ..)
theorem addE_from {o : List Nat} {h x : Nat} (q : x ∈ addE o h) : x ∈ o ∨ x = h ∨ x = tw h := by
  unfold addE at q
  split at q
  · exact .inl q
  · rcases List.mem_append.mp q with q | q
    · exact .inl q
    · rcases List.mem_cons.mp q with q | q
      · exact .inr (.inl q)
      · exact .inr (.inr (List.mem_singleton.mp q))
theorem addE_len (o : List Nat) (h : Nat) : o.length ≤ (addE o h).length := by
  unfold addE
  split
  · exact Nat.le_refl _
  · rw [List.length_append]
    omega
theorem addE_get {o : List Nat} {h k : Nat} (hk : k < o.length) : (addE o h)[k]? = o[k]? := by
  unfold addE
  split
  · rfl
  · rw [List.getElem?_append_left hk]
theorem addE_idx {o : List Nat} {h x : Nat} (hx : x ∈ o) : (addE o h).idxOf x = o.idxOf x := by
  unfold addE
  split
  · rfl
  · rw [List.idxOf_append, if_pos hx]
theorem Od.add {N : Nat} {o : List Nat} (h : Od N o) (hN : N % 2 = 0) {x : Nat} (hx : x < N) : Od N (addE o x) := by
  by_cases q : x ∈ o
  · rw [addE_in q]
    exact h
  have qt : tw x ∉ o := fun z => q (by have := h.tm _ z; rwa [tw_tw] at this)
  have i1 : (o ++ [x, tw x]).idxOf x = o.length := by
    rw [List.idxOf_append, if_neg q]
    simp
  have i2 : (o ++ [x, tw x]).idxOf (tw x) = o.length + 1 := by
    rw [List.idxOf_append, if_neg qt, List.idxOf_cons]
    have : (x == tw x) = false := by rw [beq_eq_false_iff_ne]; exact (tw_ne x).symm
    rw [this]
    simp
    omega
  have te : tw o.length = o.length + 1 := by unfold tw; rw [if_pos h.ev]
  rw [addE_out q]
  refine ⟨?_, fun y hy => ?_, fun y hy => ?_, fun y hy => ?_, ?_⟩
  · rw [List.nodup_append]
    refine ⟨h.nd, ?_, fun a ha b hb e => ?_⟩
    · simp [(tw_ne x).symm]
    · subst e
      rcases List.mem_cons.mp hb with e | hb
      · exact q (e ▸ ha)
      · exact qt (List.mem_singleton.mp hb ▸ ha)
  · rcases List.mem_append.mp hy with hy | hy
    · exact h.lt y hy
    · rcases List.mem_cons.mp hy with e | hy
      · rw [e]
        exact hx
      · rw [List.mem_singleton.mp hy]
        exact tw_lt hN hx
  · rcases List.mem_append.mp hy with hy | hy
    · exact List.mem_append_left _ (h.tm y hy)
    · rcases List.mem_cons.mp hy with e | hy
      · rw [e]
        simp
      · rw [List.mem_singleton.mp hy, tw_tw]
        simp
  · rcases List.mem_append.mp hy with hy | hy
    · rw [List.idxOf_append, if_pos (h.tm y hy), List.idxOf_append, if_pos hy]
      exact h.ix y hy
    · rcases List.mem_cons.mp hy with e | hy
      · rw [e, i1, i2, te]
      · rw [List.mem_singleton.mp hy, tw_tw, i1, i2, ← te, tw_tw]
  · rw [List.length_append]
    show (o.length + 2) % 2 = 0
    have := h.ev
    omega
section
variable {f : Nat → Nat} {N : Nat}
theorem goE_stop {n k : Nat} {o : List Nat} (h : ¬ k < o.length) : goE f n k o = o := by
  cases n with
  | zero => rfl
  | succ n =>
    unfold goE
    rw [dif_neg h]
theorem goE_step {n k : Nat} {o : List Nat} (h : k < o.length) : goE f (n + 1) k o = goE f n (k + 1) (addE o (f o[k])) := by
  rw [goE]
  rw [dif_pos h]
theorem goE_od (P : ∀ x, x < N → f x < N) (hN : N % 2 = 0) : ∀ n k o, Od N o → Od N (goE f n k o)
  | 0, _, _, h => h
  | n + 1, k, o, h => by
    by_cases q : k < o.length
    · rw [goE_step q]
      exact goE_od P hN n (k + 1) _ (h.add hN (P _ (h.lt _ (List.getElem_mem q))))
    · rw [goE_stop q]
      exact h
theorem goE_fuel (P : ∀ x, x < N → f x < N) (hN : N % 2 = 0) : ∀ n k o, Od N o → N ≤ n + k → goE f (n + 1) k o = goE f n k o
  | 0, k, o, h, q => by
    have := h.le
    rw [goE_stop (by omega), goE_stop (by omega)]
  | n + 1, k, o, h, q => by
    by_cases z : k < o.length
    · rw [goE_step z, goE_step z]
      exact goE_fuel P hN n (k + 1) _ (h.add hN (P _ (h.lt _ (List.getElem_mem z)))) (by omega)
    · rw [goE_stop z, goE_stop z]
theorem goE_more (P : ∀ x, x < N → f x < N) (hN : N % 2 = 0) {k : Nat} {o : List Nat} (h : Od N o) {n : Nat} (q : N ≤ n + k) : ∀ m, goE f (n + m) k o = goE f n k o
  | 0 => rfl
  | m + 1 => by
    rw [← Nat.add_assoc, goE_fuel P hN (n + m) k o h (by omega)]
    exact goE_more P hN h q m
theorem goE_skip {n k : Nat} {o : List Nat} (h : k < o.length) (q : f o[k] ∈ o) : goE f (n + 1) k o = goE f n (k + 1) o := by
  rw [goE_step h, addE_in q]
theorem goE_skips {o : List Nat} : ∀ {d : Nat} (n k : Nat), k + d ≤ o.length → (∀ i (h : i < o.length), i < k + d → f o[i] ∈ o) → goE f (n + d) k o = goE f n (k + d) o
  | 0, n, k, _, _ => rfl
  | d + 1, n, k, h, q => by
    rw [← Nat.add_assoc, goE_skip (by omega) (q k (by omega) (by omega)), goE_skips n (k + 1) (by omega) (fun i hi hj => q i hi (by omega))]
    congr 1
    omega
theorem goE_sub : ∀ n k o, ∀ x ∈ o, x ∈ goE f n k o
  | 0, _, _, _, h => h
  | n + 1, k, o, x, h => by
    by_cases q : k < o.length
    · rw [goE_step q]
      exact goE_sub n (k + 1) _ x (addE_sub o _ x h)
    · rw [goE_stop q]
      exact h
theorem goE_get : ∀ n k o, ∀ i, i < o.length → (goE f n k o)[i]? = o[i]?
  | 0, _, _, _, _ => rfl
  | n + 1, k, o, i, h => by
    by_cases q : k < o.length
    · rw [goE_step q, goE_get n (k + 1) _ i (Nat.lt_of_lt_of_le h (addE_len o _))]
      exact addE_get h
    · rw [goE_stop q]
/-- all that is met is closed -/
theorem goE_closed (P : ∀ x, x < N → f x < N) (hN : N % 2 = 0) : ∀ n k o, Od N o → N ≤ n + k → (∀ i (h : i < o.length), i < k → f o[i] ∈ o) → ∀ x ∈ goE f n k o, f x ∈ goE f n k o
  | 0, k, o, h, q, c, x, hx => by
    have := h.le
    obtain ⟨i, hi, e⟩ := List.mem_iff_getElem.mp hx
    rw [← e]
    exact c i hi (by have hi : i < o.length := hi; omega)
  | n + 1, k, o, h, q, c, x, hx => by
    by_cases z : k < o.length
    · rw [goE_step z] at hx ⊢
      refine goE_closed P hN n (k + 1) _ (h.add hN (P _ (h.lt _ (List.getElem_mem z)))) (by omega) (fun i hi hk => ?_) x hx
      have hio : i < o.length := by omega
      have e : (addE o (f o[k]))[i] = o[i] := by
        have := addE_get (h := f o[k]) hio
        rw [List.getElem?_eq_getElem hi, List.getElem?_eq_getElem hio] at this
        exact Option.some.inj this
      rw [e]
      by_cases w : i = k
      · subst w
        exact addE_mem _ _
      · exact addE_sub _ _ _ (c i hio (by omega))
    · rw [goE_stop z] at hx ⊢
      obtain ⟨i, hi, e⟩ := List.mem_iff_getElem.mp hx
      rw [← e]
      exact c i hi (by omega)
/-- the halves of the list, one behind another -/
def ordE (f : Nat → Nat) (N : Nat) (hs : List Nat) : List Nat := hs.foldl (fun o h => goE f N 0 (addE o h)) []
theorem ordE_snoc (hs : List Nat) (h : Nat) : ordE f N (hs ++ [h]) = goE f N 0 (addE (ordE f N hs) h) := by
  unfold ordE
  rw [List.foldl_append]
  rfl
/-- closed orders -/
structure Oc (f : Nat → Nat) (N : Nat) (o : List Nat) : Prop where
  od : Od N o
  cl : ∀ x ∈ o, f x ∈ o
theorem oc_nil : Oc f N [] := ⟨od_nil N, fun _ h => (nomatch h)⟩
theorem oc_next (P : ∀ x, x < N → f x < N) (hN : N % 2 = 0) {o : List Nat} (c : Oc f N o) {h : Nat} (hh : h < N) : Oc f N (goE f N 0 (addE o h)) :=
  ⟨goE_od P hN N 0 _ (c.od.add hN hh), goE_closed P hN N 0 _ (c.od.add hN hh) (Nat.le_refl _) (fun i _ hi => absurd hi (Nat.not_lt_zero i))⟩
theorem ordE_ocF (P : ∀ x, x < N → f x < N) (hN : N % 2 = 0) : ∀ (hs o : List Nat), (∀ h ∈ hs, h < N) → Oc f N o → Oc f N (hs.foldl (fun o h => goE f N 0 (addE o h)) o)
  | [], _, _, c => c
  | h :: hs, o, hl, c => ordE_ocF P hN hs _ (fun x hx => hl x (List.mem_cons_of_mem _ hx)) (oc_next P hN c (hl h (List.mem_cons_self ..)))
theorem ordE_oc (P : ∀ x, x < N → f x < N) (hN : N % 2 = 0) (hs : List Nat) (hl : ∀ h ∈ hs, h < N) : Oc f N (ordE f N hs) := ordE_ocF P hN hs [] hl oc_nil
theorem ordE_subF : ∀ (hs o : List Nat), ∀ x ∈ o, x ∈ hs.foldl (fun o h => goE f N 0 (addE o h)) o
  | [], _, _, h => h
  | a :: hs, o, x, h => ordE_subF hs _ x (goE_sub _ _ _ x (addE_sub o a x h))
theorem ordE_memF : ∀ (hs o : List Nat), ∀ x ∈ hs, x ∈ hs.foldl (fun o h => goE f N 0 (addE o h)) o
  | a :: hs, o, x, h => by
    rcases List.mem_cons.mp h with e | h
    · subst e
      exact ordE_subF hs _ x (goE_sub _ _ _ x (addE_mem o x))
    · exact ordE_memF hs _ x h
theorem ordE_mem (hs : List Nat) {x : Nat} (h : x ∈ hs) : x ∈ ordE f N hs := ordE_memF hs [] x h
/-! ### the new mesh -/
theorem idx_at {o : List Nat} {x : Nat} (h : x ∈ o) : o[o.idxOf x]? = some x := by
  have h2 := List.idxOf_lt_length_iff.mpr h
  rw [List.getElem?_eq_getElem h2, List.getElem_idxOf h2]
theorem idx_inj {o : List Nat} {x y : Nat} (hx : x ∈ o) (hy : y ∈ o) (e : o.idxOf x = o.idxOf y) : x = y := by
  have h1 := idx_at hx
  rw [e, idx_at hy] at h1
  exact (Option.some.inj h1).symm
theorem idx_of {o : List Nat} (nd : o.Nodup) {i x : Nat} (h : o[i]? = some x) : o.idxOf x = i := by
  obtain ⟨hi, e⟩ := List.getElem?_eq_some_iff.mp h
  subst e
  exact nd.idxOf_getElem i hi
/-- the new next links, the new numbers -/
def newN (f : Nat → Nat) (o : List Nat) : List Nat := o.map fun h => o.idxOf (f h)
def newH (o hs : List Nat) : List Nat := hs.map fun h => o.idxOf h
theorem newN_len (f : Nat → Nat) (o : List Nat) : (newN f o).length = o.length := List.length_map ..
theorem newN_eq {o : List Nat} : newN f o = (List.range o.length).map (fun i => o.idxOf (f (fn o i))) := by
  refine List.ext_getElem? fun i => ?_
  unfold newN
  by_cases h : i < o.length
  · rw [List.getElem?_map, List.getElem?_map, List.getElem?_range h, fn_get h]
    rfl
  · rw [List.getElem?_eq_none (by rw [List.length_map]; omega), List.getElem?_eq_none (by rw [List.length_map, List.length_range]; omega)]
theorem isP_newN (P : Pf f N) {o : List Nat} (c : Oc f N o) : IsP (newN f o) := by
  rw [newN_eq]
  refine isP_of ⟨fun i hi => List.idxOf_lt_length_iff.mpr (c.cl _ (fn_mem hi)), fun i j hi hj e => ?_⟩
  have h1 := idx_inj (c.cl _ (fn_mem hi)) (c.cl _ (fn_mem hj)) e
  have h2 := P.inj _ _ (c.od.lt _ (fn_mem hi)) (c.od.lt _ (fn_mem hj)) h1
  have h3 := idx_of c.od.nd (fn_get hi)
  have h4 := idx_of c.od.nd (fn_get hj)
  rw [← h3, ← h4, h2]
theorem fn_newN {o : List Nat} (c : Oc f N o) {x : Nat} (h : x ∈ o) : fn (newN f o) (o.idxOf x) = o.idxOf (f x) := by
  refine fn_at ?_
  unfold newN
  rw [List.getElem?_map, idx_at h]
  rfl
/-! ### the new mesh again -/
theorem addE_map {O o : List Nat} (c : Oc f N O) (ho : ∀ x ∈ o, x ∈ O) {h : Nat} (hh : h ∈ O) : addE (o.map O.idxOf) (O.idxOf h) = (addE o h).map O.idxOf := by
  by_cases q : h ∈ o
  · rw [addE_in q, addE_in (List.mem_map.mpr ⟨h, q, rfl⟩)]
  · rw [addE_out q, addE_out (fun z => by
      obtain ⟨y, hy, e⟩ := List.mem_map.mp z
      rw [← idx_inj (ho y hy) hh e] at q
      exact q hy), List.map_append, ← c.od.ix h hh]
    rfl
theorem addE_in_O {O o : List Nat} (c : Oc f N O) (ho : ∀ x ∈ o, x ∈ O) {h : Nat} (hh : h ∈ O) : ∀ x ∈ addE o h, x ∈ O := fun x hx => by
  rcases addE_from hx with q | q | q
  · exact ho x q
  · rw [q]
    exact hh
  · rw [q]
    exact c.od.tm h hh
theorem goE_map {O : List Nat} (c : Oc f N O) : ∀ n k (o : List Nat), (∀ x ∈ o, x ∈ O) → goE (fn (newN f O)) n k (o.map O.idxOf) = (goE f n k o).map O.idxOf ∧ ∀ x ∈ goE f n k o, x ∈ O
  | 0, _, _, ho => ⟨rfl, ho⟩
  | n + 1, k, o, ho => by
    by_cases q : k < o.length
    · have hk : o[k] ∈ O := ho _ (List.getElem_mem q)
      rw [goE_step q, goE_step (by rw [List.length_map]; exact q), List.getElem_map, fn_newN c hk, addE_map c ho (c.cl _ hk)]
      exact goE_map c n (k + 1) _ (addE_in_O c ho (c.cl _ hk))
    · rw [goE_stop q, goE_stop (by rw [List.length_map]; exact q)]
      exact ⟨rfl, ho⟩
theorem foldE_map {O : List Nat} (c : Oc f N O) (m : Nat) : ∀ (hs o : List Nat), (∀ x ∈ o, x ∈ O) → (∀ x ∈ hs, x ∈ O) → (hs.map O.idxOf).foldl (fun o h => goE (fn (newN f O)) m 0 (addE o h)) (o.map O.idxOf) = (hs.foldl (fun o h => goE f m 0 (addE o h)) o).map O.idxOf
  | [], _, _, _ => rfl
  | h :: hs, o, ho, hh => by
    have h1 := hh h (List.mem_cons_self ..)
    obtain ⟨e1, e2⟩ := goE_map c m 0 (addE o h) (addE_in_O c ho h1)
    show (hs.map O.idxOf).foldl _ (goE _ m 0 (addE (o.map O.idxOf) (O.idxOf h))) = _
    rw [addE_map c ho h1, e1]
    exact foldE_map c m hs _ e2 fun x hx => hh x (List.mem_cons_of_mem _ hx)
theorem map_idx {O : List Nat} (nd : O.Nodup) : O.map O.idxOf = List.range O.length := by
  refine List.ext_getElem? fun i => ?_
  by_cases h : i < O.length
  · rw [List.getElem?_map, fn_get h, List.getElem?_range h]
    show some (O.idxOf (fn O i)) = _
    rw [idx_of nd (fn_get h)]
  · rw [List.getElem?_eq_none (by rw [List.length_map]; omega), List.getElem?_eq_none (by rw [List.length_range]; omega)]
/-- fuel enough is enough -/
theorem foldE_fuel {f : Nat → Nat} {M : Nat} (P : ∀ x, x < M → f x < M) (hM : M % 2 = 0) (m : Nat) : ∀ (hs o : List Nat), (∀ h ∈ hs, h < M) → Oc f M o → hs.foldl (fun o h => goE f (M + m) 0 (addE o h)) o = hs.foldl (fun o h => goE f M 0 (addE o h)) o
  | [], _, _, _ => rfl
  | h :: hs, o, hl, c => by
    show hs.foldl _ (goE f (M + m) 0 (addE o h)) = hs.foldl _ (goE f M 0 (addE o h))
    rw [goE_more P hM (c.od.add hM (hl h (List.mem_cons_self ..))) (by omega) m]
    exact foldE_fuel P hM m hs _ (fun x hx => hl x (List.mem_cons_of_mem _ hx)) (oc_next P hM c (hl h (List.mem_cons_self ..)))
/-- the new mesh and the new numbers give themselves -/
theorem ordE_again (P : Pf f N) (hN : N % 2 = 0) {hs : List Nat} (hl : ∀ h ∈ hs, h < N) :
    ordE (fn (newN f (ordE f N hs))) (newN f (ordE f N hs)).length (newH (ordE f N hs) hs) = List.range (ordE f N hs).length := by
  have c := ordE_oc (fun x hx => P.lt x hx) hN hs hl
  have hO : ∀ x ∈ hs, x ∈ ordE f N hs := fun x hx => ordE_mem hs hx
  have hI := isP_newN P c
  have PI := pf_fn hI
  have le := c.od.le
  have hlen := newN_len f (ordE f N hs)
  have q1 := foldE_map c N hs [] (fun x hx => (nomatch hx)) hO
  have hl2 : ∀ h ∈ newH (ordE f N hs) hs, h < (newN f (ordE f N hs)).length := fun h hh => by
    obtain ⟨x, hx, rfl⟩ := List.mem_map.mp hh
    rw [hlen]
    exact List.idxOf_lt_length_iff.mpr (hO x hx)
  have q2 := foldE_fuel (f := fn (newN f (ordE f N hs))) (M := (newN f (ordE f N hs)).length) (fun x hx => PI.lt x hx) (by rw [hlen]; exact c.od.ev) (N - (newN f (ordE f N hs)).length) (newH (ordE f N hs) hs) [] hl2 oc_nil
  rw [show (newN f (ordE f N hs)).length + (N - (newN f (ordE f N hs)).length) = N by omega] at q2
  unfold ordE at q2 ⊢
  rw [← q2]
  unfold ordE at q1
  have e : newH (hs.foldl (fun o h => goE f N 0 (addE o h)) []) hs = hs.map (hs.foldl (fun o h => goE f N 0 (addE o h)) []).idxOf := rfl
  rw [e]
  refine q1.trans ?_
  exact map_idx c.od.nd
theorem range_idx {n x : Nat} (h : x < n) : (List.range n).idxOf x = x := idx_of List.nodup_range (List.getElem?_range h)
theorem newN_range {ms : List Nat} (h : IsP ms) : newN (fn ms) (List.range ms.length) = ms := by
  unfold newN
  refine List.ext_getElem? fun i => ?_
  by_cases q : i < ms.length
  · rw [List.getElem?_map, List.getElem?_range q, fn_get q]
    show some ((List.range ms.length).idxOf (fn ms i)) = _
    rw [range_idx ((pf_fn h).lt i q)]
  · rw [List.getElem?_eq_none (by rw [List.length_map, List.length_range]; omega), List.getElem?_eq_none (by omega)]
theorem newH_range {hs : List Nat} {n : Nat} (h : ∀ x ∈ hs, x < n) : newH (List.range n) hs = hs := by
  unfold newH
  have : hs.map (fun h => (List.range n).idxOf h) = hs.map id := List.map_congr_left fun x hx => range_idx (h x hx)
  rw [this, List.map_id]
end
end Hm
namespace Hm
open PySem PySem.Spec PyProof.Rows L2 Evl
theorem hu1 {k : Nat} {A : Around} (r : Room k A) : A.units + 1 < cLine := by
  have := r.units
  omega
/-! ### dicts of numbers -/
section
variable {K : PySem.W.Frag} {σ : L2.St} {H : Hp} {ty td tv te ta tb : TE} {D : Ends} {tz tu : TS}
theorem ev_dnin {d : Addr} {kvs : List (Key × V)} {i : Int} (hy : Ev ty σ H (.int i)) (hd : Ev td σ H (.ref d)) (h : H d = some (.dK kvs)) : Ev (tDNotIn ty td) σ H (.bl (!(valV kvs (.inl i)).isSome)) := fun H1 e Q q =>
  hy H1 e _ fun H2 e2 => hd H2 (e.trans e2) _ fun H3 e3 => ⟨d, _, rfl, DGet.k (k := .inl i) (((e.trans e2).trans e3) _ _ h), q H3 (e2.trans e3)⟩
theorem ev_din {d : Addr} {kvs : List (Key × V)} {i : Int} (hy : Ev ty σ H (.int i)) (hd : Ev td σ H (.ref d)) (h : H d = some (.dK kvs)) : Ev (tDIn ty td) σ H (.bl (valV kvs (.inl i)).isSome) := fun H1 e Q q =>
  hy H1 e _ fun H2 e2 => hd H2 (e.trans e2) _ fun H3 e3 => ⟨d, _, rfl, DGet.k (k := .inl i) (((e.trans e2).trans e3) _ _ h), q H3 (e2.trans e3)⟩
theorem ev_dget {d : Addr} {kvs : List (Key × V)} {i : Int} {v : V} (hd : Ev td σ H (.ref d)) (hy : Ev ty σ H (.int i)) (h : H d = some (.dK kvs)) (hv : valV kvs (.inl i) = some v) : Ev (tDGet td ty) σ H v := fun H1 e Q q =>
  hd H1 e _ fun H2 e2 => hy H2 (e.trans e2) _ fun H3 e3 => ⟨d, v, rfl, by
    have g := DGet.k (k := .inl i) (((e.trans e2).trans e3) _ _ h)
    rw [hv] at g
    exact g, q H3 (e2.trans e3)⟩
theorem q_dput {d : Addr} {kvs : List (Key × V)} {i : Int} {v : V} (hv : Ev tv σ H v) (hd : Ev td σ H (.ref d)) (hy : Ev ty σ H (.int i)) (h : H d = some (.dK kvs)) (hl : kvs.length < 100000) (k : ∀ H1, Ex H H1 → tz D σ (upd H1 d (.dK (putK kvs (.inl i) v)))) : tSeq (sDPut td ty tv) tz D σ H :=
  hv H (Ex.refl H) _ fun H1 e1 => hd H1 e1 _ fun H2 e2 => hy H2 (e1.trans e2) _ fun H3 e3 => ⟨d, _, rfl, DPut.k (k := .inl i) (((e1.trans e2).trans e3) _ _ h) (sz_lt hl), k H3 ((e1.trans e2).trans e3)⟩
theorem q_asgD {i : Nat} (k : ∀ p, H p = none → tz D (σ.set i (some (.ref p))) (upd H p (.dK []))) : tSeq (tAsg tDNewK (gName i)) tz D σ H := fun p hp => k p hp
theorem s_forNTn {xs : List V} {tl : TE} {j : Nat} (h : EvU tl σ H xs) (Pv : Addr → Nat → L2.St → Hp → Prop) (h0 : ∀ p H1, H p = none → Ex H H1 → H1 p = some (.tup xs) → Pv p 0 σ H1) (hl : ∀ p i σ' H', i ≤ xs.length → Pv p i σ' H' → SqT K H' p xs)
    (hs : ∀ p i x σ' H', xs[i]? = some x → Pv p i σ' H' → tu { D with nx := Pv p (i + 1), ct := Pv p (i + 1), bk := D.nx } (σ'.set j (some x)) H') (hd : ∀ p σ' H', Pv p xs.length σ' H' → D.nx σ' H') : tFor (iTup K tl) (gName j) tu D σ H :=
  h H (Ex.refl H) _ fun p H1 hp e h1 => ⟨p, rfl, ⟨xs, st_of h1⟩, for_tup (Pv p) (h0 p H1 hp e h1) (hl p) (hs p) (hd p)⟩
theorem s_retTup2 (h : ta σ H fun v H1 => tb σ H1 fun w H2 => 2 ≤ sizeLine ∧ ∀ T, H2 T = none → D.rt (.ref T) (upd H2 T (.tup [v, w]))) : tRet (tTup (tCons ta (tCons tb tNil))) D σ H := h
end
/-- all but two objects is kept -/
def Ex2 (o d : Addr) (H H' : Hp) : Prop := ∀ a u, a ≠ o → a ≠ d → H a = some u → H' a = some u
theorem Ex2.of {o d : Addr} {H H' : Hp} (e : Ex H H') : Ex2 o d H H' := fun a u _ _ h => e a u h
theorem Ex2.trans {o d : Addr} {H H1 H2 : Hp} (a : Ex2 o d H H1) (b : Ex2 o d H1 H2) : Ex2 o d H H2 := fun x u n m h => b x u n m (a x u n m h)
theorem Ex2.upd1 {o d : Addr} {H H' : Hp} {u : HO} (a : Ex2 o d H H') : Ex2 o d H (L2.upd H' o u) := fun x v n m h => by
  rw [upd_ne n]
  exact a x v n m h
theorem Ex2.upd2 {o d : Addr} {H H' : Hp} {u : HO} (a : Ex2 o d H H') : Ex2 o d H (L2.upd H' d u) := fun x v n m h => by
  rw [upd_ne m]
  exact a x v n m h
theorem Ex2.ex {o d : Addr} {H0 H H' : Hp} (a : Ex2 o d H H') (e : Ex H0 H) (h1 : H0 o = none) (h2 : H0 d = none) : Ex H0 H' := fun x u h => a x u (ne_of_none h h1) (ne_of_none h h2) (e x u h)
/-- a dict that numbers the halves of an order -/
def DkE (kvs : List (Key × V)) (o : List Nat) : Prop := kvs.length ≤ o.length ∧ ∀ h : Nat, valV kvs (.inl (h : Int)) = if h ∈ o then some (vi (o.idxOf h)) else none
theorem dkE_nil : DkE [] [] := ⟨Nat.le_refl _, fun h => by rw [if_neg (by simp)]; rfl⟩
theorem dkE_some {kvs : List (Key × V)} {o : List Nat} (D : DkE kvs o) (h : Nat) : (valV kvs (.inl (h : Int))).isSome = decide (h ∈ o) := by
  rw [D.2]
  by_cases q : h ∈ o
  · rw [if_pos q, decide_eq_true q]
    rfl
  · rw [if_neg q, decide_eq_false q]
    rfl
theorem dkE_snoc {kvs : List (Key × V)} {o : List Nat} {h : Nat} (D : DkE kvs o) (q : h ∉ o) : DkE (putK kvs (.inl (h : Int)) (vi o.length)) (o ++ [h]) := by
  refine ⟨Nat.le_trans (length_putK _ _ _) (by rw [List.length_append]; exact Nat.succ_le_succ D.1), fun x => ?_⟩
  rw [valV_put, D.2]
  by_cases e : x = h
  · subst e
    rw [if_pos rfl, if_pos (by simp), List.idxOf_append, if_neg q]
    simp
  · have ne : ¬ ((Sum.inl (x : Int) : Key) = Sum.inl (h : Int)) := fun z => e (by have := Sum.inl.inj z; omega)
    rw [if_neg ne]
    by_cases m : x ∈ o
    · rw [if_pos m, if_pos (List.mem_append_left _ m), List.idxOf_append, if_pos m]
    · rw [if_neg m, if_neg (by simp [m, e])]
def sp_addedge (K : PySem.W.Frag) : Sp := fun vs H Q _ => ∃ (x o d : Addr) (h : Nat) (ns ord : List Nat) (kvs : List (Key × V)), vs = [.ref x, vi h, .ref o, .ref d] ∧ MeshAt K H x ns ∧ H o = some (.lst (L ord)) ∧ H d = some (.dK kvs) ∧ DkE kvs ord ∧ (h ∉ ord → tw h ∉ ord) ∧ ord.length ≤ 1000 ∧
  ∀ H' kvs', H' o = some (.lst (L (addE ord h))) → H' d = some (.dK kvs') → DkE kvs' (addE ord h) → Ex2 o d H H' → Q .non H'
abbrev nm_addedge : List Str := ["mesh", "half", "order", "numbers", "member"]
abbrev pr_addedge : List Str := ["mesh", "half", "order", "numbers"]
def t_addedge (K : PySem.W.Frag) : TS :=
  (tIfS (tB (tDNotIn (tVar 1) (tVar 3))) (tFor (iTup K (tTup (tCons (tVar 1) (tCons (tMeth (He.ga K "Mesh") "twin" (sp_Meshtwin K) [] E0 (tVar 0) (tCons (tVar 1) tNil)) tNil)))) (gName 4) (tSeq (sDPut (tVar 3) (tVar 4) (tCB (cLen K) (tCons (tVar 2) tNil)))
      (tDrop (tBM K "list" rAppend (tVar 2) (tCons (tVar 4) tNil))))) tNext)
abbrev Wt_addedge (K : PySem.W.Frag) (vs : List V) (H : Hp) (Q : VK) : Prop := t_addedge K { nx := fun _ H' => Q .non H', rt := Q } (start nm_addedge vs) H
theorem ln_addedge {K : PySem.W.Frag} (vs : List V) (H : Hp) (Q : VK) (E : XK) (h : sp_addedge K vs H Q E) : vs.length = pr_addedge.length := by
  obtain ⟨_, _, _, _, _, _, _, rfl, _⟩ := h
  rfl
theorem rd_addedge {K : PySem.W.Frag} (F : KF K) (vs : List V) (H : Hp) (Q : VK) (E : XK) (h : sp_addedge K vs H Q E) : Wt_addedge K vs H Q := by
  obtain ⟨x, o, d, h, ns, ord, kvs, rfl, hm, ho, hd, hD, ht, hz, k⟩ := h
  show t_addedge K _ [some (.ref x), some (vi h), some (.ref o), some (.ref d), none] H
  have hod : o ≠ d := fun q => by
    rw [q, hd] at ho
    cases ho
  refine s_when (et_B (ev_dnin (ev_var rfl) (ev_var rfl) hd)) (fun hb H1 e1 => ?_) (fun hb H1 e1 => ?_)
  · have q : h ∉ ord := fun z => by
      rw [dkE_some hD, decide_eq_true z] at hb
      cases hb
    have qt := ht q
    have q2 : tw h ∉ ord ++ [h] := fun z => by
      rcases List.mem_append.mp z with z | z
      · exact qt z
      · exact tw_ne h (List.mem_singleton.mp z)
    have turn : ∀ (p : Addr) (y : Nat) (cur : List Nat) (σ4 : Option V) (H' : Hp) (kvs' : List (Key × V)) (N : L2.St → Hp → Prop) (B C : L2.St → Hp → Prop) (R : VK), H' o = some (.lst (L cur)) → H' d = some (.dK kvs') → DkE kvs' cur → y ∉ cur → cur.length ≤ 1001 → p ≠ o → p ≠ d →
        (∀ H2 kvs2, H2 o = some (.lst (L (cur ++ [y]))) → H2 d = some (.dK kvs2) → DkE kvs2 (cur ++ [y]) → Ex2 o d H' H2 → N [some (.ref x), some (vi h), some (.ref o), some (.ref d), some (vi y)] H2) →
        (tSeq (sDPut (tVar 3) (tVar 4) (tCB (cLen K) (tCons (tVar 2) tNil))) (tDrop (tBM K "list" rAppend (tVar 2) (tCons (tVar 4) tNil)))) { nx := N, rt := R, bk := B, ct := C } [some (.ref x), some (vi h), some (.ref o), some (.ref d), some (vi y)] H' := by
      intro p y cur σ4 H' kvs' N B C R g1 g2 g3 g4 g5 _ _ kk
      refine q_dput (v := vi cur.length) (ev_is (ev_cb (ea_1 (ev_var rfl)) (rc_len (sq_of g1))) (by rw [L_len])) (ev_var rfl) (ev_var rfl) g2 (by have := g3.1; omega) (fun H2 e2 => ?_)
      have g1' : (upd H2 d (.dK (putK kvs' (.inl (y : Int)) (vi cur.length)))) o = some (.lst (L cur)) := by
        rw [upd_ne hod]
        exact e2 _ _ g1
      refine s_app g1' (ev_var rfl) (ev_var rfl) (by rw [L_len]; omega) (fun H3 e3 => ?_)
      refine kk _ (putK kvs' (.inl (y : Int)) (vi cur.length)) (by rw [upd_same, L_app]; rfl) (by rw [upd_ne hod.symm]; exact e3 _ _ upd_same) (dkE_snoc g3 g4) ((((Ex2.of e2).upd2).trans (Ex2.of e3)).upd1)
    refine s_forNTn (xs := [vi h, vi (tw h)]) (eu_tup (ea_2 (ev_var rfl) (ev_mm (hm.ex e1) (ev_var rfl) (by decide +kernel) (ea_1 (ev_var rfl)) spv_Meshtwin)) (by show 2 ≤ 100000; decide))
      (fun p i σ' H' => ∃ (v4 : Option V) (cur : List Nat) (kvs' : List (Key × V)), σ' = [some (.ref x), some (vi h), some (.ref o), some (.ref d), v4] ∧ H' p = some (.tup [vi h, vi (tw h)]) ∧ p ≠ o ∧ p ≠ d ∧ cur = ord ++ [h, tw h].take i ∧ H' o = some (.lst (L cur)) ∧ H' d = some (.dK kvs') ∧ DkE kvs' cur ∧ Ex2 o d H H') ?_ ?_ ?_ ?_
    · intro p H2 hp e2 h2
      have o2 := e2 _ _ (e1 _ _ ho)
      have d2 := e2 _ _ (e1 _ _ hd)
      exact ⟨_, ord, kvs, rfl, h2, (ne_of_none (e1 _ _ ho) hp).symm, (ne_of_none (e1 _ _ hd) hp).symm, by simp, o2, d2, hD, Ex2.of (e1.trans e2)⟩
    · rintro p i σ' H' _ ⟨_, _, _, _, h2, _⟩
      exact st_of h2
    · rintro p i y σ' H' hy ⟨v4, cur, kvs', rfl, h2, n1, n2, rfl, a1, a2, a3, a4⟩
      match i, hy with
      | 0, hy =>
        obtain rfl : vi h = y := Option.some.inj hy
        have e0 : ord ++ [h, tw h].take 0 = ord := by simp
        rw [e0] at a1 a3
        refine turn p h ord v4 H' kvs' _ _ _ _ a1 a2 a3 q (by omega) n1 n2 (fun H3 kvs3 b1 b2 b3 b4 => ?_)
        exact ⟨_, _, kvs3, rfl, b4 _ _ n1 n2 h2, n1, n2, rfl, b1, b2, b3, a4.trans b4⟩
      | 1, hy =>
        obtain rfl : vi (tw h) = y := Option.some.inj hy
        have e1 : ord ++ [h, tw h].take 1 = ord ++ [h] := by simp
        have e2 : ord ++ [h, tw h].take (1 + 1) = (ord ++ [h]) ++ [tw h] := by simp
        rw [e1] at a1 a3
        refine turn p (tw h) (ord ++ [h]) v4 H' kvs' _ _ _ _ a1 a2 a3 q2 (by rw [List.length_append]; show ord.length + 1 ≤ 1001; omega) n1 n2 (fun H3 kvs3 b1 b2 b3 b4 => ?_)
        exact ⟨_, _, kvs3, rfl, b4 _ _ n1 n2 h2, n1, n2, rfl, by rw [e2]; exact b1, b2, by rw [e2]; exact b3, a4.trans b4⟩
      | n + 2, hy => cases hy
    · rintro p σ' H' ⟨v4, cur, kvs', rfl, h2, n1, n2, rfl, a1, a2, a3, a4⟩
      have e : ord ++ [h, tw h].take [vi h, vi (tw h)].length = addE ord h := by
        rw [addE_out q]
        rfl
      rw [e] at a1 a3
      exact k H' kvs' a1 a2 a3 a4
  · have q : h ∈ ord := Classical.byContradiction fun z => by
      rw [dkE_some hD, decide_eq_false z] at hb
      cases hb
    have := k H1 kvs
    rw [addE_in q] at this
    exact this (e1 _ _ ho) (e1 _ _ hd) hD (Ex2.of e1)
end Hm
namespace Hm
open PySem PySem.Spec PyProof.Rows L2 Evl
theorem pfl {ns : List Nat} (h : IsP ns) : ∀ x, x < ns.length → fn ns x < ns.length := fun x hx => (pf_fn h).lt x hx
theorem Od.out {N : Nat} {o : List Nat} (h : Od N o) {x : Nat} (q : x ∉ o) : tw x ∉ o := fun z => q (by have := h.tm _ z; rwa [tw_tw] at this)
/-- what is met behind the halves hs of a mesh -/
abbrev ordM (ns hs : List Nat) : List Nat := ordE (fn ns) ns.length hs
def sp_numbered (K : PySem.W.Frag) : Sp := fun vs H Q _ => ∃ (x p : Addr) (ns hs : List Nat), vs = [.ref x, .ref p] ∧ MeshAt K H x ns ∧ MP ns ∧ SqL K H p (L hs) ∧ (∀ h ∈ hs, h < ns.length) ∧ hs.length ≤ 1000 ∧
  ∀ T y q H', H T = none → H y = none → H q = none → Ex H H' → H' T = some (.tup [.ref y, .ref q]) → MeshN K H H' y (newN (fn ns) (ordM ns hs)) → H' q = some (.lst (L (newH (ordM ns hs) hs))) → Q (.ref T) H'
abbrev nm_numbered : List Str := ["mesh", "halves", "order", "numbers", "done", "half", "nexts"]
abbrev pr_numbered : List Str := ["mesh", "halves"]
def t_numbered (K : PySem.W.Frag) : TS :=
  (tSeq (tAsg (tLst tNil) (gName 2))
  (tSeq (tAsg tDNewK (gName 3))
  (tSeq (tAsg (tC (.int 0)) (gName 4))
  (tSeq (tFor (iList K (tVar 1)) (gName 5) (tSeq (tDrop (tCall (sp_addedge K) [] E0 (tCons (tVar 0) (tCons (tVar 5) (tCons (tVar 2) (tCons (tVar 3) tNil))))))
      (tWhile (tTest (tOp zLt (tVar 4) (tCB (cLen K) (tCons (tVar 2) tNil)))) (tSeq (tDrop (tCall (sp_addedge K) [] E0 (tCons (tVar 0) (tCons (tMeth (He.ga K "Mesh") "after" (sp_Meshafter K) [] E0 (tVar 0) (tCons (tOp (rIxL K) (tVar 2) (tVar 4)) tNil)) (tCons (tVar 2) (tCons (tVar 3) tNil))))))
        (tAug 4 (tC (.int 1)) (ipI fun i j => i + j))))))
  (tSeq (tAsg (tLc (iList K (tVar 2)) (gName 5) tYes (tDGet (tVar 3) (tMeth (He.ga K "Mesh") "after" (sp_Meshafter K) [] E0 (tVar 0) (tCons (tVar 5) tNil))) [5]) (gName 6))
  (tRet (tTup (tCons (tMake (He.ga K "Mesh") (sp_Meshinit K) [] E0 (tCons (tVar 6) tNil)) (tCons (tLc (iList K (tVar 1)) (gName 5) tYes (tDGet (tVar 3) (tVar 5)) [5]) tNil)))))))))
abbrev Wt_numbered (K : PySem.W.Frag) (vs : List V) (H : Hp) (Q : VK) : Prop := t_numbered K { nx := fun _ H' => Q .non H', rt := Q } (start nm_numbered vs) H
theorem ln_numbered {K : PySem.W.Frag} (vs : List V) (H : Hp) (Q : VK) (E : XK) (h : sp_numbered K vs H Q E) : vs.length = pr_numbered.length := by
  obtain ⟨_, _, _, _, rfl, _⟩ := h
  rfl
theorem rd_numbered {K : PySem.W.Frag} (F : KF K) (vs : List V) (H : Hp) (Q : VK) (E : XK) (h : sp_numbered K vs H Q E) : Wt_numbered K vs H Q := by
  obtain ⟨x, p, ns, hs, rfl, hm, hM, hp, hl, hz, k⟩ := h
  show t_numbered K _ [some (.ref x), some (.ref p), none, none, none, none, none] H
  have P := pfl hM.p
  have two := hM.two
  have nl := hM.len
  refine q_asgL (el_lst ea_nil (Nat.zero_le _)) (fun o H1 ho e1 h1 => ?_)
  refine q_asgD (fun d hd => ?_)
  have x1 : Ex H (upd H1 d (.dK [])) := e1.trans (Ex.new hd)
  have hd0 : H d = none := fresh_back e1 hd
  have hod : o ≠ d := ne_of_none h1 hd
  have o1 : (upd H1 d (.dK [])) o = some (.lst (L [])) := by
    rw [upd_ne hod]
    exact h1
  refine q_asg ev_c (fun H2 e2 => ?_)
  have ocI : ∀ i, Oc (fn ns) ns.length (ordM ns (hs.take i)) := fun i => ordE_oc P two _ (fun h hh => hl h (List.mem_of_mem_take hh))
  refine q_forLn (ev_var rfl) (ex_l (x1.trans e2) hp) (fun i σ' H' => ∃ (v5 : Option V) (kvs : List (Key × V)), σ' = [some (.ref x), some (.ref p), some (.ref o), some (.ref d), some (vi (ordM ns (hs.take i)).length), v5, none] ∧ Ex H H' ∧
    H' o = some (.lst (L (ordM ns (hs.take i)))) ∧ H' d = some (.dK kvs) ∧ DkE kvs (ordM ns (hs.take i))) ?_ ?_ ?_ ?_
  · intro H3 e3
    exact ⟨_, [], rfl, x1.trans (e2.trans e3), e3 _ _ (e2 _ _ o1), e3 _ _ (e2 _ _ upd_same), dkE_nil⟩
  · rintro i σ' H' _ ⟨_, _, _, ex, _⟩
    exact ex_l ex hp
  · rintro i y σ' H' hy ⟨v5, kvs, rfl, ex, g1, g2, g3⟩
    obtain ⟨hi, rfl⟩ := L_item hy
    have hy' : fn hs i < ns.length := hl _ (fn_mem hi)
    have oc := ocI i
    have ole := oc.od.le
    have e' : ordM ns (hs.take (i + 1)) = goE (fn ns) ns.length 0 (addE (ordM ns (hs.take i)) (fn hs i)) := by
      have : hs.take (i + 1) = hs.take i ++ [fn hs i] := by
        rw [List.take_add_one, fn_get hi]
        rfl
      rw [this]
      exact ordE_snoc _ _
    refine q_dropC (ea_cons (ev_var rfl) (ea_cons (ev_var rfl) (ea_2 (ev_var rfl) (ev_var rfl)))) (fun H3 e3 => ?_)
    refine ⟨x, o, d, fn hs i, ns, _, kvs, rfl, hm.ex (ex.trans e3), e3 _ _ g1, e3 _ _ g2, g3, oc.od.out, by omega, fun H4 kvs4 a1 a2 a3 a4 => ?_⟩
    have x4 : Ex H H4 := a4.ex (ex.trans e3) ho hd0
    have od4 := oc.od.add two hy'
    refine s_while (fun m σ' H' => ∃ (dn : Nat) (cur : List Nat) (kvs : List (Key × V)), m = ns.length - dn ∧ dn ≤ cur.length ∧ Od ns.length cur ∧ goE (fn ns) (ns.length - dn) dn cur = ordM ns (hs.take (i + 1)) ∧
      σ' = [some (.ref x), some (.ref p), some (.ref o), some (.ref d), some (vi dn), some (vi (fn hs i)), none] ∧ Ex H H' ∧ H' o = some (.lst (L cur)) ∧ H' d = some (.dK kvs) ∧ DkE kvs cur) _ ⟨(ordM ns (hs.take i)).length, _, kvs4, rfl, addE_len _ _, od4, ?_, rfl, x4, a1, a2, a3⟩ ?_
    · rw [e']
      have q := goE_skips (f := fn ns) (o := addE (ordM ns (hs.take i)) (fn hs i)) (d := (ordM ns (hs.take i)).length) (ns.length - (ordM ns (hs.take i)).length) 0 (by have := addE_len (ordM ns (hs.take i)) (fn hs i); omega) (fun j hj hk => by
        have hj2 : j < (ordM ns (hs.take i)).length := by omega
        have e : (addE (ordM ns (hs.take i)) (fn hs i))[j] = (ordM ns (hs.take i))[j] := by
          have := addE_get (h := fn hs i) hj2
          rw [List.getElem?_eq_getElem hj, List.getElem?_eq_getElem hj2] at this
          exact Option.some.inj this
        rw [e]
        exact addE_sub _ _ _ (oc.cl _ (List.getElem_mem hj2)))
      rw [Nat.sub_add_cancel ole, Nat.zero_add] at q
      exact q.symm
    · rintro m σ' H5 ⟨dn, cur, kvs5, rfl, hdn, od5, hgo, rfl, x5, b1, b2, b3⟩
      have cle := od5.le
      refine ⟨decide ((dn : Int) < (cur.length : Int)), et_test (ev_op (ev_var rfl) (ev_is (ev_cb (ea_1 (ev_var rfl)) (rc_len (sq_of b1))) (by rw [L_len])) rv_I0), fun hb H6 e6 => ?_, fun hb H6 e6 => ?_⟩
      · have hlt : dn < cur.length := by
          have := of_decide_eq_true hb
          omega
        refine ⟨_, fun σ2 H2 hw => hw, ?_⟩
        have hc : fn cur dn < ns.length := od5.lt _ (fn_mem hlt)
        have m6 := hm.ex (x5.trans e6)
        refine q_dropC (ea_cons (ev_var rfl) (ea_cons (ev_mm m6 (ev_var rfl) (by decide +kernel) (ea_1 (ev_op (ev_var rfl) (ev_var rfl) (rv_ixL (sq_of (e6 _ _ b1)) (L_at hlt)))) (spv_Meshafter m6 hc)) (ea_2 (ev_var rfl) (ev_var rfl)))) (fun H7 e7 => ?_)
        refine ⟨x, o, d, fn ns (fn cur dn), ns, cur, kvs5, rfl, m6.ex e7, e7 _ _ (e6 _ _ b1), e7 _ _ (e6 _ _ b2), b3, od5.out, by omega, fun H8 kvs8 c1 c2 c3 c4 => ?_⟩
        refine s_aug (f := fun i j => i + j) (a := (dn : Int)) (b := 1) rfl ev_c (fun H9 e9 => ?_)
        refine ⟨ns.length - (dn + 1), by omega, dn + 1, _, kvs8, rfl, by have := addE_len cur (fn ns (fn cur dn)); omega, od5.add two (P _ hc), ?_, ?_, (c4.ex ((x5.trans e6).trans e7) ho hd0).trans e9, e9 _ _ c1, e9 _ _ c2, c3⟩
        · rw [← hgo]
          have e1 : ns.length - dn = (ns.length - (dn + 1)) + 1 := by omega
          have e2 : fn cur dn = cur[dn] := by
            have := fn_get hlt
            rw [List.getElem?_eq_getElem hlt] at this
            exact (Option.some.inj this).symm
          rw [e1, goE_step hlt, e2]
        · have : ((dn : Int) + 1) = ((dn + 1 : Nat) : Int) := by omega
          show [some (V.ref x), some (.ref p), some (.ref o), some (.ref d), some (.int ((dn : Int) + 1)), some (vi (fn hs i)), none] = _
          rw [this]
      · have hge : cur.length ≤ dn := by
          have := of_decide_eq_false hb
          omega
        rw [goE_stop (by omega)] at hgo
        have edn : dn = cur.length := by omega
        rw [hgo] at b1 b3 edn
        subst edn
        exact ⟨_, kvs5, rfl, x5.trans e6, e6 _ _ b1, e6 _ _ b2, b3⟩
  · rintro σ' H3 ⟨v5, kvs, rfl, x3, g1, g2, g3⟩
    rw [L_len, List.take_of_length_le (Nat.le_refl _)] at *
    have oc : Oc (fn ns) ns.length (ordM ns hs) := ordE_oc P two hs hl
    have ole := oc.od.le
    have hmem : ∀ h ∈ hs, h ∈ ordM ns hs := fun h hh => ordE_mem hs hh
    generalize hO : ordM ns hs = O at *
    have m3 := hm.ex x3
    have hcomp : EvL (tLc (iList K (tVar 2)) (gName 5) tYes (tDGet (tVar 3) (tMeth (He.ga K "Mesh") "after" (sp_Meshafter K) [] E0 (tVar 0) (tCons (tVar 5) tNil))) [5]) [some (.ref x), some (.ref p), some (.ref o), some (.ref d), some (vi O.length), v5, none] H3 (L (newN (fn ns) O)) := by
      have q := el_lcL (K := K) (σ := [some (.ref x), some (.ref p), some (.ref o), some (.ref d), some (vi O.length), v5, none]) (H := H3) (j := 5) (vs := [5]) (tl := tVar 2) (t := tYes) (te := tDGet (tVar 3) (tMeth (He.ga K "Mesh") "after" (sp_Meshafter K) [] E0 (tVar 0) (tCons (tVar 5) tNil))) (fun _ => true) (fun i => vi (O.idxOf (fn ns (fn O i)))) (ev_var rfl) (sq_of g1) (by rw [L_len]; omega) (fun _ => rfl) (fun i y H1 _ _ => et_yes) (fun i y H4 e4 hy _ => by
        obtain ⟨hi, rfl⟩ := L_item hy
        have hc := fn_mem hi
        refine ev_dget (ev_var rfl) (ev_mm (m3.ex e4) (ev_var rfl) (by decide +kernel) (ea_1 (ev_var rfl)) (spv_Meshafter (m3.ex e4) (oc.od.lt _ hc))) (e4 _ _ g2) ?_
        rw [g3.2, if_pos (oc.cl _ hc)])
      rw [given_all, L_len] at q
      rw [newN_eq]
      unfold L
      rw [List.map_map]
      exact q
    refine q_asgL hcomp (fun w H4 hw e4 h4 => ?_)
    have x4 := x3.trans e4
    have MN : MP (newN (fn ns) O) := ⟨isP_newN (pf_fn hM.p) oc, by rw [newN_len]; exact oc.od.ev, by rw [newN_len]; omega⟩
    refine s_retTup2 (mk_mesh (ev_var rfl) (sq_of h4) MN (fun y H5 hy m5 e5 => ?_))
    have x5 := x4.trans e5
    have hcomp2 : EvL (tLc (iList K (tVar 1)) (gName 5) tYes (tDGet (tVar 3) (tVar 5)) [5]) [some (.ref x), some (.ref p), some (.ref o), some (.ref d), some (vi O.length), v5, some (.ref w)] H5 (L (newH O hs)) := by
      have q := el_lcL (K := K) (σ := [some (.ref x), some (.ref p), some (.ref o), some (.ref d), some (vi O.length), v5, some (.ref w)]) (H := H5) (j := 5) (vs := [5]) (tl := tVar 1) (t := tYes) (te := tDGet (tVar 3) (tVar 5)) (fun _ => true) (fun i => vi (O.idxOf (fn hs i))) (ev_var rfl) (ex_l x5 hp) (by rw [L_len]; omega) (fun _ => rfl) (fun i y H1 _ _ => et_yes) (fun i y H6 e6 hy _ => by
        obtain ⟨hi, rfl⟩ := L_item hy
        refine ev_dget (ev_var rfl) (ev_var rfl) (e6 _ _ (e5 _ _ (e4 _ _ g2))) ?_
        rw [g3.2, if_pos (hmem _ (fn_mem hi))])
      rw [given_all, L_len] at q
      have e : (List.range hs.length).map (fun i => vi (O.idxOf (fn hs i))) = L (newH O hs) := by
        refine List.ext_getElem? fun j => ?_
        by_cases hj : j < hs.length
        · rw [List.getElem?_map, List.getElem?_range hj]
          unfold L newH
          rw [List.getElem?_map, List.getElem?_map, fn_get hj]
          rfl
        · rw [List.getElem?_eq_none (by rw [List.length_map, List.length_range]; omega), List.getElem?_eq_none (by unfold newH; rw [L_len, List.length_map]; omega)]
      rw [e] at q
      exact q
    refine hcomp2 H5 (Ex.refl H5) _ (fun q H6 hq e6 h6 => ⟨by show 2 ≤ sizeLine; decide, fun T hT => ?_⟩)
    have x6 := x5.trans e6
    exact k T y q _ (fresh_back x6 hT) (fresh_back x4 hy) (fresh_back x5 hq) (x6.trans (Ex.new hT)) upd_same ((m5.ex (e6.trans (Ex.new hT))).back x4) ((Ex.new hT) _ _ h6)
end Hm
namespace Hm
open PySem PySem.Spec PyProof.Rows L2 Evl
theorem inV_L (h : Nat) : ∀ ord : List Nat, inV (vi h) (L ord) = decide (h ∈ ord)
  | [] => rfl
  | a :: r => by
    have ih := inV_L h r
    unfold inV at ih ⊢
    show (eqV (vi a) (vi h) || (L r).any fun y => eqV y (vi h)) = _
    rw [ih]
    have e : eqV (vi a) (vi h) = decide (a = h) := by
      show decide ((a : Int) = (h : Int)) = _
      by_cases q : a = h
      · rw [q, decide_eq_true rfl, decide_eq_true rfl]
      · rw [decide_eq_false q, decide_eq_false (fun z => q (by omega))]
    rw [e]
    by_cases q : a = h
    · simp [q]
    · by_cases z : h ∈ r
      · simp [q, z]
      · simp [q, z, Ne.symm q]
theorem flat_L : ∀ ord : List Nat, (L ord).all flatV = true
  | [] => rfl
  | a :: r => by
    show (flatV (vi a) && (L r).all flatV) = true
    rw [flat_L r]
    rfl
theorem only_one {l : List Nat} {a : Nat} (nd : l.Nodup) (h : ∀ x, x ∈ l ↔ x = a) : l = [a] := by
  cases l with
  | nil => exact absurd ((h a).mpr rfl) (by simp)
  | cons b r =>
    obtain rfl := (h b).mp (List.mem_cons_self ..)
    cases r with
    | nil => rfl
    | cons c s =>
      obtain rfl := (h c).mp (List.mem_cons_of_mem _ (List.mem_cons_self ..))
      simp at nd
theorem given_idx {O : List Nat} (nd : O.Nodup) {z : Nat} (hz : z ∈ O) : given O.length (fun i => decide (vi (fn O i) = vi z)) (fun i => vi i) = [vi (O.idxOf z)] := by
  unfold given
  have e : (List.range O.length).filter (fun i => decide (vi (fn O i) = vi z)) = [O.idxOf z] := by
    refine only_one (List.nodup_range.filter _) fun x => ?_
    rw [List.mem_filter, List.mem_range]
    constructor
    · rintro ⟨h1, h2⟩
      have h3 : (fn O x : Int) = (z : Int) := V.int.inj (of_decide_eq_true h2)
      have h4 : fn O x = z := Int.ofNat.inj h3
      exact (idx_of nd (by rw [fn_get h1, h4])).symm
    · rintro rfl
      refine ⟨List.idxOf_lt_length_iff.mpr hz, ?_⟩
      rw [fn_at (idx_at hz)]
      exact decide_eq_true rfl
  rw [e]
  rfl
section
variable {K : PySem.W.Frag} {σ : L2.St} {H : Hp} {ta tb te : TE} {D : Ends} {tz : TS} {E : XK}
theorem el_catV {a : Addr} {xs ys : List V} (ha : Ev ta σ H (.ref a)) (hS : H a = some (.lst xs)) (hb : EvL tb σ H ys) (hz : xs.length + ys.length ≤ 100000) : EvL (tOp rCat ta tb) σ H (xs ++ ys) := fun H1 e Q q =>
  ha H1 e _ fun H2 e2 => hb H2 (e.trans e2) _ fun p' H3 _ e3 h3 => ⟨a, p', xs, ys, rfl, rfl, e3 _ _ (e2 _ _ (e _ _ hS)), h3, sz_of hz, fun r hr => q r _ (fresh_back (e2.trans e3) hr) ((e2.trans e3).trans (Ex.new hr)) upd_same⟩
theorem set_same {σ : L2.St} {i : Nat} {v : V} (h : σ[i]? = some (some v)) : σ.set i (some v) = σ := by
  refine List.ext_getElem? fun j => ?_
  by_cases e : i = j
  · subst e
    rw [List.getElem?_set_self (List.getElem?_eq_some_iff.mp h).1, h]
  · rw [List.getElem?_set_ne e]
/-- if y not in order: order = order + [y, twin(y)] -/
theorem q_addLaw {i j : Nat} {o : Addr} {ord : List Nat} {h : Nat} (s2 : σ[i]? = some (some (.ref o))) (sj : σ[j]? = some (some (vi h))) (ho : H o = some (.lst (L ord))) (hz : ord.length ≤ 10000)
    (k : ∀ o' H1, Ex H H1 → H1 o' = some (.lst (L (addE ord h))) → tz D (σ.set i (some (.ref o'))) H1) :
    tSeq (tIfS (tTest (tOp (rIn K true) (tVar j) (tVar i))) (tAsg (tOp rCat (tVar i) (tLst (tCons (tVar j) (tCons (tCall (sp_Ltwin K) [] E0 (tCons (tVar j) tNil)) tNil)))) (gName i)) tNext) tz D σ H := by
  refine q_when (et_test (ev_op (ev_var sj) (ev_var s2) (rv_niL (sq_of ho) rfl (flat_L ord)))) (fun hb H1 e1 => ?_) (fun hb H1 e1 => ?_)
  · rw [inV_L] at hb
    have q : h ∉ ord := fun z => by
      rw [decide_eq_true z] at hb
      cases hb
    refine s_asgL (el_catV (ev_var s2) (e1 _ _ ho) (el_lst (ea_2 (ev_var sj) (ev_call (ea_1 (ev_var sj)) (spv_Ltwin h))) (by show 2 ≤ 100000; decide)) (by rw [L_len]; show ord.length + 2 ≤ 100000; omega)) (fun p H2 hp e2 h2 => ?_)
    refine k p H2 (e1.trans e2) ?_
    rw [addE_out q, L_app]
    exact h2
  · rw [inV_L] at hb
    have q : h ∈ ord := Classical.byContradiction fun z => by
      rw [decide_eq_false z] at hb
      cases hb
    have := k o H1 e1 (by rw [addE_in q]; exact e1 _ _ ho)
    rw [set_same s2] at this
    exact this
theorem s_retL2 {x : V} {ys : List V} (ha : Ev ta σ H x) (hb : EvL tb σ H ys) (k : ∀ T q H1 , H T = none → H q = none → Ex H H1 → H1 T = some (.lst [x, .ref q]) → H1 q = some (.lst ys) → D.rt (.ref T) H1) : tRet (tLst (tCons ta (tCons tb tNil))) D σ H :=
  ha H (Ex.refl H) _ fun H1 e1 => hb H1 e1 _ fun q H2 hq e2 h2 => ⟨by show 2 ≤ sizeLine; decide, fun T hT => k T q _ (fresh_back (e1.trans e2) hT) (fresh_back e1 hq) ((e1.trans e2).trans (Ex.new hT)) upd_same ((Ex.new hT) _ _ h2)⟩
end
end Hm
namespace Hm
open PySem PySem.Spec PyProof.Rows L2 Evl
section
variable {K : PySem.W.Frag} {σ : L2.St} {H : Hp} {ta tb te : TE} {D : Ends} {tz tu tw : TS} {E : XK} {sp : Sp} {tp tr : TA} {vs : List V} {i : Nat}
theorem c_call {Q : VK} (hp : EvA tp σ H vs) (k : ∀ H1, Ex H H1 → sp vs H1 Q E) : tCall sp [] E tp σ H Q := hp H (Ex.refl H) _ fun H1 e1 => by
  show sp (vs ++ []) H1 Q E
  rw [List.append_nil]
  exact k H1 e1
theorem q_max1C (hp : EvA tp σ H vs) (k : ∀ H1, Ex H H1 → sp vs H1 (fun v H2 => rMax2 [.int 1, v] H2 (fun w H3 => tz D (σ.set i (some w)) H3)) E) : tSeq (tAsg (tCB rMax2 (tCons (tC (.int 1)) (tCons (tCall sp [] E tp) tNil))) (gName i)) tz D σ H := c_call (Q := fun v H2 => rMax2 [.int 1, v] H2 (fun w H3 => tz D (σ.set i (some w)) H3)) hp k
theorem q_ifCand {c : Int} {t2 : TT} (hp : EvA tp σ H vs) (k : ∀ H1, Ex H H1 → sp vs H1 (fun v H2 => rEq v (.int c) H2 (fun z H3 => ∃ b, z = .bl b ∧ (if b = true then t2 σ H3 (fun b' H4 => if b' = true then tu { D with nx := tz D } σ H4 else tw { D with nx := tz D } σ H4) else (if false = true then tu { D with nx := tz D } σ H3 else tw { D with nx := tz D } σ H3)))) E) :
    tSeq (tIfS (tAnd (tTest (tOp rEq (tCall sp [] E tp) (tC (.int c)))) t2) tu tw) tz D σ H := c_call (Q := fun v H2 => rEq v (.int c) H2 (fun z H3 => ∃ b, z = .bl b ∧ (if b = true then t2 σ H3 (fun b' H4 => if b' = true then tu { D with nx := tz D } σ H4 else tw { D with nx := tz D } σ H4) else (if false = true then tu { D with nx := tz D } σ H3 else tw { D with nx := tz D } σ H3)))) hp k
theorem q_ifEqC {c : Int} (h : EvA tp σ H vs) (k : ∀ H1, Ex H H1 → sp vs H1 (fun v H2 => scal v (.int c) = true ∧ (if decide (v = .int c) = true then tu { D with nx := tz D } σ H2 else tw { D with nx := tz D } σ H2)) E) :
    tSeq (tIfS (tTest (tOp rEq (tCall sp [] E tp) (tC (.int c)))) tu tw) tz D σ H := s_ifEqC (D := { D with nx := tz D }) h k
theorem q_asgC1 (h : ta σ H (fun v H1 => tr σ H1 fun vs H2 => sp ((v :: vs) ++ []) H2 (fun w H3 => tz D (σ.set i (some w)) H3) E)) : tSeq (tAsg (tCall sp [] E (tCons ta tr)) (gName i)) tz D σ H := h
theorem q_asgG {g : TG} (hp : EvA tp σ H vs) (k : ∀ H1, Ex H H1 → sp vs H1 (fun v H2 => g v σ H2 (fun σ' H3 => tz D σ' H3)) E) : tSeq (tAsg (tCall sp [] E tp) g) tz D σ H := c_call (Q := fun v H2 => g v σ H2 (fun σ' H3 => tz D σ' H3)) hp k
def LcB (J : It) (g : TG) (tt : TT) (te : TE) (vs : List Nat) (σ : L2.St) (H1 : Hp) (Qd : Addr → Hp → Prop) : Prop := ∀ D, H1 D = none → ∃ W : Nat → Nat → Hp → Prop, (∃ m, W 0 m (upd H1 D (.lst []))) ∧ ∀ i m H, W i m H →
  (J.stop i H ∧ Qd D H) ∨ (J.go i H ∧ ∃ Nx : Hp → Prop, (∀ H', Nx H' → ∃ m', m' < m ∧ W (i + 1) m' H') ∧ ∀ x H', J.yld i H x H' → g x (wipe σ vs) H' fun σ2 H2 => wipe σ2 vs = wipe σ vs ∧ tt σ2 H2 fun b H3 =>
    if b = true then te σ2 H3 fun y H4 => ∃ acc, H4 D = some (.lst acc) ∧ acc.length < sizeLine ∧ Nx (upd H4 D (.lst (acc ++ [y]))) else Nx H3)
theorem q_lc {wi : TI} {g : TG} {tt : TT} {vs : List Nat} (h : wi σ H fun J H1 => LcB J g tt te vs σ H1 (fun Dl H' => tz D (σ.set i (some (.ref Dl))) H')) : tSeq (tAsg (tLc wi g tt te vs) (gName i)) tz D σ H := h
theorem rng_add {c : Int} {R : It → Hp → Prop} (hp : EvA tp σ H vs) (k : ∀ H1, Ex H H1 → sp vs H1 (fun v H2 => zAdd (.int c) v H2 (fun z H3 => ∃ j : Int, [z] = [V.int j] ∧ -(2 ^ 62) ≤ j ∧ j < 2 ^ 62 ∧ R (Itr 0 j.toNat) H3)) E) : iRng1 (tCons (tOp zAdd (tC (.int c)) (tCall sp [] E tp)) tNil) σ H R :=
  c_call (Q := fun v H2 => zAdd (.int c) v H2 (fun z H3 => ∃ j : Int, [z] = [V.int j] ∧ -(2 ^ 62) ≤ j ∧ j < 2 ^ 62 ∧ R (Itr 0 j.toNat) H3)) hp k
theorem rc_lenT {p : Addr} {xs : List V} (h : H p = some (.tup xs)) : RC (cLen K) [.ref p] H (.int (xs.length : Int)) := fun H1 e _ q => ⟨p, xs, rfl, Or.inr (st_of (e _ _ h)), q H1 (Ex.refl H1)⟩
theorem rc_isT {p : Addr} {xs : List V} (h : H p = some (.tup xs)) : RC (rIsi K) [.ref p, .ty "tuple"] H (.bl true) :=
  rc_isi (.ty "tuple") (fun H1 e => .base (.tup (e _ _ h))) (kit_ty (by decide +kernel))
theorem ev_ixT {j : Nat} {n : Int} {T : Addr} {xs : List V} {v : V} (hs : σ[j]? = some (some (.ref T))) (h : H T = some (.tup xs)) (ha : atI xs n = some v) : Ev (tOp (rIxT K) (tVar j) (tC (.int n))) σ H v := ev_op (ev_var hs) ev_c (rv_ixT (st_of h) ha)
end
theorem isP_double {ns : List Nat} (h : IsP ns) : IsP (ns ++ ns.map (· + ns.length)) where
  perm := by
    rw [List.length_append, List.length_map, List.range_add]
    refine List.Perm.append h.perm ?_
    have e : ns.map (· + ns.length) = ns.map (ns.length + ·) := List.map_congr_left fun x _ => Nat.add_comm _ _
    rw [e]
    exact h.perm.map _
end Hm
namespace Hm
open PySem PySem.Spec PyProof.Rows L2 Evl TL
/-! ### a reading, one step at a time -/
section
variable {K : PySem.W.Frag} {σ : L2.St} {H : Hp} {ta tb te tv : TE} {tr : TA} {D : Ends} {tz tu : TS} {g : TG} {Q : VK} {QA : List V → Hp → Prop} {r : R2} {i : Nat} {v : V} {vs : List V}
theorem r_ret (h : te σ H fun v H1 => D.rt v H1) : tRet te D σ H := h
theorem r_op (h : ta σ H fun x H1 => tb σ H1 fun y H2 => r x y H2 Q) : tOp r ta tb σ H Q := h
theorem r_lst (h : tr σ H fun xs H1 => xs.length ≤ sizeLine ∧ ∀ p, H1 p = none → Q (.ref p) (upd H1 p (.lst xs))) : tLst tr σ H Q := h
theorem r_cons (h : te σ H fun v H1 => tr σ H1 fun vs H2 => QA (v :: vs) H2) : tCons te tr σ H QA := h
theorem r_nil (h : QA [] H) : tNil σ H QA := h
theorem r_asg (h : te σ H fun v H1 => tz D (σ.set i (some v)) H1) : tSeq (tAsg te (gName i)) tz D σ H := h
theorem r_asgE (h : te σ H fun v H1 => D.nx (σ.set i (some v)) H1) : tAsg te (gName i) D σ H := h
theorem r_drop (h : te σ H fun _ H1 => tz D σ H1) : tSeq (tDrop te) tz D σ H := h
theorem r_dropE (h : te σ H fun _ H1 => D.nx σ H1) : tDrop te D σ H := h
theorem r_ev (h : Ev te σ H v) (k : ∀ H1, Ex H H1 → Q v H1) : te σ H Q := h H (Ex.refl H) Q k
theorem r_evL {xs : List V} (h : EvL te σ H xs) (k : ∀ p H1, H p = none → Ex H H1 → H1 p = some (.lst xs) → Q (.ref p) H1) : te σ H Q := h H (Ex.refl H) Q k
theorem r_evA (h : EvA tr σ H vs) (k : ∀ H1, Ex H H1 → QA vs H1) : tr σ H QA := h H (Ex.refl H) QA k
theorem r_var {x : V} (h : σ[i]? = some (some x)) (k : Q x H) : tVar i σ H Q := ⟨x, h, k⟩
theorem r_forArg {tu : TS} (h : te σ H fun v H1 => tSeq (tFor (iRng1 (tCons (tC v) tNil)) g tu) tz D σ H1) : tSeq (tFor (iRng1 (tCons te tNil)) g tu) tz D σ H := h
theorem r_call {sp : Sp} {dvs : List V} {E : XK} (ha : EvA tr σ H vs) (h : ∀ H1, Ex H H1 → sp (vs ++ dvs) H1 Q E) : tCall sp dvs E tr σ H Q := ha H (Ex.refl H) _ h
/-- a draw -/
theorem r_pick {t : Addr} {m : Int} {E : XK} (ha : EvA tr σ H [.ref t, .int m]) (ht : Tp (H t)) (h1 : 1 ≤ m) (h2 : m ≤ 1000000) (k : ∀ (d : Nat) H', (d : Int) < m → Tp (H' t) → ExO t H H' → Q (vi d) H') : tCall (sp_Lpick K) [] E tr σ H Q :=
  r_call ha fun H1 e1 => ⟨t, m, rfl, tp_ex ht e1, h1, h2, fun d H' d0 d1 ht' e => by
    have : d = ((d.toNat : Nat) : Int) := by omega
    rw [this]
    exact k d.toNat H' (by omega) ht' ((ExO.of e1).trans e)⟩
theorem r_ixL {p : Addr} {xs : List V} {d : Nat} {Q : VK} (h : SqL K H p xs) (hd : xs[d]? = some v) (k : Q v H) : rIxL K (.ref p) (vi d) H Q := ⟨p, xs, (d : Int), v, rfl, rfl, h, atI_nat hd, k⟩
end
theorem ev_slS {σ : L2.St} {H : Hp} {te : TE} {tl th : TO} {z : Str} {lo hi : Option Int} (h : Ev te σ H (.str z)) (h1 : EvO tl σ H lo) (h2 : EvO th σ H hi) (hz : z.length ≤ 100000) : Ev (tSl rSlS te tl th) σ H (.str (cutS z lo hi)) := fun H1 e _ q =>
  h H1 e _ fun H2 e2 => h1 H2 (e.trans e2) _ fun H3 e3 => h2 H3 ((e.trans e2).trans e3) _ fun H4 e4 => ⟨z, rfl, sz_of hz, q H4 ((e2.trans e3).trans e4)⟩
theorem tl_cut {z : Str} {lo hi : Option Int} {c : Nat} (h : c ∈ tl (cutS z lo hi)) : c ∈ tl z := by
  have e : tl (cutS z lo hi) = (z.cps.toList.drop (HT.sIx z.length 0 lo)).take (HT.sIx z.length z.length hi - HT.sIx z.length 0 lo) := by
    unfold cutS tl
    rw [List.toList_toArray]
  rw [e] at h
  exact List.mem_of_mem_drop (List.mem_of_mem_take h)
end Hm
namespace K33
open PySem PySem.Spec PyProof.Rows L2 Evl TL Hm
/-! ### the law's draws -/
theorem rd_Lpick {K : PySem.W.Frag} (F : KN K) (vs : List V) (H : Hp) (Q : VK) (E : XK) (h : sp_Lpick K vs H Q E) : Wt_Lpick K vs H Q := rd_Lpick0 vs H Q E h
def sp_Ltape (K : PySem.W.Frag) : Sp := fun vs H Q _ => ∃ (a : Addr) (zs : List Int) (k : Int), vs = [.ref a, .int k] ∧ SqL K H a (zs.map V.int) ∧ 0 ≤ k ∧ k ≤ 100 ∧
  ∀ p H', H p = none → Tp (H' p) → Ex H H' → Q (.ref p) H'
abbrev nm_Ltape : List Str := ["_law_script", "_law_k", "_law_cell"]
abbrev pr_Ltape : List Str := ["_law_script", "_law_k"]
def t_Ltape (K : PySem.W.Frag) : TS :=
  (tSeq (tAsg (tIf (tTest (tOp zLt (tVar 1) (tCB (cLen K) (tCons (tVar 0) tNil)))) (tOp (rIxL K) (tVar 0) (tVar 1)) (tC (.int 0))) (gName 2))
  (tRet (tLst (tCons (tCB cAbs (tCons (tVar 2) tNil)) (tCons (tOp zAdd (tOp zMul (tC (.int 7919)) (tVar 1)) (tC (.int 104729))) tNil)))))
abbrev Wt_Ltape (K : PySem.W.Frag) (vs : List V) (H : Hp) (Q : VK) : Prop := t_Ltape K { nx := fun _ H' => Q .non H', rt := Q } (start nm_Ltape vs) H
theorem ln_Ltape {K : PySem.W.Frag} (vs : List V) (H : Hp) (Q : VK) (E : XK) (h : sp_Ltape K vs H Q E) : vs.length = pr_Ltape.length := by
  obtain ⟨_, _, _, rfl, _⟩ := h
  rfl
theorem rd_Ltape {K : PySem.W.Frag} (F : KN K) (vs : List V) (H : Hp) (Q : VK) (E : XK) (h : sp_Ltape K vs H Q E) : Wt_Ltape K vs H Q := by
  obtain ⟨a, zs, k, rfl, hS, k0, k1, q⟩ := h
  show t_Ltape K _ [some (.ref a), some (.int k), none] H
  obtain ⟨c, hc⟩ : ∃ c : Int, c = if k < ((zs.map V.int).length : Int) then zs.getD k.toNat 0 else 0 := ⟨_, rfl⟩
  refine q_asg (v := .int c) (ev_if (b := decide (k < ((zs.map V.int).length : Int))) (et_test (ev_op (ev_var rfl) (ev_cb (ea_1 (ev_var rfl)) (rc_len hS)) rv_I0)) (fun hb => ?_) (fun hb => ?_)) (fun H1 e1 => ?_)
  · have hb := of_decide_eq_true hb
    have hl : (zs.map V.int).length = zs.length := List.length_map ..
    have hj : k.toNat < zs.length := by omega
    refine ev_op (ev_var rfl) (ev_var rfl) (rv_ixL hS (at_of (j := k.toNat) (by omega) ?_))
    rw [hc, if_pos hb, List.getElem?_map, List.getElem?_eq_getElem hj, List.getD_eq_getElem?_getD, List.getElem?_eq_getElem hj]
    rfl
  · have hb := of_decide_eq_false hb
    rw [hc, if_neg hb]
    exact ev_c
  · refine s_retL (el_lst (ea_2 (ev_cb (ea_1 (ev_var rfl)) rc_abs) (ev_op (ev_op ev_c (ev_var rfl) (rv_I (Or.inl ⟨by decide, by decide⟩))) ev_c rv_I0)) (by show 2 ≤ 100000; decide)) (fun p H3 hp e3 h3 => ?_)
    refine q p H3 (fresh_back e1 hp) ⟨_, _, h3, ?_, by dsimp only; omega, by dsimp only; omega⟩ (e1.trans e3)
    split <;> omega
def sp_Lreserved (K : PySem.W.Frag) : Sp := fun vs H Q _ => vs = [] ∧ ∀ p H', H p = none → Ex H H' → H' p = some (.lst (res.map V.str)) → Q (.ref p) H'
abbrev nm_Lreserved : List Str := ["_law_words"]
abbrev pr_Lreserved : List Str := []
def t_Lreserved (K : PySem.W.Frag) : TS :=
  (tSeq (tAsg (tC (.str "routine script given let make drop if else end new round tell call next prev twin face corner some")) (gName 0))
  (tRet (tM1 rSplit (tVar 0) (tC (.str " ")))))
abbrev Wt_Lreserved (K : PySem.W.Frag) (vs : List V) (H : Hp) (Q : VK) : Prop := t_Lreserved K { nx := fun _ H' => Q .non H', rt := Q } (start nm_Lreserved vs) H
theorem ln_Lreserved {K : PySem.W.Frag} (vs : List V) (H : Hp) (Q : VK) (E : XK) (h : sp_Lreserved K vs H Q E) : vs.length = pr_Lreserved.length := by
  obtain ⟨rfl, _⟩ := h
  rfl
abbrev ALLW : Str := "routine script given let make drop if else end new round tell call next prev twin face corner some"
theorem split_all : Txt.split ALLW " " = res := by decide +kernel
theorem rd_Lreserved {K : PySem.W.Frag} (F : KN K) (vs : List V) (H : Hp) (Q : VK) (E : XK) (h : sp_Lreserved K vs H Q E) : Wt_Lreserved K vs H Q := by
  obtain ⟨rfl, k⟩ := h
  unfold Wt_Lreserved t_Lreserved
  refine q_asg ev_c fun H1 e1 => ?_
  have h1 := el_split (σ := (start nm_Lreserved []).set 0 (some (.str ALLW))) (H := H1) (a := ALLW) (ta := tVar 0) (tb := tC (.str " ")) (ev_var rfl) ev_c (by decide +kernel) (by decide +kernel)
  rw [split_all] at h1
  exact s_retL h1 fun p H2 hp e2 h2 => k p H2 (fresh_back e1 hp) (e1.trans e2) h2
theorem el_reserved {K : PySem.W.Frag} {σ : L2.St} {H : Hp} {E : XK} : EvL (tCall (sp_Lreserved K) [] E tNil) σ H (res.map V.str) := fun H1 e1 Q q => ⟨rfl, q⟩
/-- free of blanks and line ends, and short -/
def Sf (n : Nat) (T : Str) : Prop := (∀ c ∈ tl T, c ≠ 32 ∧ c ≠ 10 ∧ c < 256) ∧ T.length ≤ n
theorem Sf.app {n m : Nat} {a b : Str} (ha : Sf n a) (hb : Sf m b) : Sf (n + m) (a ++ b) := ⟨fun c hc => by
  rw [tl_append] at hc
  rcases List.mem_append.mp hc with h | h
  · exact ha.1 c h
  · exact hb.1 c h, by
  have e : (a ++ b).length = a.length + b.length := by rw [len_tl, tl_append, List.length_append, ← len_tl, ← len_tl]
  have h1 := ha.2
  have h2 := hb.2
  omega⟩
theorem Sf.cut {n : Nat} {a : Str} {lo hi : Option Int} (ha : Sf n a) : Sf n (cutS a lo hi) := ⟨fun c hc => ha.1 c (tl_cut hc), Nat.le_trans (cutS_length _ _ _) ha.2⟩
theorem Sf.mono {n m : Nat} {a : Str} (ha : Sf n a) (h : n ≤ m) : Sf m a := ⟨ha.1, Nat.le_trans ha.2 h⟩
theorem sf_res : ∀ w ∈ res, Sf 7 w := by
  have h : ∀ w ∈ res, (tl w).all (fun c => decide (c ≠ 32 ∧ c ≠ 10 ∧ c < 256)) = true ∧ w.length ≤ 7 := by decide +kernel
  intro w hw
  obtain ⟨h1, h2⟩ := h w hw
  refine ⟨fun c hc => ?_, h2⟩
  exact of_decide_eq_true (List.all_eq_true.mp h1 c hc)
theorem sf_sign {d : Nat} (h : d < 36) : ∃ c, (tl SG)[d]? = some c ∧ Sf 1 ⟨#[c]⟩ := by
  have a : (tl SG).all (fun c => decide (c ≠ 32 ∧ c ≠ 10 ∧ c < 256)) = true := by decide +kernel
  have l : (tl SG).length = 36 := by decide +kernel
  refine ⟨(tl SG)[d]'(by omega), List.getElem?_eq_getElem _, fun c hc => ?_, Nat.le_refl _⟩
  have hc : c ∈ [(tl SG)[d]'(by omega)] := hc
  rw [List.mem_singleton.mp hc]
  exact of_decide_eq_true (List.all_eq_true.mp a _ (List.getElem_mem (show d < (tl SG).length by omega)))
theorem r_sign {K : PySem.W.Frag} {H : Hp} {d : Nat} {Q : VK} (h : d < 36) (k : ∀ s, Sf 1 s → Q (.str s) H) : rIxS (.str SG) (vi d) H Q := by
  obtain ⟨c, hc, hs⟩ := sf_sign h
  exact ⟨SG, (d : Int), c, rfl, rfl, sz_of (by decide), atI_nat hc, k _ hs⟩
theorem r_cat {H : Hp} {a b : Str} {n m : Nat} {Q : VK} (ha : Sf n a) (hb : Sf m b) (hl : n + m ≤ 1000) (k : Sf (n + m) (a ++ b) → Q (.str (a ++ b)) H) : rCatStr (.str a) (.str b) H Q := ⟨a, b, rfl, rfl, sz_of (by have := ha.2; have := hb.2; omega), k (ha.app hb)⟩
def sp_Lstring (K : PySem.W.Frag) : Sp := fun vs H Q _ => ∃ t : Addr, vs = [.ref t] ∧ Tp (H t) ∧ ∀ T H', Sf 30 T → ExO t H H' → Q (.str T) H'
abbrev nm_Lstring : List Str := ["_law_tape_here", "_law_chars", "_law_word", "_law_text", "_law_turn", "_law_at"]
abbrev pr_Lstring : List Str := ["_law_tape_here"]
def t_Lstring (K : PySem.W.Frag) : TS :=
  (tSeq (tAsg (tC (.str "abcdefghijklmnopqrstuvwxyz0123456789")) (gName 1))
  (tSeq (tIfS (tTest (tOp rEq (tCall (sp_Lpick K) [] E0 (tCons (tVar 0) (tCons (tC (.int 3)) tNil))) (tC (.int 1)))) (tSeq (tAsg (tOp (rIxL K) (tCall (sp_Lreserved K) [] E0 tNil) (tCall (sp_Lpick K) [] E0 (tCons (tVar 0) (tCons (tC (.int 19)) tNil)))) (gName 2))
      (tRet (tOp (rIxL K) (tLst (tCons (tVar 2) (tCons (tVar 2) (tCons (tOp rCatStr (tVar 2) (tOp rIxS (tVar 1) (tCall (sp_Lpick K) [] E0 (tCons (tVar 0) (tCons (tC (.int 36)) tNil))))) (tCons (tSl rSlS (tVar 2) (tPart (tC (.int 1))) tNoPart) (tCons (tSl rSlS (tVar 2) tNoPart (tPart (tOp zSub (tCB cLenS (tCons (tVar 2) tNil)) (tC (.int 1))))) tNil)))))) (tCall (sp_Lpick K) [] E0 (tCons (tVar 0) (tCons (tC (.int 5)) tNil)))))) tNext)
  (tSeq (tAsg (tC (.str "")) (gName 3))
  (tSeq (tFor (iRng1 (tCons (tCall (sp_Lpick K) [] E0 (tCons (tVar 0) (tCons (tC (.int 11)) tNil))) tNil)) (gName 4) (tAsg (tOp rCatStr (tVar 3) (tOp rIxS (tVar 1) (tCall (sp_Lpick K) [] E0 (tCons (tVar 0) (tCons (tC (.int 36)) tNil))))) (gName 3)))
  (tSeq (tIfS (tTest (tOp rEq (tCall (sp_Lpick K) [] E0 (tCons (tVar 0) (tCons (tC (.int 3)) tNil))) (tC (.int 1)))) (tSeq (tAsg (tCall (sp_Lpick K) [] E0 (tCons (tVar 0) (tCons (tOp zAdd (tCB cLenS (tCons (tVar 3) tNil)) (tC (.int 1))) tNil))) (gName 5))
      (tAsg (tOp rCatStr (tOp rCatStr (tSl rSlS (tVar 3) tNoPart (tPart (tVar 5))) (tOp (rIxL K) (tLst (tCons (tC (.str "A")) (tCons (tC (.str "_")) (tCons (tC (.str "-")) (tCons (tC (.str "Z")) (tCons (tC (.str "b")) (tCons (tC (.str "7")) tNil))))))) (tCall (sp_Lpick K) [] E0 (tCons (tVar 0) (tCons (tC (.int 6)) tNil))))) (tSl rSlS (tVar 3) (tPart (tVar 5)) tNoPart)) (gName 3))) tNext)
  (tRet (tVar 3)))))))
abbrev Wt_Lstring (K : PySem.W.Frag) (vs : List V) (H : Hp) (Q : VK) : Prop := t_Lstring K { nx := fun _ H' => Q .non H', rt := Q } (start nm_Lstring vs) H
theorem ln_Lstring {K : PySem.W.Frag} (vs : List V) (H : Hp) (Q : VK) (E : XK) (h : sp_Lstring K vs H Q E) : vs.length = pr_Lstring.length := by
  obtain ⟨_, rfl, _⟩ := h
  rfl
theorem tp_some {o : Option HO} (h : Tp o) : ∃ u, o = some u := by
  obtain ⟨x, y, h, _⟩ := h
  exact ⟨_, h⟩
theorem nth5 {a b c d e : V} {P : V → Prop} (ha : P a) (hb : P b) (hc : P c) (hd : P d) (he : P e) {i : Nat} (h : i < 5) : ∃ v, [a, b, c, d, e][i]? = some v ∧ P v := by
  match i, h with
  | 0, _ => exact ⟨_, rfl, ha⟩
  | 1, _ => exact ⟨_, rfl, hb⟩
  | 2, _ => exact ⟨_, rfl, hc⟩
  | 3, _ => exact ⟨_, rfl, hd⟩
  | 4, _ => exact ⟨_, rfl, he⟩
theorem nth6 {a b c d e f : V} {P : V → Prop} (ha : P a) (hb : P b) (hc : P c) (hd : P d) (he : P e) (hf : P f) {i : Nat} (h : i < 6) : ∃ v, [a, b, c, d, e, f][i]? = some v ∧ P v := by
  match i, h with
  | 0, _ => exact ⟨_, rfl, ha⟩
  | 1, _ => exact ⟨_, rfl, hb⟩
  | 2, _ => exact ⟨_, rfl, hc⟩
  | 3, _ => exact ⟨_, rfl, hd⟩
  | 4, _ => exact ⟨_, rfl, he⟩
  | 5, _ => exact ⟨_, rfl, hf⟩
theorem sf_one {c : Nat} (h1 : c ≠ 32) (h2 : c ≠ 10 ∧ c < 256) : Sf 1 ⟨#[c]⟩ := ⟨fun x hx => by
  have hx : x ∈ [c] := hx
  rw [List.mem_singleton.mp hx]
  exact ⟨h1, h2⟩, Nat.le_refl _⟩
theorem ne_tape {H : Hp} {p t : Addr} (hp : H p = none) (ht : Tp (H t)) : p ≠ t := fun w => by
  obtain ⟨u, hu⟩ := tp_some ht
  rw [w, hu] at hp
  cases hp
theorem rd_Lstring {K : PySem.W.Frag} (F : KN K) (vs : List V) (H : Hp) (Q : VK) (E : XK) (h : sp_Lstring K vs H Q E) : Wt_Lstring K vs H Q := by
  obtain ⟨t, rfl, hT, k⟩ := h
  show t_Lstring K _ [some (.ref t), none, none, none, none, none] H
  refine q_asg ev_c fun H1 e1 => ?_
  show tSeq _ _ _ [some (.ref t), some (.str SG), none, none, none, none] H1
  refine q_ifEqC (ea_2 (ev_var rfl) ev_c) (fun H2 e2 => ⟨t, 3, rfl, tp_ex hT (e1.trans e2), by decide, by decide, fun d3 H3 d30 d31 t3 o3 => ⟨rfl, ?_⟩⟩)
  have o03 : ExO t H H3 := (ExO.of (e1.trans e2)).trans o3
  split
  · -- a word of the language
    refine r_asg (r_op (r_evL el_reserved fun p H4 hp e4 h4 => r_pick (ea_2 (ev_var rfl) ev_c) (tp_ex t3 e4) (by decide) (by decide) fun d H5 hd t5 o5 => ?_))
    have npt : p ≠ t := ne_tape hp t3
    have hl : (res.map V.str).length = 19 := rfl
    obtain ⟨w, hw, hwm⟩ : ∃ w, (res.map V.str)[d]? = some (.str w) ∧ w ∈ res := by
      have : d < res.length := by show d < 19; omega
      refine ⟨res[d], ?_, List.getElem_mem this⟩
      rw [List.getElem?_map, List.getElem?_eq_getElem this]
      rfl
    refine r_ixL (sq_of (o5 _ _ npt h4)) hw ?_
    have sw := sf_res w hwm
    have lw : w.length ≤ 100000 := by have := sw.2; omega
    have o05 : ExO t H H5 := (o03.trans (ExO.of e4)).trans o5
    show tRet _ _ [some (.ref t), some (.str SG), some (.str w), none, none, none] H5
    refine r_ret (r_op (r_lst (r_cons (r_ev (ev_var (i := 2) rfl) fun H6 e6 => r_cons (r_ev (ev_var (i := 2) rfl) fun H7 e7 => r_cons (r_op (r_ev (ev_var (i := 2) rfl) fun H8 e8 => r_op (r_ev (ev_var (i := 1) rfl) fun H9 e9 => r_pick (ea_2 (ev_var rfl) ev_c) (tp_ex t5 (((e6.trans e7).trans e8).trans e9)) (by decide) (by decide) fun d2 H10 hd2 t10 o10 => r_sign (K := K) (by omega) fun s hs => r_cat sw hs (by decide) fun hws => ?_))))))))
    have o0 : ExO t H H10 := (o05.trans (ExO.of (((e6.trans e7).trans e8).trans e9))).trans o10
    refine r_evA (ea_2 (ev_slS (ev_var (i := 2) rfl) (eo_some ev_c) eo_none lw) (ev_slS (ev_var (i := 2) rfl) eo_none (eo_some (ev_op (ev_cb (ea_1 (ev_var (i := 2) rfl)) (rc_lenS lw)) ev_c rv_I0)) lw)) fun H11 e11 => ⟨sz_of (by show 5 ≤ 100000; decide), fun p5 hp5 => ?_⟩
    have n5 : p5 ≠ t := ne_tape hp5 (tp_ex t10 e11)
    refine r_pick (ea_2 (ev_var rfl) ev_c) (by rw [upd_ne n5.symm]; exact tp_ex t10 e11) (by decide) (by decide) fun d5 H12 hd5 t12 o12 => ?_
    obtain ⟨v, hv, T, rfl, sT⟩ := nth5 (a := .str w) (b := .str w) (c := .str (w ++ s)) (d := .str (cutS w (some 1) none)) (e := .str (cutS w none (some ((w.length : Int) - 1)))) (P := fun v => ∃ T, v = V.str T ∧ Sf 30 T) ⟨_, rfl, sw.mono (by decide)⟩ ⟨_, rfl, sw.mono (by decide)⟩ ⟨_, rfl, hws.mono (by decide)⟩ ⟨_, rfl, sw.cut.mono (by decide)⟩ ⟨_, rfl, sw.cut.mono (by decide)⟩ (i := d5) (by omega)
    refine r_ixL (sq_of (o12 _ _ n5 upd_same)) hv (k T H12 sT ?_)
    exact (o0.trans (ExO.of (e11.trans (Ex.new hp5)))).trans o12
  · show tSeq _ _ _ [some (.ref t), some (.str SG), none, none, none, none] H3
    refine q_asg ev_c fun H4 e4 => ?_
    refine r_forArg (r_pick (ea_2 (ev_var rfl) ev_c) (tp_ex t3 e4) (by decide) (by decide) fun n H5 hn t5 o5 => ?_)
    refine q_forR1 (n := (n : Int)) (ea_1 ev_c) (by omega) (fun i σ' H' => ∃ T w4, σ' = [some (.ref t), some (.str SG), none, some (.str T), w4, none] ∧ Sf i T ∧ Tp (H' t) ∧ ExO t H H') (fun H6 e6 => ⟨"", none, rfl, ⟨fun c hc => (nomatch hc), by decide⟩, tp_ex t5 e6, ((o03.trans (ExO.of e4)).trans o5).trans (ExO.of e6)⟩) ?_ ?_
    · rintro i σ' H' hi ⟨T, w4, rfl, sT, tT, oT⟩
      show tAsg _ _ _ [some (.ref t), some (.str SG), none, some (.str T), some (.int (i : Int)), none] H'
      refine r_asgE (r_op (r_ev (ev_var (i := 3) rfl) fun H6 e6 => r_op (r_ev (ev_var (i := 1) rfl) fun H7 e7 => r_pick (ea_2 (ev_var rfl) ev_c) (tp_ex tT (e6.trans e7)) (by decide) (by decide) fun d2 H8 hd2 t8 o8 => r_sign (K := K) (by omega) fun s hs => r_cat sT hs (by omega) fun hws => ?_)))
      exact ⟨_, _, rfl, hws, t8, (oT.trans (ExO.of (e6.trans e7))).trans o8⟩
    · rintro σ' H6 ⟨T, w4, rfl, sT, tT, oT⟩
      have sT := sT.mono (show (n : Int).toNat ≤ 10 by omega)
      have lT : T.length ≤ 100000 := by have := sT.2; omega
      have fin : ∀ (T' : Str) (w5 : Option V) (H7 : Hp), Sf 30 T' → ExO t H H7 → tRet (tVar 3) { nx := fun _ H' => Q .non H', rt := Q } [some (.ref t), some (.str SG), none, some (.str T'), w4, w5] H7 := fun T' w5 H7 sT' o7 => s_ret (ev_var rfl) fun H8 e8 => k T' H8 sT' (o7.trans (ExO.of e8))
      refine q_ifEqC (ea_2 (ev_var rfl) ev_c) (fun H7 e7 => ⟨t, 3, rfl, tp_ex tT e7, by decide, by decide, fun d3 H8 d30 d31 t8 o8 => ⟨rfl, ?_⟩⟩)
      have o08 : ExO t H H8 := (oT.trans (ExO.of e7)).trans o8
      split
      · refine r_asg (r_pick (m := (T.length : Int) + 1) (ea_2 (ev_var rfl) (ev_is (ev_op (ev_cb (ea_1 (ev_var (i := 3) rfl)) (rc_lenS lT)) ev_c rv_I0) rfl)) t8 (by omega) (by have := sT.2; omega) fun a H9 ha t9 o9 => ?_)
        show tAsg _ _ _ [some (.ref t), some (.str SG), none, some (.str T), w4, some (vi a)] H9
        refine r_asgE (r_op (r_op (r_ev (ev_slS (ev_var (i := 3) rfl) eo_none (eo_some (ev_var (i := 5) rfl)) lT) fun H10 e10 => r_op (r_evL (el_lst (ea_cons ev_c (ea_cons ev_c (ea_cons ev_c (ea_cons ev_c (ea_2 ev_c ev_c))))) (by show 6 ≤ 100000; decide)) fun p H11 hp e11 h11 => r_pick (ea_2 (ev_var rfl) ev_c) (tp_ex t9 (e10.trans e11)) (by decide) (by decide) fun d H12 hd t12 o12 => ?_))))
        have np : p ≠ t := ne_tape hp (tp_ex t9 e10)
        obtain ⟨v, hv, s, rfl, ss⟩ := nth6 (a := .str "A") (b := .str "_") (c := .str "-") (d := .str "Z") (e := .str "b") (f := .str "7") (P := fun v => ∃ T, v = V.str T ∧ Sf 1 T) ⟨_, rfl, sf_one (c := 65) (by decide) (by decide)⟩ ⟨_, rfl, sf_one (c := 95) (by decide) (by decide)⟩ ⟨_, rfl, sf_one (c := 45) (by decide) (by decide)⟩ ⟨_, rfl, sf_one (c := 90) (by decide) (by decide)⟩ ⟨_, rfl, sf_one (c := 98) (by decide) (by decide)⟩ ⟨_, rfl, sf_one (c := 55) (by decide) (by decide)⟩ (i := d) (by omega)
        refine r_ixL (sq_of (o12 _ _ np h11)) hv (r_cat sT.cut ss (by decide) fun s1 => r_ev (ev_slS (ev_var (i := 3) rfl) (eo_some (ev_var (i := 5) rfl)) eo_none lT) fun H13 e13 => ?_)
        refine r_cat s1 sT.cut (by decide) fun s2 => ?_
        refine fin _ _ H13 (s2.mono (by decide)) ((((o08.trans o9).trans (ExO.of (e10.trans e11))).trans o12).trans (ExO.of e13))
      · exact fin T none H8 (sT.mono (by decide)) o08
end K33
namespace K33
open PySem PySem.Spec PyProof.Rows L2 Evl TL Hm
/-! ### data of texts -/
theorem dpAll_S {K : PySem.W.Frag} {H : Hp} : ∀ ws : List Str, DpAll K H (ws.map V.str) (ws.map PyData.str)
  | [] => .nil
  | w :: r => .cons (.str w) (dpAll_S r)
theorem lay_S : ∀ {ws : List Str}, (∀ w ∈ ws, PyData.strOk w = true) → PyData.canLayAll0 (ws.map PyData.str) = true ∧ PyData.depthAll (ws.map PyData.str) = 0
  | [], _ => ⟨by simp [PyData.canLayAll0], by simp [PyData.depthAll]⟩
  | w :: r, h => by
    obtain ⟨h1, h2⟩ := lay_S (ws := r) fun x hx => h x (List.mem_cons_of_mem _ hx)
    have hw := h w (List.mem_cons_self ..)
    exact ⟨by simp [PyData.canLayAll0, PyData.canLay0, h1, hw], by simp [PyData.depthAll, PyData.depth, h2]⟩
theorem shaped_S {ws : List Str} (h : ∀ w ∈ ws, PyData.strOk w = true) : SeqAt.shaped (.list (ws.map PyData.str)) = true ∧ SeqAt.shaped (.tuple (ws.map PyData.str)) = true := by
  obtain ⟨h1, h2⟩ := lay_S h
  exact ⟨by simp [SeqAt.shaped, PyData.canLay0, h1, PyData.depth, h2], by simp [SeqAt.shaped, PyData.canLay0, h1, PyData.depth, h2]⟩
theorem eqv_S_nil (ws : List Str) : PyData.eqv (.list (ws.map PyData.str)) (.list []) = ws.isEmpty := by
  cases ws <;> simp [PyData.eqv, PyData.eqvAll]
theorem eqv_S_self : ∀ ws : List Str, PyData.eqvAll (ws.map PyData.str) (ws.map PyData.str) = true
  | [] => by simp [PyData.eqvAll]
  | w :: r => by
    have h := eqv_S_self r
    simp [PyData.eqvAll, PyData.eqv, h]
def sp_Lgood (K : PySem.W.Frag) : Sp := fun vs H Q _ => ∃ T : Str, vs = [.str T] ∧ Sf 30 T ∧ RetV (.bl (isNm T)) H Q
abbrev nm_Lgood : List Str := ["_law_text", "_law_char"]
abbrev pr_Lgood : List Str := ["_law_text"]
def t_Lgood (K : PySem.W.Frag) : TS :=
  (tSeq (tIfS (tOr (tNot (tTest (tChain zLe zLe (tC (.int 1)) (tCB cLenS (tCons (tVar 0) tNil)) (tC (.int 8))))) (tOr (tTest (tOp (rIn K false) (tVar 0) (tCall (sp_Lreserved K) [] E0 tNil))) (tTest (tOp rInStr (tOp rIxS (tVar 0) (tC (.int 0))) (tC (.str "0123456789")))))) (tRet (tC (.bl false))) tNext)
  (tRet (tOp (rEqD K) (tLc (iStr (tVar 0)) (gName 1) (tTest (tOp rNotInStr (tVar 1) (tC (.str "abcdefghijklmnopqrstuvwxyz0123456789")))) (tVar 1) [1]) (tLst tNil))))
abbrev Wt_Lgood (K : PySem.W.Frag) (vs : List V) (H : Hp) (Q : VK) : Prop := t_Lgood K { nx := fun _ H' => Q .non H', rt := Q } (start nm_Lgood vs) H
theorem ln_Lgood {K : PySem.W.Frag} (vs : List V) (H : Hp) (Q : VK) (E : XK) (h : sp_Lgood K vs H Q E) : vs.length = pr_Lgood.length := by
  obtain ⟨_, rfl, _⟩ := h
  rfl
/-- [c for c in T if c not in SG] == [] -/
theorem ev_noneOut {K : PySem.W.Frag} {σ : L2.St} {H : Hp} {T : Str} {i j : Nat} {vs : List Nat} (h : σ[i]? = some (some (.str T))) (hT : Sf 30 T) (hw : ∀ y, wipe ((wipe σ vs).set j (some y)) vs = wipe σ vs) (hj : ∀ y, ((wipe σ vs).set j (some y))[j]? = some (some y)) :
    Ev (tOp (rEqD K) (tLc (iStr (tVar i)) (gName j) (tTest (tOp rNotInStr (tVar j) (tC (.str SG)))) (tVar j) vs) (tLst tNil)) σ H (.bl ((tl T).all (isIn SG))) := by
  have hz : T.cps.size ≤ 30 := hT.2
  obtain ⟨ws, hws⟩ : ∃ ws : List Str, ws = ((List.range T.cps.size).filter (fun i => !isIn SG (T.cps.getD i 0))).map (fun i => (⟨#[T.cps.getD i 0]⟩ : Str)) := ⟨_, rfl⟩
  have h1 := el_lcS (σ := σ) (H := H) (tl := tVar i) (vs := vs) (j := j) (t := tTest (tOp rNotInStr (tVar j) (tC (.str SG)))) (te := tVar j) (fun i => !isIn SG (T.cps.getD i 0)) (fun i => V.str ⟨#[T.cps.getD i 0]⟩) (ev_var h) (by omega) hw (fun i c H1 _ hc => by
    rw [cps_at hc]
    exact et_test (ev_op (ev_var (hj _)) ev_c rv_ninS)) (fun i c H1 _ hc _ => by
    rw [cps_at hc]
    exact ev_var (hj _))
  have e : given T.cps.size (fun i => !isIn SG (T.cps.getD i 0)) (fun i => V.str ⟨#[T.cps.getD i 0]⟩) = ws.map V.str := by
    rw [hws, List.map_map]
    rfl
  rw [e] at h1
  have hok : ∀ w ∈ ws, PyData.strOk w = true := by
    intro w hw
    rw [hws] at hw
    obtain ⟨k, hk, rfl⟩ := List.mem_map.mp hw
    have hk := List.mem_range.mp (List.mem_filter.mp hk).1
    have hc : T.cps.getD k 0 ∈ tl T := by
      have : T.cps.getD k 0 = T.cps[k] := by rw [Array.getD_eq_getD_getElem?, Array.getElem?_eq_getElem hk]; rfl
      rw [this]
      exact Array.mem_toList_iff.mpr (Array.getElem_mem hk)
    have hlt := (hT.1 _ hc).2.2
    revert hlt
    generalize T.cps.getD k 0 = c
    intro hlt
    show (#[c] : Array Nat).all (· < 0x110000) = true
    simp
    omega
  have hem : ws.isEmpty = (tl T).all (isIn SG) := by
    have a : (tl T).all (isIn SG) = ((List.range T.cps.size).map (fun i => isIn SG (T.cps.getD i 0))).all id := by
      rw [map_cps T fun c => isIn SG c, List.all_map]
      rfl
    rw [a, hws, List.isEmpty_map, Bool.eq_iff_iff, List.isEmpty_iff, List.filter_eq_nil_iff, List.all_map, List.all_eq_true]
    constructor
    · intro h x hx
      have := h x hx
      cases q : isIn SG (T.cps.getD x 0) with
      | true => exact q
      | false => rw [q] at this; exact absurd rfl this
    · intro h x hx q
      have h2 : isIn SG (T.cps.getD x 0) = true := h x hx
      rw [h2] at q
      cases q
  rw [← hem, ← eqv_S_nil]
  exact ev_opLL h1 (el_lst ea_nil (Nat.zero_le _)) fun p q H1 hp hq e => rv_eqD' (Dp.lst (sq_of hp) (dpAll_S ws)) (Dp.lst (sq_of hq) .nil) (shaped_S hok).1 (by decide)
theorem rd_Lgood {K : PySem.W.Frag} (F : KN K) (vs : List V) (H : Hp) (Q : VK) (E : XK) (h : sp_Lgood K vs H Q E) : Wt_Lgood K vs H Q := by
  obtain ⟨T, rfl, hT, k⟩ := h
  show t_Lgood K _ [some (.str T), none] H
  have lT : T.length ≤ 100000 := by have := hT.2; omega
  obtain ⟨a, ha⟩ : ∃ a : Bool, a = (decide ((1 : Int) ≤ (T.length : Int)) && decide ((T.length : Int) ≤ 8)) := ⟨_, rfl⟩
  have eN : isNm T = ((a && (tl T).all (isIn SG)) && (!(isIn DG ((tl T).headD 0)) && !(inV (.str T) (res.map V.str)))) := by unfold isNm isW; rw [ha]
  have evA : EvT (tNot (tTest (tChain zLe zLe (tC (.int 1)) (tCB cLenS (tCons (tVar 0) tNil)) (tC (.int 8))))) [some (.str T), none] H (!a) := by
    rw [ha]
    exact et_not (et_test (ev_chain ev_c (ev_cb (ea_1 (ev_var rfl)) (rc_lenS lT)) rv_I0 (fun _ => ev_c) fun _ => rv_I0))
  have et : EvT (tOr (tNot (tTest (tChain zLe zLe (tC (.int 1)) (tCB cLenS (tCons (tVar 0) tNil)) (tC (.int 8))))) (tOr (tTest (tOp (rIn K false) (tVar 0) (tCall (sp_Lreserved K) [] E0 tNil))) (tTest (tOp rInStr (tOp rIxS (tVar 0) (tC (.int 0))) (tC (.str "0123456789"))))))
      [some (.str T), none] H (!a || (inV (.str T) (res.map V.str) || isIn DG ((tl T).headD 0))) := by
    refine et_or evA fun h1 => ?_
    have h1 : a = true := by cases a with
      | true => rfl
      | false => cases h1
    refine et_or (et_test (ev_opL (ev_var rfl) el_reserved fun p H1 hp _ => rv_isL (sq_of hp) rfl (flat_strs res))) fun _ => ?_
    rw [h1] at ha
    have h2 := (Bool.and_eq_true_iff.mp ha.symm).1
    have h3 := of_decide_eq_true h2
    exact et_test (ev_op (ev_op (ev_var rfl) ev_c (rv_ixS (by omega) (head_at (by omega)))) ev_c rv_inS)
  refine q_when et (fun hb H1 e1 => ?_) (fun hb H1 e1 => ?_)
  · have : isNm T = false := by
      rw [eN]
      cases a with
      | false => rfl
      | true =>
        cases h1 : inV (.str T) (res.map V.str) with
        | true => simp
        | false =>
          rw [h1] at hb
          have hb : isIn DG ((tl T).headD 0) = true := hb
          rw [hb]
          simp
    rw [this] at k
    exact s_ret ev_c fun H2 e2 => k H2 (e1.trans e2)
  · refine s_ret (ev_noneOut (i := 0) (j := 1) (vs := [1]) rfl hT (fun _ => rfl) fun _ => rfl) fun H2 e2 => ?_
    have : isNm T = (tl T).all (isIn SG) := by
      rw [eN]
      rw [Bool.or_eq_false_iff, Bool.or_eq_false_iff] at hb
      obtain ⟨h1, h2, h3⟩ := hb
      have h1 : a = true := by cases a with
        | true => rfl
        | false => cases h1
      rw [h1, h2, h3]
      simp
    rw [this] at k
    exact k H2 (e1.trans e2)
/-! ### reading a whole text -/
def textOf (N A : Str) (r : Rest) : Str := jn nl (jn spc ["routine", N, A] :: restL r)
structure TextOk (K : PySem.W.Frag) (N A : Str) (r : Rest) : Prop where
  n1 : Sf 100 N
  a1 : Sf 100 A
  r1 : (isNm N && isNm A) = true → RestOk K A r
  r2 : ∀ s ∈ restL r, 10 ∉ tl s ∧ s.length ≤ 1000
theorem TextOk.lines {K : PySem.W.Frag} {N A : Str} {r : Rest} (h : TextOk K N A r) : (∀ s ∈ jn spc ["routine", N, A] :: restL r, 10 ∉ tl s ∧ s.length ≤ 1000) := by
  intro s hs
  rcases List.mem_cons.mp hs with rfl | hs
  · have e : tl (jn spc ["routine", N, A]) = tl ("routine" : Str) ++ ([32] ++ (tl N ++ ([32] ++ tl A))) := by rw [tl_jn, tl_spc]; rfl
    refine ⟨fun hc => ?_, ?_⟩
    · rw [e] at hc
      simp only [List.mem_append] at hc
      rcases hc with hc | hc | hc | hc | hc
      · revert hc
        decide +kernel
      · revert hc
        decide
      · exact (h.n1.1 _ hc).2.1 rfl
      · revert hc
        decide
      · exact (h.a1.1 _ hc).2.1 rfl
    · rw [len_tl, e]
      have h1 := h.n1.2
      have h2 := h.a1.2
      rw [len_tl] at h1 h2
      have h3 : (tl ("routine" : Str)).length = 7 := rfl
      have h4 : [32].length = 1 := rfl
      simp only [List.length_append]
      omega
  · exact h.r2 s hs
theorem restL_len (r : Rest) : (restL r).length ≤ 1 := by
  cases r with
  | none => exact Nat.zero_le _
  | some _ => exact Nat.le_refl _
theorem textOf_len {K : PySem.W.Frag} {N A : Str} {r : Rest} (h : TextOk K N A r) : (textOf N A r).length ≤ 90000 := by
  have hl := h.lines
  unfold textOf
  rw [len_tl, tl_jn, tl_nl]
  cases r with
  | none =>
    have := (hl _ (List.mem_cons_self ..)).2
    rw [len_tl] at this
    show (tl (jn spc ["routine", N, A])).length ≤ 90000
    omega
  | some wx =>
    obtain ⟨ws, x⟩ := wx
    have h1 := (hl _ (List.mem_cons_self ..)).2
    have h2 := (hl (jn spc ws) (List.mem_cons_of_mem _ (List.mem_cons_self ..))).2
    rw [len_tl] at h1 h2
    show (tl (jn spc ["routine", N, A]) ++ ([10] ++ tl (jn spc ws))).length ≤ 90000
    have h4 : [10].length = 1 := rfl
    simp only [List.length_append]
    omega
def sp_readroutine (K : PySem.W.Frag) : Sp := fun vs H Q E => ∃ (N A : Str) (r : Rest), vs = [.str (textOf N A r)] ∧ TextOk K N A r ∧ Out K H Q E (rres N A r)
abbrev nm_readroutine : List Str := ["text"]
abbrev pr_readroutine : List Str := ["text"]
def t_readroutine (K : PySem.W.Frag) (E : XK) : TS :=
  (tRet (tCall (sp_routineof K) [] E (tCons (tM1 rSplit (tVar 0) (tC (.str "\n"))) (tCons (tC (.int 1)) (tCons tDNewK tNil)))))
abbrev Wt_readroutine (K : PySem.W.Frag) (vs : List V) (H : Hp) (Q : VK) (E : XK) : Prop := t_readroutine K E { nx := fun _ H' => Q .non H', rt := Q } (start nm_readroutine vs) H
theorem ln_readroutine {K : PySem.W.Frag} (vs : List V) (H : Hp) (Q : VK) (E : XK) (h : sp_readroutine K vs H Q E) : vs.length = pr_readroutine.length := by
  obtain ⟨_, _, _, rfl, _⟩ := h
  rfl
theorem sf_32 {n : Nat} {T : Str} (h : Sf n T) : 32 ∉ tl T := fun hc => (h.1 _ hc).1 rfl
theorem sf_10 {n : Nat} {T : Str} (h : Sf n T) : 10 ∉ tl T := fun hc => (h.1 _ hc).2.1 rfl
theorem rd_readroutine {K : PySem.W.Frag} (F : KN K) (vs : List V) (H : Hp) (Q : VK) (E : XK) (h : sp_readroutine K vs H Q E) : Wt_readroutine K vs H Q E := by
  obtain ⟨N, A, r, rfl, ht, ho⟩ := h
  unfold Wt_readroutine t_readroutine
  have h1 := el_split (σ := start nm_readroutine [.str (textOf N A r)]) (H := H) (ta := tVar 0) (tb := tC (.str "\n")) (ev_var rfl) ev_c (by decide +kernel) (textOf_len ht)
  have e : Txt.split (textOf N A r) "\n" = jn spc ["routine", N, A] :: restL r := jn_split tl_nl (by decide +kernel) (List.cons_ne_nil _ _) fun w hw => (ht.lines w hw).1
  rw [e] at h1
  refine r_ret ?_
  show tCons _ _ _ H _
  refine r_cons (r_evL h1 fun l H1 hl e1 h2 => r_cons (r_ev ev_c fun H2 e2 => r_cons ?_))
  refine fun u hu => r_nil ?_
  have e3 : Ex H2 (upd H2 u (.dK [])) := Ex.new hu
  exact ⟨l, u, N, A, r, rfl, sq_of ((e2.trans e3) _ _ h2), upd_same, sf_32 ht.n1, sf_32 ht.a1, Nat.le_trans ht.n1.2 (by decide), Nat.le_trans ht.a1.2 (by decide), ht.r1, ho.ex ((e1.trans e2).trans e3)⟩
def toldV (k : Nat) : List V := if k = 0 then [] else [.int (k : Int), .bl true]
def sp_Ltold (K : PySem.W.Frag) : Sp := fun vs H Q _ => ∃ (N A : Str) (r : Rest), vs = [.str (textOf N A r)] ∧ TextOk K N A r ∧ ∀ q H', H q = none → Ex H H' → H' q = some (.lst (toldV (rres N A r))) → Q (.ref q) H'
abbrev nm_Ltold : List Str := ["_law_text", "e"]
abbrev pr_Ltold : List Str := ["_law_text"]
def t_Ltold (K : PySem.W.Frag) : TS :=
  (tSeq (tTryM K [(.ref (He.ga K "BadLine"), 1, fun a cls d => tPre (cls = .ref (He.ga K "BadLine")) (tRet (tLst (tCons (tXf a cls d (He.ga K "BadLine") "line" (tVar 1)) (tCons (tAndV (tCB (rIsX K (He.ga K "BadLine") a d) (tCons (tVar 1) (tCons (tC (.ref (He.ga K "MeshError"))) tNil))) (tCB (rIsX K (He.ga K "BadLine") a d) (tCons (tVar 1) (tCons (tC (.ty "ValueError")) tNil)))) tNil)))))] (fun W => (tDrop (tCall (sp_readroutine K) [] (eLen 2 W) (tCons (tVar 0) tNil)))))
  (tRet (tLst tNil)))
abbrev Wt_Ltold (K : PySem.W.Frag) (vs : List V) (H : Hp) (Q : VK) : Prop := t_Ltold K { nx := fun _ H' => Q .non H', rt := Q } (start nm_Ltold vs) H
theorem ln_Ltold {K : PySem.W.Frag} (vs : List V) (H : Hp) (Q : VK) (E : XK) (h : sp_Ltold K vs H Q E) : vs.length = pr_Ltold.length := by
  obtain ⟨_, _, _, rfl, _⟩ := h
  rfl
theorem q_tryC {K : PySem.W.Frag} {sp : Sp} {l : List Cl} {n : Nat} {vs : List V} {tp : TA} {tz : TS} {D : Ends} {σ : L2.St} {H : Hp} (hp : EvA tp σ H vs) (k : ∀ H1, Ex H H1 → sp vs H1 (fun _ H2 => tz D σ H2) (eLen n (wManyAs K (fun _ _ _ _ => False) { D with nx := tz D } l))) :
    tSeq (tTryM K l (fun W => tDrop (tCall sp [] (eLen n W) tp))) tz D σ H := hp H (Ex.refl H) (fun vs H1 => sp (vs ++ []) H1 (fun _ H2 => tz D σ H2) (eLen n (wManyAs K (fun _ _ _ _ => False) { D with nx := tz D } l))) fun H1 e1 => by
  show sp (vs ++ []) H1 _ _
  rw [List.append_nil]
  exact k H1 e1
theorem rd_Ltold {K : PySem.W.Frag} (F : KN K) (vs : List V) (H : Hp) (Q : VK) (E : XK) (h : sp_Ltold K vs H Q E) : Wt_Ltold K vs H Q := by
  obtain ⟨N, A, r, rfl, ht, k⟩ := h
  show t_Ltold K _ [some (.str (textOf N A r)), none] H
  refine q_tryC (ea_1 (ev_var rfl)) (fun H1 e1 => ⟨N, A, r, rfl, ht, fun h0 v H' e' => ?_, fun h0 H' dd e' hdd hd2 => ?_⟩)
  · refine s_retL (el_lst ea_nil (Nat.zero_le _)) fun q H2 hq e2 h2 => k q H2 (fresh_back (e1.trans e') hq) ((e1.trans e').trans e2) ?_
    rw [h0]
    exact h2
  · intro σ' hσ
    refine ⟨true, F.f3, fun _ a ha => ⟨rfl, ?_⟩, (fun h => nomatch h)⟩
    have hs : (σ'.set 1 (some (V.ref a)))[1]? = some (some (.ref a)) := List.getElem?_set_self (by omega)
    refine s_retL (el_lst (ea_2 (ev_xf (v := .int ((rres N A r : Nat) : Int)) (ev_var hs) rfl rfl hd2 (by rw [List.lookup_cons, beq_self_eq_true])) (ev_andV (a := true) (b := true) (ev_cb (ea_2 (ev_var hs) ev_c) (rc_isX rfl hd2 (fun u r => r) F.f5)) fun _ => ev_cb (ea_2 (ev_var hs) ev_c) (rc_isX rfl hd2 (fun u r => r) F.f6))) (by show 2 ≤ 100000; decide)) (fun q H2 hq e2 h2 => k q H2 (fresh_back (e1.trans e') hq) ((e1.trans e').trans e2) ?_)
    unfold toldV
    rw [if_neg h0]
    exact h2
end K33
namespace K33
open PySem PySem.Spec PyProof.Rows L2 Evl TL Hm
/-! ### the law -/
theorem told_inj {a b : Nat} : PyData.eqv (.list (if a = 0 then [] else [.int (a : Int), .bool true])) (.list (if b = 0 then [] else [.int (b : Int), .bool true])) = decide (a = b) := by
  by_cases ha : a = 0
  · rw [if_pos ha]
    by_cases hb : b = 0
    · rw [if_pos hb, ha, hb]
      simp [PyData.eqv, PyData.eqvAll]
    · rw [if_neg hb, ha, decide_eq_false (fun h => hb h.symm)]
      simp [PyData.eqv, PyData.eqvAll]
  · rw [if_neg ha]
    by_cases hb : b = 0
    · rw [if_pos hb, hb, decide_eq_false ha]
      simp [PyData.eqv, PyData.eqvAll]
    · rw [if_neg hb]
      by_cases e : a = b
      · rw [e]
        simp [PyData.eqv, PyData.eqvAll]
      · rw [decide_eq_false e]
        have : ((a : Int) == (b : Int)) = false := by
          rw [beq_eq_false_iff_ne]
          omega
        simp [PyData.eqv, PyData.eqvAll, this]
theorem dp_told {K : PySem.W.Frag} {H : Hp} {p : Addr} {k : Nat} (h : H p = some (.lst (toldV k))) : Dp K H (.ref p) (.list (if k = 0 then [] else [.int (k : Int), .bool true])) := by
  refine Dp.lst (sq_of h) ?_
  unfold toldV
  by_cases hk : k = 0
  · rw [if_pos hk, if_pos hk]
    exact .nil
  · rw [if_neg hk, if_neg hk]
    exact .cons (.int _) (.cons (.bl _) .nil)
theorem shaped_told (k : Nat) : SeqAt.shaped (.list (if k = 0 then [] else [.int (k : Int), .bool true])) = true := by
  by_cases hk : k = 0
  · rw [if_pos hk]
    decide
  · rw [if_neg hk]
    simp [SeqAt.shaped, PyData.canLay0, PyData.canLayAll0, PyData.depth, PyData.depthAll]
section
variable {K : PySem.W.Frag} {σ : L2.St} {H : Hp} {ta tb : TE} {a b : Nat}
theorem ev_neTold (ha : EvL ta σ H (toldV a)) (hb : EvL tb σ H (toldV b)) : Ev (tOp (rNeD K) ta tb) σ H (.bl (!decide (a = b))) := ev_opLL ha hb fun p q H1 hp hq e => by
  rw [← told_inj]
  exact rv_neD' (dp_told hp) (dp_told hq) (shaped_told a) (shaped_told b)
theorem ev_eqTold (ha : EvL ta σ H (toldV a)) (hb : EvL tb σ H (toldV b)) : Ev (tOp (rEqD K) ta tb) σ H (.bl (decide (a = b))) := ev_opLL ha hb fun p q H1 hp hq e => by
  rw [← told_inj]
  exact rv_eqD' (dp_told hp) (dp_told hq) (shaped_told a) (shaped_told b)
theorem el_if {t : TT} {b : Bool} {xs : List V} (h : EvT t σ H b) (h1 : b = true → EvL ta σ H xs) (h2 : b = false → EvL tb σ H xs) : EvL (tIf t ta tb) σ H xs := fun H1 e Q q => h H1 e _ fun H2 e2 => by
  cases b with
  | true =>
    show ta σ H2 Q
    exact h1 rfl H2 (e.trans e2) Q fun p H3 hp e3 h3 => q p H3 (fresh_back e2 hp) (e2.trans e3) h3
  | false =>
    show tb σ H2 Q
    exact h2 rfl H2 (e.trans e2) Q fun p H3 hp e3 h3 => q p H3 (fresh_back e2 hp) (e2.trans e3) h3
/-- [] if good else [k, True] -/
theorem el_due {i : Nat} {g : Bool} {k : Nat} (h : σ[i]? = some (some (.bl g))) (hk : k ≠ 0) : EvL (tIf (tB (tVar i)) (tLst tNil) (tLst (tCons (tC (.int (k : Int))) (tCons (tC (.bl true)) tNil)))) σ H (toldV (if g = true then 0 else k)) := by
  refine el_if (et_B (ev_var h)) (fun hg => ?_) (fun hg => ?_)
  · rw [if_pos hg]
    exact el_lst ea_nil (Nat.zero_le _)
  · rw [if_neg (by rw [hg]; decide)]
    unfold toldV
    rw [if_neg hk]
    exact el_lst (ea_2 ev_c ev_c) (by show 2 ≤ 100000; decide)
theorem el_told {ta : TE} {N A s : Str} {r : Rest} {E : XK} (h : Ev ta σ H (.str s)) (e : s = textOf N A r) (ht : TextOk K N A r) : EvL (tCall (sp_Ltold K) [] E (tCons ta tNil)) σ H (toldV (rres N A r)) := fun H1 e1 Q q =>
  h H1 e1 _ fun H2 e2 => ⟨N, A, r, by rw [e]; rfl, ht, fun p H3 hp e3 h3 => q p H3 (fresh_back e2 hp) (e2.trans e3) h3⟩
end
/-- a second line that binds T, behind a half O -/
structure LineOk (K : PySem.W.Frag) (O T s : Str) : Prop where
  ex : ∃ ws x, s = jn spc ws ∧ RestOk K O (some (ws, x)) ∧ canB (kvH [O]) x.nw = isNm T ∧ 10 ∉ tl s ∧ s.length ≤ 1000
abbrev ot (O : Str) : Prop := O = "x" ∨ O = "y"
theorem nm_ot {O : Str} (h : ot O) : isNm O = true ∧ Sf 100 O := by
  rcases h with rfl | rfl
  · exact ⟨by decide +kernel, ⟨by decide +kernel, by decide +kernel⟩⟩
  · exact ⟨by decide +kernel, ⟨by decide +kernel, by decide +kernel⟩⟩
theorem pt_of {O : Str} (h : ot O) : ((O ++ ".next" : Str), O, ("next" : Str), ("half" : Str)) ∈ PT ∧ ((O ++ ".corner" : Str), O, ("corner" : Str), ("corner" : Str)) ∈ PT := by
  rcases h with rfl | rfl <;> decide +kernel
theorem val_self {O : Str} : valV (kvH [O]) (.inr O) = some (.str "half") := by
  unfold valV kvH
  simp [List.find?]
theorem uses_half {K : PySem.W.Frag} (F : KN K) (O : Str) : UsesOk K (kvH [O]) (some (O, He.ga K "HALVES")) := ⟨"half", ["half"], val_self, F.tHV, by decide +kernel⟩
theorem uses_all {K : PySem.W.Frag} (F : KN K) (O : Str) : UsesOk K (kvH [O]) (some (O, He.ga K "ALL_KINDS")) := ⟨"half", ["half", "face", "corner"], val_self, F.tAK, by decide +kernel⟩
section
variable {K : PySem.W.Frag} {O T S : Str}
theorem free_jn {ws : List Str} (h : ∀ w ∈ ws, Sf 100 w) (hl : ws.length ≤ 5) : (∀ w ∈ ws, 32 ∉ tl w) ∧ 10 ∉ tl (jn spc ws) ∧ (jn spc ws).length ≤ 1000 := by
  refine ⟨fun w hw => sf_32 (h w hw), ?_, ?_⟩
  · rw [tl_jn, tl_spc]
    have key : ∀ ws : List Str, (∀ w ∈ ws, Sf 100 w) → 10 ∉ joinL [32] (ws.map tl) := by
      intro ws
      induction ws with
      | nil => intro _ hc; cases hc
      | cons w r ih =>
        intro h hc
        cases r with
        | nil => exact sf_10 (h w (List.mem_cons_self ..)) hc
        | cons w2 r =>
          have hc : 10 ∈ tl w ++ ([32] ++ joinL [32] ((w2 :: r).map tl)) := hc
          simp only [List.mem_append] at hc
          rcases hc with hc | hc | hc
          · exact sf_10 (h w (List.mem_cons_self ..)) hc
          · revert hc
            decide
          · exact ih (fun y hy => h y (List.mem_cons_of_mem _ hy)) hc
    exact key ws h
  · rw [len_tl, tl_jn, tl_spc]
    have key : ∀ ws : List Str, (∀ w ∈ ws, Sf 100 w) → (joinL [32] (ws.map tl)).length ≤ ws.length * 101 := by
      intro ws
      induction ws with
      | nil => intro _; exact Nat.zero_le _
      | cons w r ih =>
        intro h
        have h1 := (h w (List.mem_cons_self ..)).2
        rw [len_tl] at h1
        cases r with
        | nil =>
          show (tl w).length ≤ 1 * 101
          omega
        | cons w2 r =>
          have h2 := ih (fun y hy => h y (List.mem_cons_of_mem _ hy))
          show (tl w ++ ([32] ++ joinL [32] ((w2 :: r).map tl))).length ≤ _
          rw [List.length_append, List.length_append]
          have h3 : [32].length = 1 := rfl
          simp only [List.length_cons, List.length_nil] at h2 ⊢
          omega
    have := key ws h
    omega
theorem sf_lit (s : Str) (h : ((tl s).all (fun c => decide (c ≠ 32 ∧ c ≠ 10 ∧ c < 256)) && decide (s.length ≤ 50)) = true) : Sf 100 s := by
  rw [Bool.and_eq_true] at h
  refine ⟨fun c hc => of_decide_eq_true (List.all_eq_true.mp h.1 c hc), ?_⟩
  have := of_decide_eq_true h.2
  omega
theorem line_let (F : KN K) {n k t : Str} (hO : ot O) (hT : Sf 30 T) (hne : T ≠ O) (hm : (t, O, n, k) ∈ PT) (ht : Sf 100 t) : LineOk K O T (jn spc ["let", T, "=", t]) := by
  obtain ⟨f1, f2, f3⟩ := free_jn (ws := ["let", T, "=", t]) (by
    intro w hw
    simp only [List.mem_cons, List.not_mem_nil, or_false] at hw
    rcases hw with rfl | rfl | rfl | rfl
    · exact sf_lit _ (by decide +kernel)
    · exact hT.mono (by decide)
    · exact sf_lit _ (by decide +kernel)
    · exact ht) (by show 4 ≤ 5; decide)
  refine ⟨_, _, rfl, ⟨f1, Nat.le_trans f3 (by decide), Says.lt hm, fun w hw => ?_, by show 1 ≤ 100; decide, fun _ => ⟨uses_half F O, fun h => absurd h (by show ¬ ("let" : Str) = "drop"; decide +kernel)⟩⟩, canB1 (val_kvH hne), f2, f3⟩
  rw [List.mem_singleton.mp hw]
  exact Nat.le_trans hT.2 (by decide)
theorem line_make {a b : Str} (ha : Sf 100 a) (hb : Sf 100 b) (hc : canB (kvH [O]) [a, b] = isNm T) : LineOk K O T (jn spc ["make", a, b]) := by
  obtain ⟨f1, f2, f3⟩ := free_jn (ws := ["make", a, b]) (by
    intro w hw
    simp only [List.mem_cons, List.not_mem_nil, or_false] at hw
    rcases hw with rfl | rfl | rfl
    · exact sf_lit _ (by decide +kernel)
    · exact ha
    · exact hb) (by show 3 ≤ 5; decide)
  refine ⟨_, _, rfl, ⟨f1, Nat.le_trans f3 (by decide), Says.mk, fun w hw => ?_, by show 2 ≤ 100; decide, fun _ => ⟨trivial, fun h => absurd h (by show ¬ ("make" : Str) = "drop"; decide +kernel)⟩⟩, hc, f2, f3⟩
  have hw : w ∈ [a, b] := hw
  simp only [List.mem_cons, List.not_mem_nil, or_false] at hw
  rcases hw with rfl | rfl
  · exact Nat.le_trans ha.2 (by decide)
  · exact Nat.le_trans hb.2 (by decide)
theorem line_new {k : Str} (hk : k = "face" ∨ k = "corner") (hT : Sf 30 T) (hne : T ≠ O) : LineOk K O T (jn spc ["new", k, T]) := by
  obtain ⟨f1, f2, f3⟩ := free_jn (ws := ["new", k, T]) (by
    intro w hw
    simp only [List.mem_cons, List.not_mem_nil, or_false] at hw
    rcases hw with rfl | rfl | rfl
    · exact sf_lit _ (by decide +kernel)
    · rcases hk with rfl | rfl
      · exact sf_lit _ (by decide +kernel)
      · exact sf_lit _ (by decide +kernel)
    · exact hT.mono (by decide)) (by show 3 ≤ 5; decide)
  refine ⟨_, _, rfl, ⟨f1, Nat.le_trans f3 (by decide), Says.nw hk, fun w hw => ?_, by show 1 ≤ 100; decide, fun _ => ⟨trivial, fun h => absurd h (by show ¬ ("new" : Str) = "drop"; decide +kernel)⟩⟩, canB1 (val_kvH hne), f2, f3⟩
  rw [List.mem_singleton.mp hw]
  exact Nat.le_trans hT.2 (by decide)
theorem text_line (hO : ot O) {s : Str} (h : LineOk K O T s) : ∃ r, "routine r " ++ O ++ "\n" ++ s = textOf "r" O r ∧ TextOk K "r" O r ∧ rres "r" O r = if isNm T = true then 0 else 2 := by
  obtain ⟨ws, x, rfl, h1, h2, h3, h4⟩ := h.ex
  obtain ⟨n1, n2⟩ := nm_ot hO
  refine ⟨some (ws, x), ?_, ⟨sf_lit _ (by decide +kernel), n2, fun _ => h1, fun s hs => ?_⟩, ?_⟩
  · refine ext_tl ?_
    unfold textOf
    rw [tl_jn, tl_append, tl_append, tl_append, tl_nl]
    show _ = tl (jn spc ["routine", "r", O]) ++ ([10] ++ tl (jn spc ws))
    rw [tl_jn spc ["routine", "r", O], tl_spc]
    show _ = (tl ("routine" : Str) ++ ([32] ++ (tl ("r" : Str) ++ ([32] ++ tl O)))) ++ ([10] ++ tl (jn spc ws))
    simp only [List.append_assoc]
    rfl
  · rw [List.mem_singleton.mp hs]
    exact ⟨h3, h4⟩
  · unfold rres
    rw [n1, if_pos (by decide +kernel)]
    show (if canB (kvH [O]) x.nw = true then 0 else 2) = _
    rw [h2]
end
def sp_law (K : PySem.W.Frag) : Sp := fun vs H Q _ => ∃ (a : Addr) (zs : List Int), vs = [.ref a] ∧ SqL K H a (zs.map V.int) ∧ ∀ H', Q (.bl true) H'
abbrev nm_law : List Str := ["_law_script", "_law_tape_here", "_law_text", "_law_good_here", "_law_other", "_law_second", "_law_lines", "_law_line"]
abbrev pr_law : List Str := ["_law_script"]
def t_law (K : PySem.W.Frag) : TS :=
  (tSeq (tAsg (tCall (sp_Ltape K) [] E0 (tCons (tVar 0) (tCons (tC (.int 0)) tNil))) (gName 1))
  (tSeq (tAsg (tCall (sp_Lstring K) [] E0 (tCons (tVar 1) tNil)) (gName 2))
  (tSeq (tAsg (tCall (sp_Lgood K) [] E0 (tCons (tVar 2) tNil)) (gName 3))
  (tSeq (tIfS (tOr (tTest (tOp rNe (tCall (sp_isname K) [] E0 (tCons (tVar 2) tNil)) (tVar 3))) (tTest (tOp (rNeD K) (tC (.ref (He.ga K "RESERVED"))) (tCB (cTup K) (tCons (tCall (sp_Lreserved K) [] E0 tNil) tNil))))) (tRet (tC (.bl false))) tNext)
  (tSeq (tAsg (tIf (tTest (tOp rNe (tVar 2) (tC (.str "x")))) (tC (.str "x")) (tC (.str "y"))) (gName 4))
  (tSeq (tAsg (tIf (tTest (tOp rNe (tVar 2) (tC (.str "z9")))) (tC (.str "z9")) (tC (.str "z8"))) (gName 5))
  (tSeq (tAsg (tLst (tCons (tOp rCatStr (tOp rCatStr (tOp rCatStr (tOp rCatStr (tC (.str "let ")) (tVar 2)) (tC (.str " = "))) (tVar 4)) (tC (.str ".next"))) (tCons (tOp rCatStr (tOp rCatStr (tOp rCatStr (tC (.str "make ")) (tVar 2)) (tC (.str " "))) (tVar 5)) (tCons (tOp rCatStr (tOp rCatStr (tOp rCatStr (tC (.str "make ")) (tVar 5)) (tC (.str " "))) (tVar 2)) tNil)))) (gName 6))
  (tSeq (tAsg (tOp rCat (tVar 6) (tLst (tCons (tOp rCatStr (tC (.str "new face ")) (tVar 2)) (tCons (tOp rCatStr (tC (.str "new corner ")) (tVar 2)) (tCons (tOp rCatStr (tOp rCatStr (tOp rCatStr (tOp rCatStr (tC (.str "let ")) (tVar 2)) (tC (.str " = "))) (tVar 4)) (tC (.str ".corner"))) tNil))))) (gName 6))
  (tSeq (tFor (iList K (tVar 6)) (gName 7) (tIfS (tTest (tOp (rNeD K) (tCall (sp_Ltold K) [] E0 (tCons (tOp rCatStr (tOp rCatStr (tOp rCatStr (tC (.str "routine r ")) (tVar 4)) (tC (.str "\n"))) (tVar 7)) tNil)) (tIf (tB (tVar 3)) (tLst tNil) (tLst (tCons (tC (.int 2)) (tCons (tC (.bl true)) tNil)))))) (tRet (tC (.bl false))) tNext))
  (tSeq (tIfS (tTest (tOp (rNeD K) (tCall (sp_Ltold K) [] E0 (tCons (tOp rCatStr (tOp rCatStr (tOp rCatStr (tOp rCatStr (tOp rCatStr (tC (.str "routine r ")) (tVar 4)) (tC (.str "\nmake "))) (tVar 5)) (tC (.str " "))) (tVar 5)) tNil)) (tLst (tCons (tC (.int 2)) (tCons (tC (.bl true)) tNil))))) (tRet (tC (.bl false))) tNext)
  (tSeq (tIfS (tTest (tOp (rNeD K) (tCall (sp_Ltold K) [] E0 (tCons (tOp rCatStr (tOp rCatStr (tOp rCatStr (tC (.str "routine r ")) (tVar 2)) (tC (.str "\ndrop "))) (tVar 2)) tNil)) (tIf (tB (tVar 3)) (tLst tNil) (tLst (tCons (tC (.int 1)) (tCons (tC (.bl true)) tNil)))))) (tRet (tC (.bl false))) tNext)
  (tRet (tOp (rEqD K) (tCall (sp_Ltold K) [] E0 (tCons (tOp rCatStr (tOp rCatStr (tOp rCatStr (tC (.str "routine ")) (tVar 2)) (tC (.str " "))) (tVar 4)) tNil)) (tIf (tB (tVar 3)) (tLst tNil) (tLst (tCons (tC (.int 1)) (tCons (tC (.bl true)) tNil)))))))))))))))))
abbrev Wt_law (K : PySem.W.Frag) (vs : List V) (H : Hp) (Q : VK) : Prop := t_law K { nx := fun _ H' => Q .non H', rt := Q } (start nm_law vs) H
theorem ln_law {K : PySem.W.Frag} (vs : List V) (H : Hp) (Q : VK) (E : XK) (h : sp_law K vs H Q E) : vs.length = pr_law.length := by
  obtain ⟨_, _, rfl, _⟩ := h
  rfl
theorem ev_catS {σ : L2.St} {H : Hp} {ta tb : TE} {a b : Str} (ha : Ev ta σ H (.str a)) (hb : Ev tb σ H (.str b)) (hl : a.length ≤ 5000 ∧ b.length ≤ 5000) : Ev (tOp rCatStr ta tb) σ H (.str (a ++ b)) := ev_op ha hb (rv_catS (by omega))
theorem len_app {a b : Str} {n m : Nat} (ha : a.length ≤ n) (hb : b.length ≤ m) : (a ++ b).length ≤ n + m := by
  rw [len_tl] at ha hb ⊢
  rw [tl_append, List.length_append]
  omega

/-- the other names -/
theorem pickO (T : Str) : ∃ O, ot O ∧ T ≠ O ∧ O = if T = "x" then "y" else "x" := by
  by_cases h : T = "x"
  · refine ⟨"y", .inr rfl, ?_, by rw [if_pos h]⟩
    rw [h]
    decide +kernel
  · exact ⟨"x", .inl rfl, h, by rw [if_neg h]⟩
abbrev st2 (S : Str) : Prop := S = "z9" ∨ S = "z8"
theorem pickS (T : Str) : ∃ S, st2 S ∧ T ≠ S ∧ S = if T = "z9" then "z8" else "z9" := by
  by_cases h : T = "z9"
  · refine ⟨"z8", .inr rfl, ?_, by rw [if_pos h]⟩
    rw [h]
    decide +kernel
  · exact ⟨"z9", .inl rfl, h, by rw [if_neg h]⟩
theorem nm_st {S O : Str} (h : st2 S) (hO : ot O) : isNm S = true ∧ Sf 100 S ∧ S ≠ O := by
  rcases h with rfl | rfl <;> rcases hO with rfl | rfl <;> exact ⟨by decide +kernel, ⟨by decide +kernel, by decide +kernel⟩, by decide +kernel⟩
section
variable {K : PySem.W.Frag} {O T S : Str}
theorem ln1 (F : KN K) (hO : ot O) (hT : Sf 30 T) (hne : T ≠ O) : LineOk K O T ("let " ++ T ++ " = " ++ O ++ ".next") := by
  have e : "let " ++ T ++ " = " ++ O ++ ".next" = jn spc ["let", T, "=", O ++ ".next"] := by
    refine ext_tl ?_
    rw [tl_jn, tl_append, tl_append, tl_append, tl_append, tl_spc]
    simp only [List.append_assoc]
    show _ = tl ("let" : Str) ++ ([32] ++ (tl T ++ ([32] ++ (tl ("=" : Str) ++ ([32] ++ tl (O ++ ".next"))))))
    rw [tl_append]
    rfl
  rw [e]
  refine line_let F hO hT hne (pt_of hO).1 ?_
  rcases hO with rfl | rfl <;> exact sf_lit _ (by decide +kernel)
theorem ln6 (F : KN K) (hO : ot O) (hT : Sf 30 T) (hne : T ≠ O) : LineOk K O T ("let " ++ T ++ " = " ++ O ++ ".corner") := by
  have e : "let " ++ T ++ " = " ++ O ++ ".corner" = jn spc ["let", T, "=", O ++ ".corner"] := by
    refine ext_tl ?_
    rw [tl_jn, tl_append, tl_append, tl_append, tl_append, tl_spc]
    simp only [List.append_assoc]
    show _ = tl ("let" : Str) ++ ([32] ++ (tl T ++ ([32] ++ (tl ("=" : Str) ++ ([32] ++ tl (O ++ ".corner"))))))
    rw [tl_append]
    rfl
  rw [e]
  refine line_let F hO hT hne (pt_of hO).2 ?_
  rcases hO with rfl | rfl <;> exact sf_lit _ (by decide +kernel)
theorem mk_eq (a b : Str) : "make " ++ a ++ " " ++ b = jn spc ["make", a, b] := by
  refine ext_tl ?_
  rw [tl_jn, tl_append, tl_append, tl_append, tl_spc]
  simp only [List.append_assoc]
  rfl
theorem ln2 (hO : ot O) (hS : st2 S) (hT : Sf 30 T) (hne : T ≠ O) (hs : T ≠ S) : LineOk K O T ("make " ++ T ++ " " ++ S) := by
  obtain ⟨n1, n2, n3⟩ := nm_st hS hO
  rw [mk_eq]
  refine line_make (hT.mono (by decide)) n2 ?_
  rw [canB2 (val_kvH hne) (val_kvH n3) hs, n1, Bool.and_true]
theorem ln3 (hO : ot O) (hS : st2 S) (hT : Sf 30 T) (hne : T ≠ O) (hs : T ≠ S) : LineOk K O T ("make " ++ S ++ " " ++ T) := by
  obtain ⟨n1, n2, n3⟩ := nm_st hS hO
  rw [mk_eq]
  refine line_make n2 (hT.mono (by decide)) ?_
  rw [canB2 (val_kvH n3) (val_kvH hne) hs.symm, n1, Bool.true_and]
theorem ln4 (hT : Sf 30 T) (hne : T ≠ O) : LineOk K O T ("new face " ++ T) := by
  have e : "new face " ++ T = jn spc ["new", "face", T] := by
    refine ext_tl ?_
    rw [tl_jn, tl_append, tl_spc]
    rfl
  rw [e]
  exact line_new (.inl rfl) hT hne
theorem ln5 (hT : Sf 30 T) (hne : T ≠ O) : LineOk K O T ("new corner " ++ T) := by
  have e : "new corner " ++ T = jn spc ["new", "corner", T] := by
    refine ext_tl ?_
    rw [tl_jn, tl_append, tl_spc]
    rfl
  rw [e]
  exact line_new (.inr rfl) hT hne
/-- make S S -/
theorem txt7 (hO : ot O) (hS : st2 S) : ∃ r, "routine r " ++ O ++ "\nmake " ++ S ++ " " ++ S = textOf "r" O r ∧ TextOk K "r" O r ∧ rres "r" O r = 2 := by
  obtain ⟨n1, n2, n3⟩ := nm_st hS hO
  have hl : LineOk K O "" ("make " ++ S ++ " " ++ S) := by
    rw [mk_eq]
    refine line_make n2 n2 ?_
    rw [canBd]
    decide +kernel
  obtain ⟨r, e, h1, h2⟩ := text_line hO hl
  refine ⟨r, ?_, h1, ?_⟩
  · rw [← e]
    refine ext_tl ?_
    simp only [tl_append, List.append_assoc]
    rfl
  · rw [h2, if_neg (by decide +kernel)]
/-- a routine of one half T that is dropped -/
theorem txt8 (F : KN K) (hT : Sf 30 T) : ∃ r, "routine r " ++ T ++ "\ndrop " ++ T = textOf "r" T r ∧ TextOk K "r" T r ∧ rres "r" T r = if isNm T = true then 0 else 1 := by
  refine ⟨some (["drop", T], ⟨"drop", [], "half", some (T, He.ga K "ALL_KINDS")⟩), ?_, ⟨sf_lit _ (by decide +kernel), hT.mono (by decide), fun hn => ?_, fun s hs => ?_⟩, ?_⟩
  · refine ext_tl ?_
    unfold textOf
    rw [tl_jn, tl_nl]
    show _ = tl (jn spc ["routine", "r", T]) ++ ([10] ++ tl (jn spc ["drop", T]))
    rw [tl_jn, tl_jn, tl_spc]
    simp only [tl_append, List.append_assoc]
    show _ = (tl ("routine" : Str) ++ ([32] ++ (tl ("r" : Str) ++ ([32] ++ tl T)))) ++ ([10] ++ (tl ("drop" : Str) ++ ([32] ++ tl T)))
    simp only [List.append_assoc]
    rfl
  · obtain ⟨f1, f2, f3⟩ := free_jn (ws := ["drop", T]) (by
      intro w hw
      simp only [List.mem_cons, List.not_mem_nil, or_false] at hw
      rcases hw with rfl | rfl
      · exact sf_lit _ (by decide +kernel)
      · exact hT.mono (by decide)) (by show 2 ≤ 5; decide)
    have hn : isNm T = true := (Bool.and_eq_true_iff.mp hn).2
    have hw : isW T = true := by
      unfold isNm at hn
      exact (Bool.and_eq_true_iff.mp hn).1
    exact ⟨f1, Nat.le_trans f3 (by decide), Says.dr hw (Nat.le_trans hT.2 (by decide)), fun w hw => (nomatch hw), by show 0 ≤ 100; decide, fun _ => ⟨uses_all F T, fun _ => ⟨T, _, rfl, val_self⟩⟩⟩
  · obtain ⟨f1, f2, f3⟩ := free_jn (ws := ["drop", T]) (by
      intro w hw
      simp only [List.mem_cons, List.not_mem_nil, or_false] at hw
      rcases hw with rfl | rfl
      · exact sf_lit _ (by decide +kernel)
      · exact hT.mono (by decide)) (by show 2 ≤ 5; decide)
    rw [List.mem_singleton.mp hs]
    exact ⟨f2, f3⟩
  · unfold rres
    have : isNm "r" = true := by decide +kernel
    rw [this, Bool.true_and]
    by_cases h : isNm T = true
    · rw [if_pos h, if_pos h]
      show (if canB (kvH [T]) [] = true then 0 else 2) = 0
      rw [if_pos (by rfl)]
    · rw [if_neg h, if_neg h]
/-- a head alone -/
theorem txt9 (hO : ot O) (hT : Sf 30 T) : "routine " ++ T ++ " " ++ O = textOf T O none ∧ TextOk K T O none ∧ rres T O none = if isNm T = true then 0 else 1 := by
  obtain ⟨n1, n2⟩ := nm_ot hO
  refine ⟨?_, ⟨hT.mono (by decide), n2, fun _ => trivial, fun s hs => (nomatch hs)⟩, ?_⟩
  · refine ext_tl ?_
    unfold textOf
    rw [tl_jn, tl_nl]
    show _ = tl (jn spc ["routine", T, O])
    rw [tl_jn, tl_spc]
    simp only [tl_append, List.append_assoc]
    rfl
  · unfold rres
    rw [n1, Bool.and_true]
    rfl
end
/-- a text's value, and a bound of its length -/
def EvN (te : TE) (σ : L2.St) (H : Hp) (s : Str) (n : Nat) : Prop := Ev te σ H (.str s) ∧ s.length ≤ n
theorem en_c {σ : L2.St} {H : Hp} {s : Str} (n : Nat) (h : s.length ≤ n) : EvN (tC (.str s)) σ H s n := ⟨ev_c, h⟩
theorem en_cat {σ : L2.St} {H : Hp} {ta tb : TE} {a b : Str} {n m : Nat} (ha : EvN ta σ H a n) (hb : EvN tb σ H b m) (hl : n + m ≤ 5000) : EvN (tOp rCatStr ta tb) σ H (a ++ b) (n + m) := ⟨ev_catS ha.1 hb.1 (by have := ha.2; have := hb.2; omega), len_app ha.2 hb.2⟩
theorem st_len {T : Str} (h : Sf 30 T) : T.length ≤ 30 := h.2
theorem rd_law {K : PySem.W.Frag} (F : KN K) (vs : List V) (H : Hp) (Q : VK) (E : XK) (h : sp_law K vs H Q E) : Wt_law K vs H Q := by
  obtain ⟨a, zs, rfl, hS, k⟩ := h
  show t_law K _ [some (.ref a), none, none, none, none, none, none, none] H
  refine q_asgC (ea_2 (ev_var rfl) ev_c) fun H1 e1 => ⟨a, zs, 0, rfl, ex_l e1 hS, by decide, by decide, fun t H2 ht tp e2 => ?_⟩
  refine q_asgC (ea_1 (ev_var rfl)) fun H3 e3 => ⟨t, rfl, tp_ex tp e3, fun T H4 sT o4 => ?_⟩
  have lT := sT.2
  refine q_asg (v := .bl (isNm T)) (ev_call (ea_1 (ev_var rfl)) fun H5 e5 Q5 q5 E5 => ⟨T, rfl, sT, q5⟩) fun H5 e5 => ?_
  show tSeq _ _ _ [some (.ref a), some (.ref t), some (.str T), some (.bl (isNm T)), none, none, none, none] H5
  refine q_when (b := false) (et_is (et_or (et_test (ev_op (ev_call (ea_1 (ev_var (i := 2) rfl)) (spv_isname (by omega))) (ev_var (i := 3) rfl) (rv_ne rfl))) fun _ => et_test (ev_opU ev_c (eu_tupN el_reserved) fun p H6 hp e6 => rv_neD' (Dp.tup (stv_res ▸ F.tRS _) (dpAll_S res)) (Dp.tup (st_of hp) (dpAll_S res)) (shaped_S (by decide +kernel)).2 (shaped_S (by decide +kernel)).2)) ?_) (fun h => nomatch h) fun _ H6 e6 => ?_
  · have e : PyData.eqv (.tuple (res.map PyData.str)) (.tuple (res.map PyData.str)) = true := by
      simp only [PyData.eqv]
      exact eqv_S_self res
    rw [e]
    simp
  obtain ⟨O, hO, hTO, eO⟩ := pickO T
  obtain ⟨S, hSt, hTS, eS⟩ := pickS T
  obtain ⟨nO, sO⟩ := nm_ot hO
  obtain ⟨nS, sS, nSO⟩ := nm_st hSt hO
  have lO := sO.2
  have lS := sS.2
  refine q_asg (v := .str O) (ev_if (et_test (ev_op (ev_var (i := 2) rfl) ev_c (rv_ne rfl))) (fun hb => ?_) (fun hb => ?_)) fun H7 e7 => ?_
  · have : ¬ T = "x" := fun q => by rw [q] at hb; simp at hb
    rw [if_neg this] at eO
    rw [eO]
    exact ev_c
  · have : T = "x" := Classical.byContradiction fun q => by
      rw [decide_eq_false (fun w => q (V.str.inj w))] at hb
      cases hb
    rw [if_pos this] at eO
    rw [eO]
    exact ev_c
  refine q_asg (v := .str S) (ev_if (et_test (ev_op (ev_var (i := 2) rfl) ev_c (rv_ne rfl))) (fun hb => ?_) (fun hb => ?_)) fun H8 e8 => ?_
  · have : ¬ T = "z9" := fun q => by rw [q] at hb; simp at hb
    rw [if_neg this] at eS
    rw [eS]
    exact ev_c
  · have : T = "z9" := Classical.byContradiction fun q => by
      rw [decide_eq_false (fun w => q (V.str.inj w))] at hb
      cases hb
    rw [if_pos this] at eS
    rw [eS]
    exact ev_c
  show tSeq _ _ _ [some (.ref a), some (.ref t), some (.str T), some (.bl (isNm T)), some (.str O), some (.str S), none, none] H8
  have vT : ∀ {p6 w7 : Option V} {G : Hp}, EvN (tVar 2) [some (.ref a), some (.ref t), some (.str T), some (.bl (isNm T)), some (.str O), some (.str S), p6, w7] G T 30 := ⟨ev_var rfl, lT⟩
  have vO : ∀ {p6 w7 : Option V} {G : Hp}, EvN (tVar 4) [some (.ref a), some (.ref t), some (.str T), some (.bl (isNm T)), some (.str O), some (.str S), p6, w7] G O 100 := ⟨ev_var rfl, lO⟩
  have vS : ∀ {p6 w7 : Option V} {G : Hp}, EvN (tVar 5) [some (.ref a), some (.ref t), some (.str T), some (.bl (isNm T)), some (.str O), some (.str S), p6, w7] G S 100 := ⟨ev_var rfl, lS⟩
  have m1 : ∀ {G : Hp}, EvN (tOp rCatStr (tOp rCatStr (tOp rCatStr (tOp rCatStr (tC (.str "let ")) (tVar 2)) (tC (.str " = "))) (tVar 4)) (tC (.str ".next"))) [some (.ref a), some (.ref t), some (.str T), some (.bl (isNm T)), some (.str O), some (.str S), none, none] G ("let " ++ T ++ " = " ++ O ++ ".next") 160 :=
    (en_cat (en_cat (en_cat (en_cat (en_c 10 (by decide)) vT (by decide)) (en_c 10 (by decide)) (by decide)) vO (by decide)) (en_c 10 (by decide)) (by decide))
  have m2 : ∀ {G : Hp}, EvN (tOp rCatStr (tOp rCatStr (tOp rCatStr (tC (.str "make ")) (tVar 2)) (tC (.str " "))) (tVar 5)) [some (.ref a), some (.ref t), some (.str T), some (.bl (isNm T)), some (.str O), some (.str S), none, none] G ("make " ++ T ++ " " ++ S) 150 :=
    (en_cat (en_cat (en_cat (en_c 10 (by decide)) vT (by decide)) (en_c 10 (by decide)) (by decide)) vS (by decide))
  have m3 : ∀ {G : Hp}, EvN (tOp rCatStr (tOp rCatStr (tOp rCatStr (tC (.str "make ")) (tVar 5)) (tC (.str " "))) (tVar 2)) [some (.ref a), some (.ref t), some (.str T), some (.bl (isNm T)), some (.str O), some (.str S), none, none] G ("make " ++ S ++ " " ++ T) 150 :=
    (en_cat (en_cat (en_cat (en_c 10 (by decide)) vS (by decide)) (en_c 10 (by decide)) (by decide)) vT (by decide))
  refine q_asgL (el_lst (ea_cons m1.1 (ea_2 m2.1 m3.1)) (by show 3 ≤ 100000; decide)) fun p3 H9 hp3 e9 h9 => ?_
  have m4 : ∀ {p6 : Option V} {G : Hp}, EvN (tOp rCatStr (tC (.str "new face ")) (tVar 2)) [some (.ref a), some (.ref t), some (.str T), some (.bl (isNm T)), some (.str O), some (.str S), p6, none] G ("new face " ++ T) 45 := en_cat (en_c 15 (by decide)) vT (by decide)
  have m5 : ∀ {p6 : Option V} {G : Hp}, EvN (tOp rCatStr (tC (.str "new corner ")) (tVar 2)) [some (.ref a), some (.ref t), some (.str T), some (.bl (isNm T)), some (.str O), some (.str S), p6, none] G ("new corner " ++ T) 45 := en_cat (en_c 15 (by decide)) vT (by decide)
  have m6 : ∀ {p6 : Option V} {G : Hp}, EvN (tOp rCatStr (tOp rCatStr (tOp rCatStr (tOp rCatStr (tC (.str "let ")) (tVar 2)) (tC (.str " = "))) (tVar 4)) (tC (.str ".corner"))) [some (.ref a), some (.ref t), some (.str T), some (.bl (isNm T)), some (.str O), some (.str S), p6, none] G ("let " ++ T ++ " = " ++ O ++ ".corner") 160 :=
    (en_cat (en_cat (en_cat (en_cat (en_c 10 (by decide)) vT (by decide)) (en_c 10 (by decide)) (by decide)) vO (by decide)) (en_c 10 (by decide)) (by decide))
  show tSeq _ _ _ [some (.ref a), some (.ref t), some (.str T), some (.bl (isNm T)), some (.str O), some (.str S), some (.ref p3), none] H9
  refine r_asg (r_op (r_ev (ev_var (i := 6) rfl) fun H10 e10 => r_evL (el_lst (ea_cons m4.1 (ea_2 m5.1 m6.1)) (by show 3 ≤ 100000; decide)) fun q3 H11 hq3 e11 h11 => ⟨p3, q3, _, _, rfl, rfl, (e10.trans e11) _ _ h9, h11, sz_of (by show 6 ≤ 100000; decide), fun p6 hp6 => ?_⟩))
  show tSeq _ _ _ [some (.ref a), some (.ref t), some (.str T), some (.bl (isNm T)), some (.str O), some (.str S), some (.ref p6), none] _
  obtain ⟨ls, hls⟩ : ∃ ls : List Str, ls = ["let " ++ T ++ " = " ++ O ++ ".next", "make " ++ T ++ " " ++ S, "make " ++ S ++ " " ++ T, "new face " ++ T, "new corner " ++ T, "let " ++ T ++ " = " ++ O ++ ".corner"] := ⟨_, rfl⟩
  have h12 : upd H11 p6 (.lst ([V.str ("let " ++ T ++ " = " ++ O ++ ".next"), V.str ("make " ++ T ++ " " ++ S), V.str ("make " ++ S ++ " " ++ T)] ++ [V.str ("new face " ++ T), V.str ("new corner " ++ T), V.str ("let " ++ T ++ " = " ++ O ++ ".corner")])) p6 = some (.lst (ls.map V.str)) := by
    rw [hls]
    exact upd_same
  have hok : ∀ s ∈ ls, LineOk K O T s ∧ s.length ≤ 200 := by
    intro s hs
    rw [hls] at hs
    simp only [List.mem_cons, List.not_mem_nil, or_false] at hs
    rcases hs with rfl | rfl | rfl | rfl | rfl | rfl
    · exact ⟨ln1 F hO sT hTO, Nat.le_trans (m1 (G := H)).2 (by decide)⟩
    · exact ⟨ln2 hO hSt sT hTO hTS, Nat.le_trans (m2 (G := H)).2 (by decide)⟩
    · exact ⟨ln3 hO hSt sT hTO hTS, Nat.le_trans (m3 (G := H)).2 (by decide)⟩
    · exact ⟨ln4 sT hTO, Nat.le_trans (m4 (p6 := none) (G := H)).2 (by decide)⟩
    · exact ⟨ln5 sT hTO, Nat.le_trans (m5 (p6 := none) (G := H)).2 (by decide)⟩
    · exact ⟨ln6 F hO sT hTO, Nat.le_trans (m6 (p6 := none) (G := H)).2 (by decide)⟩
  revert h12
  generalize upd H11 p6 (.lst ([V.str ("let " ++ T ++ " = " ++ O ++ ".next"), V.str ("make " ++ T ++ " " ++ S), V.str ("make " ++ S ++ " " ++ T)] ++ [V.str ("new face " ++ T), V.str ("new corner " ++ T), V.str ("let " ++ T ++ " = " ++ O ++ ".corner")])) = H12
  intro h12
  refine q_forLn (ev_var (i := 6) rfl) (sq_of h12) (fun i σ' H' => ∃ w7, σ' = [some (.ref a), some (.ref t), some (.str T), some (.bl (isNm T)), some (.str O), some (.str S), some (.ref p6), w7] ∧ Ex H12 H') (fun H13 e13 => ⟨_, rfl, e13⟩) (fun i σ' H' _ p => by
    obtain ⟨_, _, e⟩ := p
    exact sq_of (e _ _ h12)) ?_ ?_
  · rintro i x σ' H' hx ⟨w7, rfl, e13⟩
    rw [List.getElem?_map] at hx
    obtain ⟨s, hs, rfl⟩ := Option.map_eq_some_iff.mp hx
    obtain ⟨hl, hln⟩ := hok s (List.mem_of_getElem? hs)
    obtain ⟨r, er, hr1, hr2⟩ := text_line hO hl
    show tIfS _ _ _ _ [some (.ref a), some (.ref t), some (.str T), some (.bl (isNm T)), some (.str O), some (.str S), some (.ref p6), some (.str s)] H'
    have es : EvN (tOp rCatStr (tOp rCatStr (tOp rCatStr (tC (.str "routine r ")) (tVar 4)) (tC (.str "\n"))) (tVar 7)) [some (.ref a), some (.ref t), some (.str T), some (.bl (isNm T)), some (.str O), some (.str S), some (.ref p6), some (.str s)] H' ("routine r " ++ O ++ "\n" ++ s) 330 :=
      en_cat (en_cat (en_cat (en_c 20 (by decide)) vO (by decide)) (en_c 10 (by decide)) (by decide)) ⟨ev_var rfl, hln⟩ (by decide)
    refine s_when (b := false) (et_is (et_test (ev_neTold (el_told es.1 er hr1) (el_due (k := 2) rfl (by decide)))) ?_) (fun h => nomatch h) fun _ H14 e14 => ⟨_, rfl, e13.trans e14⟩
    rw [hr2, decide_eq_true rfl]
    rfl
  · rintro σ' H13 ⟨w7, rfl, e13⟩
    obtain ⟨r7, er7, h71, h72⟩ := txt7 (K := K) hO hSt
    have es7 : EvN (tOp rCatStr (tOp rCatStr (tOp rCatStr (tOp rCatStr (tOp rCatStr (tC (.str "routine r ")) (tVar 4)) (tC (.str "\nmake "))) (tVar 5)) (tC (.str " "))) (tVar 5)) [some (.ref a), some (.ref t), some (.str T), some (.bl (isNm T)), some (.str O), some (.str S), some (.ref p6), w7] H13 ("routine r " ++ O ++ "\nmake " ++ S ++ " " ++ S) 340 :=
      en_cat (en_cat (en_cat (en_cat (en_cat (en_c 20 (by decide)) vO (by decide)) (en_c 10 (by decide)) (by decide)) vS (by decide)) (en_c 10 (by decide)) (by decide)) vS (by decide)
    have e2 : EvL (tLst (tCons (tC (.int 2)) (tCons (tC (.bl true)) tNil))) [some (.ref a), some (.ref t), some (.str T), some (.bl (isNm T)), some (.str O), some (.str S), some (.ref p6), w7] H13 (toldV 2) := el_lst (ea_2 ev_c ev_c) (by show 2 ≤ 100000; decide)
    refine q_when (b := false) (et_is (et_test (ev_neTold (el_told es7.1 er7 h71) e2)) (by rw [h72]; rfl)) (fun h => nomatch h) fun _ H14 e14 => ?_
    obtain ⟨r8, er8, h81, h82⟩ := txt8 F sT
    have es8 : EvN (tOp rCatStr (tOp rCatStr (tOp rCatStr (tC (.str "routine r ")) (tVar 2)) (tC (.str "\ndrop "))) (tVar 2)) [some (.ref a), some (.ref t), some (.str T), some (.bl (isNm T)), some (.str O), some (.str S), some (.ref p6), w7] H14 ("routine r " ++ T ++ "\ndrop " ++ T) 100 :=
      en_cat (en_cat (en_cat (en_c 20 (by decide)) vT (by decide)) (en_c 20 (by decide)) (by decide)) vT (by decide)
    refine q_when (b := false) (et_is (et_test (ev_neTold (el_told es8.1 er8 h81) (el_due (k := 1) rfl (by decide)))) (by rw [h82, decide_eq_true rfl]; rfl)) (fun h => nomatch h) fun _ H15 e15 => ?_
    obtain ⟨er9, h91, h92⟩ := txt9 (K := K) hO sT
    have es9 : EvN (tOp rCatStr (tOp rCatStr (tOp rCatStr (tC (.str "routine ")) (tVar 2)) (tC (.str " "))) (tVar 4)) [some (.ref a), some (.ref t), some (.str T), some (.bl (isNm T)), some (.str O), some (.str S), some (.ref p6), w7] H15 ("routine " ++ T ++ " " ++ O) 170 :=
      en_cat (en_cat (en_cat (en_c 20 (by decide)) vT (by decide)) (en_c 20 (by decide)) (by decide)) vO (by decide)
    refine s_ret (v := .bl true) (ev_is (ev_eqTold (el_told es9.1 er9 h91) (el_due (k := 1) rfl (by decide))) (by rw [h92, decide_eq_true rfl])) fun H16 _ => k H16
end K33
namespace K33
open PySem PySem.Spec PyProof.Rows L2 Evl Hm
theorem sc_Pathinit : FnScope nm_Pathinit pr_Pathinit (defScope s_Pathinit) := ⟨rfl, rfl, rfl, by decide +kernel, rfl, by decide +kernel, by decide +kernel⟩
theorem sc_Stepinit : FnScope nm_Stepinit pr_Stepinit (defScope s_Stepinit) := ⟨rfl, rfl, rfl, by decide +kernel, rfl, by decide +kernel, by decide +kernel⟩
theorem sc_isword : FnScope nm_isword pr_isword (defScope s_isword) := ⟨rfl, rfl, rfl, by decide +kernel, rfl, by decide +kernel, by decide +kernel⟩
theorem sc_readpath : FnScope nm_readpath pr_readpath (defScope s_readpath) := ⟨rfl, rfl, rfl, by decide +kernel, rfl, by decide +kernel, by decide +kernel⟩
theorem sc_readstep : FnScope nm_readstep pr_readstep (defScope s_readstep) := ⟨rfl, rfl, rfl, by decide +kernel, rfl, by decide +kernel, by decide +kernel⟩
theorem sc_readlet : FnScope nm_readlet pr_readlet (defScope s_readlet) := ⟨rfl, rfl, rfl, by decide +kernel, rfl, by decide +kernel, by decide +kernel⟩
theorem sc_readmake : FnScope nm_readmake pr_readmake (defScope s_readmake) := ⟨rfl, rfl, rfl, by decide +kernel, rfl, by decide +kernel, by decide +kernel⟩
theorem sc_readdrop : FnScope nm_readdrop pr_readdrop (defScope s_readdrop) := ⟨rfl, rfl, rfl, by decide +kernel, rfl, by decide +kernel, by decide +kernel⟩
theorem sc_readnew : FnScope nm_readnew pr_readnew (defScope s_readnew) := ⟨rfl, rfl, rfl, by decide +kernel, rfl, by decide +kernel, by decide +kernel⟩
theorem sc_usedhalves : FnScope nm_usedhalves pr_usedhalves (defScope s_usedhalves) := ⟨rfl, rfl, rfl, by decide +kernel, rfl, by decide +kernel, by decide +kernel⟩
theorem sc_isname : FnScope nm_isname pr_isname (defScope s_isname) := ⟨rfl, rfl, rfl, by decide +kernel, rfl, by decide +kernel, by decide +kernel⟩
theorem sc_Routineinit : FnScope nm_Routineinit pr_Routineinit (defScope s_Routineinit) := ⟨rfl, rfl, rfl, by decide +kernel, rfl, by decide +kernel, by decide +kernel⟩
theorem sc_Scopeinit : FnScope nm_Scopeinit pr_Scopeinit (defScope s_Scopeinit) := ⟨rfl, rfl, rfl, by decide +kernel, rfl, by decide +kernel, by decide +kernel⟩
theorem sc_Scopecanbind : FnScope nm_Scopecanbind pr_Scopecanbind (defScope s_Scopecanbind) := ⟨rfl, rfl, rfl, by decide +kernel, rfl, by decide +kernel, by decide +kernel⟩
theorem sc_Scopecheckuses : FnScope nm_Scopecheckuses pr_Scopecheckuses (defScope s_Scopecheckuses) := ⟨rfl, rfl, rfl, by decide +kernel, rfl, by decide +kernel, by decide +kernel⟩
theorem sc_Scopebind : FnScope nm_Scopebind pr_Scopebind (defScope s_Scopebind) := ⟨rfl, rfl, rfl, by decide +kernel, rfl, by decide +kernel, by decide +kernel⟩
theorem sc_Draftinit : FnScope nm_Draftinit pr_Draftinit (defScope s_Draftinit) := ⟨rfl, rfl, rfl, by decide +kernel, rfl, by decide +kernel, by decide +kernel⟩
theorem sc_readroutine : FnScope nm_readroutine pr_readroutine (defScope s_readroutine) := ⟨rfl, rfl, rfl, by decide +kernel, rfl, by decide +kernel, by decide +kernel⟩
theorem sc_routineof : FnScope nm_routineof pr_routineof (defScope s_routineof) := ⟨rfl, rfl, rfl, by decide +kernel, rfl, by decide +kernel, by decide +kernel⟩
theorem sc_readhead : FnScope nm_readhead pr_readhead (defScope s_readhead) := ⟨rfl, rfl, rfl, by decide +kernel, rfl, by decide +kernel, by decide +kernel⟩
theorem sc_toldnames : FnScope nm_toldnames pr_toldnames (defScope s_toldnames) := ⟨rfl, rfl, rfl, by decide +kernel, rfl, by decide +kernel, by decide +kernel⟩
theorem sc_addline : FnScope nm_addline pr_addline (defScope s_addline) := ⟨rfl, rfl, rfl, by decide +kernel, rfl, by decide +kernel, by decide +kernel⟩
theorem sc_maystand : FnScope nm_maystand pr_maystand (defScope s_maystand) := ⟨rfl, rfl, rfl, by decide +kernel, rfl, by decide +kernel, by decide +kernel⟩
theorem sc_checklabels : FnScope nm_checklabels pr_checklabels (defScope s_checklabels) := ⟨rfl, rfl, rfl, by decide +kernel, rfl, by decide +kernel, by decide +kernel⟩
theorem sc_openorclose : FnScope nm_openorclose pr_openorclose (defScope s_openorclose) := ⟨rfl, rfl, rfl, by decide +kernel, rfl, by decide +kernel, by decide +kernel⟩
theorem sc_Ltape : FnScope nm_Ltape pr_Ltape (defScope s_Ltape) := ⟨rfl, rfl, rfl, by decide +kernel, rfl, by decide +kernel, by decide +kernel⟩
theorem sc_Lpick : FnScope nm_Lpick pr_Lpick (defScope s_Lpick) := ⟨rfl, rfl, rfl, by decide +kernel, rfl, by decide +kernel, by decide +kernel⟩
theorem sc_Lreserved : FnScope nm_Lreserved pr_Lreserved (defScope s_Lreserved) := ⟨rfl, rfl, rfl, by decide +kernel, rfl, by decide +kernel, by decide +kernel⟩
theorem sc_Lstring : FnScope nm_Lstring pr_Lstring (defScope s_Lstring) := ⟨rfl, rfl, rfl, by decide +kernel, rfl, by decide +kernel, by decide +kernel⟩
theorem sc_Lgood : FnScope nm_Lgood pr_Lgood (defScope s_Lgood) := ⟨rfl, rfl, rfl, by decide +kernel, rfl, by decide +kernel, by decide +kernel⟩
theorem sc_Ltold : FnScope nm_Ltold pr_Ltold (defScope s_Ltold) := ⟨rfl, rfl, rfl, by decide +kernel, rfl, by decide +kernel, by decide +kernel⟩
theorem sc_law : FnScope nm_law pr_law (defScope s_law) := ⟨rfl, rfl, rfl, by decide +kernel, rfl, by decide +kernel, by decide +kernel⟩
structure PF (P : Program) : Prop where
  file : P.main.file = fileS
  top : (P.main.scope.names.lookup ("super" : Str)).isSome = false
structure Tx (P : Program) (w : World) (K : PySem.W.Frag) (mg : Str → Option Value) where
  n_len : mg "len" = none
  n_abs : mg "abs" = none
  n_int : mg "int" = none
  n_all : mg "all" = none
  n_isinstance : mg "isinstance" = none
  n_range : mg "range" = none
  n_bool : mg "bool" = none
  n_tuple : mg "tuple" = none
  n_dict : mg "dict" = none
  n_super : mg "super" = none
  n_set : mg "set" = none
  n_ValueError : mg "ValueError" = none
  m_MeshError : mg "MeshError" = some (.ref (He.ga K "MeshError"))
  m_BadLine : mg "BadLine" = some (.ref (He.ga K "BadLine"))
  m_UnknownName : mg "UnknownName" = some (.ref (He.ga K "UnknownName"))
  m_WrongKind : mg "WrongKind" = some (.ref (He.ga K "WrongKind"))
  m_Path : mg "Path" = some (.ref (He.ga K "Path"))
  cl_Path : Cls K (He.ga K "Path")
  mk_Path : Mk K (He.ga K "Path") (He.ma K (He.ga K "Path") "__init__")
  m_Step : mg "Step" = some (.ref (He.ga K "Step"))
  cl_Step : Cls K (He.ga K "Step")
  mk_Step : Mk K (He.ga K "Step") (He.ma K (He.ga K "Step") "__init__")
  m_Routine : mg "Routine" = some (.ref (He.ga K "Routine"))
  cl_Routine : Cls K (He.ga K "Routine")
  mk_Routine : Mk K (He.ga K "Routine") (He.ma K (He.ga K "Routine") "__init__")
  m_Scope : mg "Scope" = some (.ref (He.ga K "Scope"))
  cl_Scope : Cls K (He.ga K "Scope")
  mk_Scope : Mk K (He.ga K "Scope") (He.ma K (He.ga K "Scope") "__init__")
  m_Block : mg "Block" = some (.ref (He.ga K "Block"))
  m_Draft : mg "Draft" = some (.ref (He.ga K "Draft"))
  cl_Draft : Cls K (He.ga K "Draft")
  mk_Draft : Mk K (He.ga K "Draft") (He.ma K (He.ga K "Draft") "__init__")
  u_HALF : Value
  m_HALF : mg "HALF" = some u_HALF
  r_HALF : RelV (.str "half") u_HALF
  u_SIGNS : Value
  m_SIGNS : mg "SIGNS" = some u_SIGNS
  r_SIGNS : RelV (.str "abcdefghijklmnopqrstuvwxyz0123456789") u_SIGNS
  u_DIGITS : Value
  m_DIGITS : mg "DIGITS" = some u_DIGITS
  r_DIGITS : RelV (.str "0123456789") u_DIGITS
  u_MOST_LINKS : Value
  m_MOST_LINKS : mg "MOST_LINKS" = some u_MOST_LINKS
  r_MOST_LINKS : RelV (.int 4) u_MOST_LINKS
  u_MOST_SIGNS : Value
  m_MOST_SIGNS : mg "MOST_SIGNS" = some u_MOST_SIGNS
  r_MOST_SIGNS : RelV (.int 8) u_MOST_SIGNS
  u_MOST_HALVES : Value
  m_MOST_HALVES : mg "MOST_HALVES" = some u_MOST_HALVES
  r_MOST_HALVES : RelV (.int 3) u_MOST_HALVES
  u_MOST_LINES : Value
  m_MOST_LINES : mg "MOST_LINES" = some u_MOST_LINES
  r_MOST_LINES : RelV (.int 60) u_MOST_LINES
  u_MOST_BLOCKS : Value
  m_MOST_BLOCKS : mg "MOST_BLOCKS" = some u_MOST_BLOCKS
  r_MOST_BLOCKS : RelV (.int 3) u_MOST_BLOCKS
  m_HALVES : mg "HALVES" = some (.ref (He.ga K "HALVES"))
  m_LABELS : mg "LABELS" = some (.ref (He.ga K "LABELS"))
  m_ALL_KINDS : mg "ALL_KINDS" = some (.ref (He.ga K "ALL_KINDS"))
  m_LINKS : mg "LINKS" = some (.ref (He.ga K "LINKS"))
  m_RESERVED : mg "RESERVED" = some (.ref (He.ga K "RESERVED"))
  m_AHEAD_OF_LABELS : mg "AHEAD_OF_LABELS" = some (.ref (He.ga K "AHEAD_OF_LABELS"))
  m_LABEL_ACTIONS : mg "LABEL_ACTIONS" = some (.ref (He.ga K "LABEL_ACTIONS"))
  m_FORMS : mg "FORMS" = some (.ref (He.ga K "FORMS"))
  te_FORMS : Array DictEntry
  tn_FORMS : Nat
  tb_FORMS : KDict K w (He.ga K "FORMS") te_FORMS tn_FORMS
  fd_BadLineinit : FuncData
  u_BadLine : SupX P K cl_BadLine fd_BadLineinit
  b_BadLineinit : Binds K fd_BadLineinit pr_BadLineinit []
  fd_Pathinit : FuncData
  F_Pathinit : FunD K "__init__" "Path.__init__" (defArgs s_Pathinit) (defBody s_Pathinit) (defScope s_Pathinit) [] [] (He.ma K (He.ga K "Path") "__init__") fd_Pathinit
  b_Pathinit : Binds K fd_Pathinit pr_Pathinit []
  fd_Stepinit : FuncData
  F_Stepinit : FunD K "__init__" "Step.__init__" (defArgs s_Stepinit) (defBody s_Stepinit) (defScope s_Stepinit) (dfl_Step K) [] (He.ma K (He.ga K "Step") "__init__") fd_Stepinit
  ds_Step : List Value
  v0_Step : Vals (dfl_Step K) ds_Step
  b0_Step : Binds K fd_Stepinit pr_Stepinit ds_Step
  gi_Step_news_kind_uses_detail : List Value
  kb_Step_news_kind_uses_detail : KBn K fd_Stepinit pr_Stepinit 2 ["news", "kind", "uses", "detail"] (fun us ws => g_Step_news_kind_uses_detail us gi_Step_news_kind_uses_detail ws) (fun vs zs => g_Step_news_kind_uses_detail vs (dfl_Step K) zs)
  gi_Step_news : List Value
  kb_Step_news : KBn K fd_Stepinit pr_Stepinit 2 ["news"] (fun us ws => g_Step_news us gi_Step_news ws) (fun vs zs => g_Step_news vs (dfl_Step K) zs)
  gi_Step_uses : List Value
  kb_Step_uses : KBn K fd_Stepinit pr_Stepinit 2 ["uses"] (fun us ws => g_Step_uses us gi_Step_uses ws) (fun vs zs => g_Step_uses vs (dfl_Step K) zs)
  gi_Step_news_kind : List Value
  kb_Step_news_kind : KBn K fd_Stepinit pr_Stepinit 2 ["news", "kind"] (fun us ws => g_Step_news_kind us gi_Step_news_kind ws) (fun vs zs => g_Step_news_kind vs (dfl_Step K) zs)
  m_isword : mg "is_word" = some (.ref (He.ga K "is_word"))
  fd_isword : FuncData
  F_isword : FunD K "is_word" "is_word" (defArgs s_isword) (defBody s_isword) (defScope s_isword) [] [] (He.ga K "is_word") fd_isword
  b_isword : Binds K fd_isword pr_isword []
  m_readpath : mg "read_path" = some (.ref (He.ga K "read_path"))
  fd_readpath : FuncData
  F_readpath : FunD K "read_path" "read_path" (defArgs s_readpath) (defBody s_readpath) (defScope s_readpath) [] [] (He.ga K "read_path") fd_readpath
  b_readpath : Binds K fd_readpath pr_readpath []
  m_readstep : mg "read_step" = some (.ref (He.ga K "read_step"))
  fd_readstep : FuncData
  F_readstep : FunD K "read_step" "read_step" (defArgs s_readstep) (defBody s_readstep) (defScope s_readstep) [] [] (He.ga K "read_step") fd_readstep
  b_readstep : Binds K fd_readstep pr_readstep []
  m_readlet : mg "_read_let" = some (.ref (He.ga K "_read_let"))
  fd_readlet : FuncData
  F_readlet : FunD K "_read_let" "_read_let" (defArgs s_readlet) (defBody s_readlet) (defScope s_readlet) [] [] (He.ga K "_read_let") fd_readlet
  b_readlet : Binds K fd_readlet pr_readlet []
  m_readmake : mg "_read_make" = some (.ref (He.ga K "_read_make"))
  fd_readmake : FuncData
  F_readmake : FunD K "_read_make" "_read_make" (defArgs s_readmake) (defBody s_readmake) (defScope s_readmake) [] [] (He.ga K "_read_make") fd_readmake
  b_readmake : Binds K fd_readmake pr_readmake []
  m_readdrop : mg "_read_drop" = some (.ref (He.ga K "_read_drop"))
  fd_readdrop : FuncData
  F_readdrop : FunD K "_read_drop" "_read_drop" (defArgs s_readdrop) (defBody s_readdrop) (defScope s_readdrop) [] [] (He.ga K "_read_drop") fd_readdrop
  b_readdrop : Binds K fd_readdrop pr_readdrop []
  m_readnew : mg "_read_new" = some (.ref (He.ga K "_read_new"))
  fd_readnew : FuncData
  F_readnew : FunD K "_read_new" "_read_new" (defArgs s_readnew) (defBody s_readnew) (defScope s_readnew) [] [] (He.ga K "_read_new") fd_readnew
  b_readnew : Binds K fd_readnew pr_readnew []
  m_usedhalves : mg "_used_halves" = some (.ref (He.ga K "_used_halves"))
  fd_usedhalves : FuncData
  F_usedhalves : FunD K "_used_halves" "_used_halves" (defArgs s_usedhalves) (defBody s_usedhalves) (defScope s_usedhalves) [] [] (He.ga K "_used_halves") fd_usedhalves
  b_usedhalves : Binds K fd_usedhalves pr_usedhalves []
  m_isname : mg "is_name" = some (.ref (He.ga K "is_name"))
  fd_isname : FuncData
  F_isname : FunD K "is_name" "is_name" (defArgs s_isname) (defBody s_isname) (defScope s_isname) [] [] (He.ga K "is_name") fd_isname
  b_isname : Binds K fd_isname pr_isname []
  fd_Routineinit : FuncData
  F_Routineinit : FunD K "__init__" "Routine.__init__" (defArgs s_Routineinit) (defBody s_Routineinit) (defScope s_Routineinit) [] [] (He.ma K (He.ga K "Routine") "__init__") fd_Routineinit
  b_Routineinit : Binds K fd_Routineinit pr_Routineinit []
  fd_Scopeinit : FuncData
  F_Scopeinit : FunD K "__init__" "Scope.__init__" (defArgs s_Scopeinit) (defBody s_Scopeinit) (defScope s_Scopeinit) [] [] (He.ma K (He.ga K "Scope") "__init__") fd_Scopeinit
  b_Scopeinit : Binds K fd_Scopeinit pr_Scopeinit []
  me_Scopecanbind : Meth K (He.ga K "Scope") "can_bind" (He.ma K (He.ga K "Scope") "can_bind")
  fd_Scopecanbind : FuncData
  F_Scopecanbind : FunD K "can_bind" "Scope.can_bind" (defArgs s_Scopecanbind) (defBody s_Scopecanbind) (defScope s_Scopecanbind) [] [] (He.ma K (He.ga K "Scope") "can_bind") fd_Scopecanbind
  b_Scopecanbind : Binds K fd_Scopecanbind pr_Scopecanbind []
  me_Scopecheckuses : Meth K (He.ga K "Scope") "check_uses" (He.ma K (He.ga K "Scope") "check_uses")
  fd_Scopecheckuses : FuncData
  F_Scopecheckuses : FunD K "check_uses" "Scope.check_uses" (defArgs s_Scopecheckuses) (defBody s_Scopecheckuses) (defScope s_Scopecheckuses) [] [] (He.ma K (He.ga K "Scope") "check_uses") fd_Scopecheckuses
  b_Scopecheckuses : Binds K fd_Scopecheckuses pr_Scopecheckuses []
  me_Scopebind : Meth K (He.ga K "Scope") "bind" (He.ma K (He.ga K "Scope") "bind")
  fd_Scopebind : FuncData
  F_Scopebind : FunD K "bind" "Scope.bind" (defArgs s_Scopebind) (defBody s_Scopebind) (defScope s_Scopebind) [] [] (He.ma K (He.ga K "Scope") "bind") fd_Scopebind
  b_Scopebind : Binds K fd_Scopebind pr_Scopebind []
  fd_Draftinit : FuncData
  F_Draftinit : FunD K "__init__" "Draft.__init__" (defArgs s_Draftinit) (defBody s_Draftinit) (defScope s_Draftinit) [] [] (He.ma K (He.ga K "Draft") "__init__") fd_Draftinit
  b_Draftinit : Binds K fd_Draftinit pr_Draftinit []
  m_readroutine : mg "read_routine" = some (.ref (He.ga K "read_routine"))
  fd_readroutine : FuncData
  F_readroutine : FunD K "read_routine" "read_routine" (defArgs s_readroutine) (defBody s_readroutine) (defScope s_readroutine) [] [] (He.ga K "read_routine") fd_readroutine
  b_readroutine : Binds K fd_readroutine pr_readroutine []
  m_routineof : mg "routine_of" = some (.ref (He.ga K "routine_of"))
  fd_routineof : FuncData
  F_routineof : FunD K "routine_of" "routine_of" (defArgs s_routineof) (defBody s_routineof) (defScope s_routineof) [] [] (He.ga K "routine_of") fd_routineof
  b_routineof : Binds K fd_routineof pr_routineof []
  m_readhead : mg "read_head" = some (.ref (He.ga K "read_head"))
  fd_readhead : FuncData
  F_readhead : FunD K "read_head" "read_head" (defArgs s_readhead) (defBody s_readhead) (defScope s_readhead) [] [] (He.ga K "read_head") fd_readhead
  b_readhead : Binds K fd_readhead pr_readhead []
  m_toldnames : mg "told_names" = some (.ref (He.ga K "told_names"))
  fd_toldnames : FuncData
  F_toldnames : FunD K "told_names" "told_names" (defArgs s_toldnames) (defBody s_toldnames) (defScope s_toldnames) [] [] (He.ga K "told_names") fd_toldnames
  b_toldnames : Binds K fd_toldnames pr_toldnames []
  m_addline : mg "_add_line" = some (.ref (He.ga K "_add_line"))
  fd_addline : FuncData
  F_addline : FunD K "_add_line" "_add_line" (defArgs s_addline) (defBody s_addline) (defScope s_addline) [] [] (He.ga K "_add_line") fd_addline
  b_addline : Binds K fd_addline pr_addline []
  m_maystand : mg "_may_stand" = some (.ref (He.ga K "_may_stand"))
  fd_maystand : FuncData
  F_maystand : FunD K "_may_stand" "_may_stand" (defArgs s_maystand) (defBody s_maystand) (defScope s_maystand) [] [] (He.ga K "_may_stand") fd_maystand
  b_maystand : Binds K fd_maystand pr_maystand []
  m_checklabels : mg "_check_labels" = some (.ref (He.ga K "_check_labels"))
  fd_checklabels : FuncData
  F_checklabels : FunD K "_check_labels" "_check_labels" (defArgs s_checklabels) (defBody s_checklabels) (defScope s_checklabels) [] [] (He.ga K "_check_labels") fd_checklabels
  b_checklabels : Binds K fd_checklabels pr_checklabels []
  m_openorclose : mg "_open_or_close" = some (.ref (He.ga K "_open_or_close"))
  fd_openorclose : FuncData
  F_openorclose : FunD K "_open_or_close" "_open_or_close" (defArgs s_openorclose) (defBody s_openorclose) (defScope s_openorclose) [] [] (He.ga K "_open_or_close") fd_openorclose
  b_openorclose : Binds K fd_openorclose pr_openorclose []
  m_Ltape : mg "_law_tape" = some (.ref (He.ga K "_law_tape"))
  fd_Ltape : FuncData
  F_Ltape : FunD K "_law_tape" "_law_tape" (defArgs s_Ltape) (defBody s_Ltape) (defScope s_Ltape) [] [] (He.ga K "_law_tape") fd_Ltape
  b_Ltape : Binds K fd_Ltape pr_Ltape []
  m_Lpick : mg "_law_pick" = some (.ref (He.ga K "_law_pick"))
  fd_Lpick : FuncData
  F_Lpick : FunD K "_law_pick" "_law_pick" (defArgs s_Lpick) (defBody s_Lpick) (defScope s_Lpick) [] [] (He.ga K "_law_pick") fd_Lpick
  b_Lpick : Binds K fd_Lpick pr_Lpick []
  m_Lreserved : mg "_law_reserved" = some (.ref (He.ga K "_law_reserved"))
  fd_Lreserved : FuncData
  F_Lreserved : FunD K "_law_reserved" "_law_reserved" (defArgs s_Lreserved) (defBody s_Lreserved) (defScope s_Lreserved) [] [] (He.ga K "_law_reserved") fd_Lreserved
  b_Lreserved : Binds K fd_Lreserved pr_Lreserved []
  m_Lstring : mg "_law_string" = some (.ref (He.ga K "_law_string"))
  fd_Lstring : FuncData
  F_Lstring : FunD K "_law_string" "_law_string" (defArgs s_Lstring) (defBody s_Lstring) (defScope s_Lstring) [] [] (He.ga K "_law_string") fd_Lstring
  b_Lstring : Binds K fd_Lstring pr_Lstring []
  m_Lgood : mg "_law_good" = some (.ref (He.ga K "_law_good"))
  fd_Lgood : FuncData
  F_Lgood : FunD K "_law_good" "_law_good" (defArgs s_Lgood) (defBody s_Lgood) (defScope s_Lgood) [] [] (He.ga K "_law_good") fd_Lgood
  b_Lgood : Binds K fd_Lgood pr_Lgood []
  m_Ltold : mg "_law_told" = some (.ref (He.ga K "_law_told"))
  fd_Ltold : FuncData
  F_Ltold : FunD K "_law_told" "_law_told" (defArgs s_Ltold) (defBody s_Ltold) (defScope s_Ltold) [] [] (He.ga K "_law_told") fd_Ltold
  b_Ltold : Binds K fd_Ltold pr_Ltold []
  fd_law : FuncData
  F_law : FunD K "law" "law" (defArgs s_law) (defBody s_law) (defScope s_law) [] [] (He.ga K "law") fd_law
  b_law : Binds K fd_law pr_law []
  na_BadLine_line : NoAttr K (He.ga K "BadLine") "line"
  na_Path_name : NoAttr K (He.ga K "Path") "name"
  na_Path_links : NoAttr K (He.ga K "Path") "links"
  na_Path_kind : NoAttr K (He.ga K "Path") "kind"
  na_Step_action : NoAttr K (He.ga K "Step") "action"
  na_Step_news : NoAttr K (He.ga K "Step") "news"
  na_Step_kind : NoAttr K (He.ga K "Step") "kind"
  na_Step_uses : NoAttr K (He.ga K "Step") "uses"
  na_Step_used : NoAttr K (He.ga K "Step") "used"
  na_Step_detail : NoAttr K (He.ga K "Step") "detail"
  na_Routine_name : NoAttr K (He.ga K "Routine") "name"
  na_Routine_halves : NoAttr K (He.ga K "Routine") "halves"
  na_Routine_told : NoAttr K (He.ga K "Routine") "told"
  na_Routine_lines : NoAttr K (He.ga K "Routine") "lines"
  na_Routine_steps : NoAttr K (He.ga K "Routine") "steps"
  na_Routine_jumps : NoAttr K (He.ga K "Routine") "jumps"
  na_Scope_kinds : NoAttr K (He.ga K "Scope") "kinds"
  na_Draft_scope : NoAttr K (He.ga K "Draft") "scope"
  na_Draft_steps : NoAttr K (He.ga K "Draft") "steps"
  na_Draft_jumps : NoAttr K (He.ga K "Draft") "jumps"
  na_Draft_blocks : NoAttr K (He.ga K "Draft") "blocks"
  na_Draft_has_labels : NoAttr K (He.ga K "Draft") "has_labels"
  t_HALVES : ∀ H, SqT K H (He.ga K "HALVES") ([.str "half"])
  t_LABELS : ∀ H, SqT K H (He.ga K "LABELS") ([.str "face", .str "corner"])
  t_ALL_KINDS : ∀ H, SqT K H (He.ga K "ALL_KINDS") ([.str "half", .str "face", .str "corner"])
  t_LINKS : ∀ H, SqT K H (He.ga K "LINKS") ([.str "next", .str "prev", .str "twin"])
  t_AHEAD_OF_LABELS : ∀ H, SqT K H (He.ga K "AHEAD_OF_LABELS") ([.str "let", .str "make", .str "link"])
  t_LABEL_ACTIONS : ∀ H, SqT K H (He.ga K "LABEL_ACTIONS") ([.str "new", .str "label", .str "round", .str "some"])
  t_RESERVED : ∀ H, SqT K H (He.ga K "RESERVED") ([.str "routine", .str "script", .str "given", .str "let", .str "make", .str "drop", .str "if", .str "else", .str "end", .str "new", .str "round", .str "tell", .str "call", .str "next", .str "prev", .str "twin", .str "face", .str "corner", .str "some"])
  f_let : PySem.W.nsIn K (He.ga K "FORMS") "let" = some (some (.ref (He.ga K "_read_let")))
  f_make : PySem.W.nsIn K (He.ga K "FORMS") "make" = some (some (.ref (He.ga K "_read_make")))
  f_drop : PySem.W.nsIn K (He.ga K "FORMS") "drop" = some (some (.ref (He.ga K "_read_drop")))
  f_new : PySem.W.nsIn K (He.ga K "FORMS") "new" = some (some (.ref (He.ga K "_read_new")))
  d_0 : ∀ H, SqT K H (He.dflAt ("Step", some "__init__") 0 K) []
  d_2 : ∀ H, SqT K H (He.dflAt ("Step", some "__init__") 2 K) []
  x_BadLine : ExcC K (He.ga K "BadLine")
  f_3 : PySem.W.exmOne K (.ref (He.ga K "BadLine")) (.ref (He.ga K "BadLine")) = some true
  f_5 : PySem.W.kitOne K (.ref (He.ga K "BadLine")) (.ref (He.ga K "MeshError")) = some true
  f_6 : PySem.W.kitOne K (.ref (He.ga K "BadLine")) (.type "ValueError") = some true
/- -/
theorem Tx.kn {P : Program} {w : World} {K : PySem.W.Frag} {mg : Str → Option Value} (T : Tx P w K mg) : K33.KN K := ⟨T.cl_Path, T.na_Path_name, T.na_Path_links, T.na_Path_kind, T.cl_Step, T.na_Step_action, T.na_Step_news, T.na_Step_kind, T.na_Step_uses, T.na_Step_used, T.na_Step_detail, T.cl_Routine, T.na_Routine_name, T.na_Routine_halves, T.na_Routine_told, T.na_Routine_lines, T.na_Routine_steps, T.na_Routine_jumps, T.cl_Scope, T.na_Scope_kinds, T.cl_Draft, T.na_Draft_scope, T.na_Draft_steps, T.na_Draft_jumps, T.na_Draft_blocks, T.na_Draft_has_labels, T.t_HALVES, T.t_LABELS, T.t_ALL_KINDS, T.t_LINKS, T.t_AHEAD_OF_LABELS, T.t_LABEL_ACTIONS, T.t_RESERVED, T.f_let, T.f_make, T.f_drop, T.f_new, T.d_0, T.d_2, T.u_BadLine.F.oex, T.na_BadLine_line, T.f_3, T.f_5, T.f_6⟩

theorem tx_of {P : Program} {K : PySem.W.Frag} {h : Heap} {mg : Str → Option Value} {w : World} (hP : PF P) (X : K.In h) (G : h.Ns mainGlobals mg) (cx : SaysX fa fnD fx cl ts ex fileS w K) : Nonempty (Tx P w K mg) := by
  have c := cx.s
  have cd := c.d
  obtain ⟨t_HALF, e_HALF⟩ := He.str_ok X G (cd.fact 32 (f := .str "HALF" "half") rfl)
  obtain ⟨t_SIGNS, e_SIGNS⟩ := He.str_ok X G (cd.fact 33 (f := .str "SIGNS" "abcdefghijklmnopqrstuvwxyz0123456789") rfl)
  obtain ⟨t_DIGITS, e_DIGITS⟩ := He.str_ok X G (cd.fact 34 (f := .str "DIGITS" "0123456789") rfl)
  obtain ⟨t_MOST_LINKS, e_MOST_LINKS⟩ := He.int_ok X G (cd.fact 35 (f := .int "MOST_LINKS" 4) rfl)
  obtain ⟨t_MOST_SIGNS, e_MOST_SIGNS⟩ := He.int_ok X G (cd.fact 36 (f := .int "MOST_SIGNS" 8) rfl)
  obtain ⟨t_MOST_HALVES, e_MOST_HALVES⟩ := He.int_ok X G (cd.fact 37 (f := .int "MOST_HALVES" 3) rfl)
  obtain ⟨t_MOST_LINES, e_MOST_LINES⟩ := He.int_ok X G (cd.fact 38 (f := .int "MOST_LINES" 60) rfl)
  obtain ⟨t_MOST_BLOCKS, e_MOST_BLOCKS⟩ := He.int_ok X G (cd.fact 39 (f := .int "MOST_BLOCKS" 3) rfl)
  obtain ⟨te_FORMS, tn_FORMS, tb_FORMS⟩ := cx.tab 0 (t := tbd_FORMS) rfl
  obtain ⟨fd_BadLineinit, u_BadLine⟩ := sup_of (P := P) (d := cl_BadLine) (c.clo 0 rfl) (by rw [hP.file]; exact c.fact 0 (f := .sup "BadLine") rfl) hP.top
  have b_BadLineinit : Binds K fd_BadLineinit pr_BadLineinit [] := by
    obtain ⟨cl, kV, doc, pm, an, cdv, ct, e⟩ := u_BadLine.fx
    rw [e]
    exact Binds.all fun us hl => match us, hl with | [_, _], _ => rfl
  obtain ⟨fd_Pathinit, F_Pathinit⟩ := cd.def_ 0 rfl
  have b_Pathinit : Binds K fd_Pathinit pr_Pathinit [] := F_Pathinit.bindsN fun _ _ _ _ _ _ us hl => match us, hl with | [_, _, _, _], _ => rfl
  obtain ⟨fd_Stepinit, F_Stepinit⟩ := cd.def_ 1 rfl
  obtain ⟨ds_Step, v0_Step, b0_Step⟩ := FunD.binds1 (ps := pr_Stepinit) F_Stepinit 2 0 (by exact List.cons_ne_nil _ _) rfl (fun _ _ _ _ _ _ _ us its h1 h2 => match us, its, h1, h2 with | [_, _], [_, _, _, _], _, _ => ⟨_, rfl, rfl⟩)
  obtain ⟨gi_Step_news_kind_uses_detail, kb_Step_news_kind_uses_detail⟩ := FunD.kbindsD (ps := pr_Stepinit) F_Stepinit 2 ["news", "kind", "uses", "detail"] g_Step_news_kind_uses_detail (by exact List.cons_ne_nil _ _) gr_Step_news_kind_uses_detail (fun _ _ _ _ _ _ _ us its ws h1 h2 h3 => match us, its, ws, h1, h2, h3 with | [_, _], [_, _, _, _], [_, _, _, _], _, _, _ => ⟨_, rfl, rfl⟩)
  obtain ⟨gi_Step_news, kb_Step_news⟩ := FunD.kbindsD (ps := pr_Stepinit) F_Stepinit 2 ["news"] g_Step_news (by exact List.cons_ne_nil _ _) gr_Step_news (fun _ _ _ _ _ _ _ us its ws h1 h2 h3 => match us, its, ws, h1, h2, h3 with | [_, _], [_, _, _, _], [_], _, _, _ => ⟨_, rfl, rfl⟩)
  obtain ⟨gi_Step_uses, kb_Step_uses⟩ := FunD.kbindsD (ps := pr_Stepinit) F_Stepinit 2 ["uses"] g_Step_uses (by exact List.cons_ne_nil _ _) gr_Step_uses (fun _ _ _ _ _ _ _ us its ws h1 h2 h3 => match us, its, ws, h1, h2, h3 with | [_, _], [_, _, _, _], [_], _, _, _ => ⟨_, rfl, rfl⟩)
  obtain ⟨gi_Step_news_kind, kb_Step_news_kind⟩ := FunD.kbindsD (ps := pr_Stepinit) F_Stepinit 2 ["news", "kind"] g_Step_news_kind (by exact List.cons_ne_nil _ _) gr_Step_news_kind (fun _ _ _ _ _ _ _ us its ws h1 h2 h3 => match us, its, ws, h1, h2, h3 with | [_, _], [_, _, _, _], [_, _], _, _, _ => ⟨_, rfl, rfl⟩)
  obtain ⟨fd_isword, F_isword⟩ := cd.def_ 2 rfl
  have b_isword : Binds K fd_isword pr_isword [] := F_isword.bindsN fun _ _ _ _ _ _ us hl => match us, hl with | [_], _ => rfl
  obtain ⟨fd_readpath, F_readpath⟩ := cd.def_ 3 rfl
  have b_readpath : Binds K fd_readpath pr_readpath [] := F_readpath.bindsN fun _ _ _ _ _ _ us hl => match us, hl with | [_], _ => rfl
  obtain ⟨fd_readstep, F_readstep⟩ := cd.def_ 4 rfl
  have b_readstep : Binds K fd_readstep pr_readstep [] := F_readstep.bindsN fun _ _ _ _ _ _ us hl => match us, hl with | [_], _ => rfl
  obtain ⟨fd_readlet, F_readlet⟩ := cd.def_ 5 rfl
  have b_readlet : Binds K fd_readlet pr_readlet [] := F_readlet.bindsN fun _ _ _ _ _ _ us hl => match us, hl with | [_], _ => rfl
  obtain ⟨fd_readmake, F_readmake⟩ := cd.def_ 6 rfl
  have b_readmake : Binds K fd_readmake pr_readmake [] := F_readmake.bindsN fun _ _ _ _ _ _ us hl => match us, hl with | [_], _ => rfl
  obtain ⟨fd_readdrop, F_readdrop⟩ := cd.def_ 7 rfl
  have b_readdrop : Binds K fd_readdrop pr_readdrop [] := F_readdrop.bindsN fun _ _ _ _ _ _ us hl => match us, hl with | [_], _ => rfl
  obtain ⟨fd_readnew, F_readnew⟩ := cd.def_ 8 rfl
  have b_readnew : Binds K fd_readnew pr_readnew [] := F_readnew.bindsN fun _ _ _ _ _ _ us hl => match us, hl with | [_], _ => rfl
  obtain ⟨fd_usedhalves, F_usedhalves⟩ := cd.def_ 9 rfl
  have b_usedhalves : Binds K fd_usedhalves pr_usedhalves [] := F_usedhalves.bindsN fun _ _ _ _ _ _ us hl => match us, hl with | [_], _ => rfl
  obtain ⟨fd_isname, F_isname⟩ := cd.def_ 10 rfl
  have b_isname : Binds K fd_isname pr_isname [] := F_isname.bindsN fun _ _ _ _ _ _ us hl => match us, hl with | [_], _ => rfl
  obtain ⟨fd_Routineinit, F_Routineinit⟩ := cd.def_ 11 rfl
  have b_Routineinit : Binds K fd_Routineinit pr_Routineinit [] := F_Routineinit.bindsN fun _ _ _ _ _ _ us hl => match us, hl with | [_, _, _, _, _, _], _ => rfl
  obtain ⟨fd_Scopeinit, F_Scopeinit⟩ := cd.def_ 12 rfl
  have b_Scopeinit : Binds K fd_Scopeinit pr_Scopeinit [] := F_Scopeinit.bindsN fun _ _ _ _ _ _ us hl => match us, hl with | [_, _], _ => rfl
  obtain ⟨fd_Scopecanbind, F_Scopecanbind⟩ := cd.def_ 13 rfl
  have b_Scopecanbind : Binds K fd_Scopecanbind pr_Scopecanbind [] := F_Scopecanbind.bindsN fun _ _ _ _ _ _ us hl => match us, hl with | [_, _], _ => rfl
  obtain ⟨fd_Scopecheckuses, F_Scopecheckuses⟩ := cd.def_ 14 rfl
  have b_Scopecheckuses : Binds K fd_Scopecheckuses pr_Scopecheckuses [] := F_Scopecheckuses.bindsN fun _ _ _ _ _ _ us hl => match us, hl with | [_, _, _], _ => rfl
  obtain ⟨fd_Scopebind, F_Scopebind⟩ := cd.def_ 15 rfl
  have b_Scopebind : Binds K fd_Scopebind pr_Scopebind [] := F_Scopebind.bindsN fun _ _ _ _ _ _ us hl => match us, hl with | [_, _], _ => rfl
  obtain ⟨fd_Draftinit, F_Draftinit⟩ := cd.def_ 16 rfl
  have b_Draftinit : Binds K fd_Draftinit pr_Draftinit [] := F_Draftinit.bindsN fun _ _ _ _ _ _ us hl => match us, hl with | [_, _], _ => rfl
  obtain ⟨fd_readroutine, F_readroutine⟩ := cd.def_ 17 rfl
  have b_readroutine : Binds K fd_readroutine pr_readroutine [] := F_readroutine.bindsN fun _ _ _ _ _ _ us hl => match us, hl with | [_], _ => rfl
  obtain ⟨fd_routineof, F_routineof⟩ := cd.def_ 18 rfl
  have b_routineof : Binds K fd_routineof pr_routineof [] := F_routineof.bindsN fun _ _ _ _ _ _ us hl => match us, hl with | [_, _, _], _ => rfl
  obtain ⟨fd_readhead, F_readhead⟩ := cd.def_ 19 rfl
  have b_readhead : Binds K fd_readhead pr_readhead [] := F_readhead.bindsN fun _ _ _ _ _ _ us hl => match us, hl with | [_, _, _, _], _ => rfl
  obtain ⟨fd_toldnames, F_toldnames⟩ := cd.def_ 20 rfl
  have b_toldnames : Binds K fd_toldnames pr_toldnames [] := F_toldnames.bindsN fun _ _ _ _ _ _ us hl => match us, hl with | [_], _ => rfl
  obtain ⟨fd_addline, F_addline⟩ := cd.def_ 21 rfl
  have b_addline : Binds K fd_addline pr_addline [] := F_addline.bindsN fun _ _ _ _ _ _ us hl => match us, hl with | [_, _, _, _], _ => rfl
  obtain ⟨fd_maystand, F_maystand⟩ := cd.def_ 22 rfl
  have b_maystand : Binds K fd_maystand pr_maystand [] := F_maystand.bindsN fun _ _ _ _ _ _ us hl => match us, hl with | [_, _, _], _ => rfl
  obtain ⟨fd_checklabels, F_checklabels⟩ := cd.def_ 23 rfl
  have b_checklabels : Binds K fd_checklabels pr_checklabels [] := F_checklabels.bindsN fun _ _ _ _ _ _ us hl => match us, hl with | [_, _, _], _ => rfl
  obtain ⟨fd_openorclose, F_openorclose⟩ := cd.def_ 24 rfl
  have b_openorclose : Binds K fd_openorclose pr_openorclose [] := F_openorclose.bindsN fun _ _ _ _ _ _ us hl => match us, hl with | [_, _], _ => rfl
  obtain ⟨fd_Ltape, F_Ltape⟩ := cd.def_ 25 rfl
  have b_Ltape : Binds K fd_Ltape pr_Ltape [] := F_Ltape.bindsN fun _ _ _ _ _ _ us hl => match us, hl with | [_, _], _ => rfl
  obtain ⟨fd_Lpick, F_Lpick⟩ := cd.def_ 26 rfl
  have b_Lpick : Binds K fd_Lpick pr_Lpick [] := F_Lpick.bindsN fun _ _ _ _ _ _ us hl => match us, hl with | [_, _], _ => rfl
  obtain ⟨fd_Lreserved, F_Lreserved⟩ := cd.def_ 27 rfl
  have b_Lreserved : Binds K fd_Lreserved pr_Lreserved [] := F_Lreserved.bindsN fun _ _ _ _ _ _ us hl => match us, hl with | [], _ => rfl
  obtain ⟨fd_Lstring, F_Lstring⟩ := cd.def_ 28 rfl
  have b_Lstring : Binds K fd_Lstring pr_Lstring [] := F_Lstring.bindsN fun _ _ _ _ _ _ us hl => match us, hl with | [_], _ => rfl
  obtain ⟨fd_Lgood, F_Lgood⟩ := cd.def_ 29 rfl
  have b_Lgood : Binds K fd_Lgood pr_Lgood [] := F_Lgood.bindsN fun _ _ _ _ _ _ us hl => match us, hl with | [_], _ => rfl
  obtain ⟨fd_Ltold, F_Ltold⟩ := cd.def_ 30 rfl
  have b_Ltold : Binds K fd_Ltold pr_Ltold [] := F_Ltold.bindsN fun _ _ _ _ _ _ us hl => match us, hl with | [_], _ => rfl
  obtain ⟨fd_law, F_law⟩ := cd.def_ 31 rfl
  have b_law : Binds K fd_law pr_law [] := F_law.bindsN fun _ _ _ _ _ _ us hl => match us, hl with | [_], _ => rfl
  exact ⟨⟨He.free_ok X G (cd.fact 0 (f := .free "len") rfl),
    He.free_ok X G (cd.fact 1 (f := .free "abs") rfl),
    He.free_ok X G (cd.fact 2 (f := .free "int") rfl),
    He.free_ok X G (cd.fact 3 (f := .free "all") rfl),
    He.free_ok X G (cd.fact 4 (f := .free "isinstance") rfl),
    He.free_ok X G (cd.fact 5 (f := .free "range") rfl),
    He.free_ok X G (cd.fact 6 (f := .free "bool") rfl),
    He.free_ok X G (cd.fact 7 (f := .free "tuple") rfl),
    He.free_ok X G (cd.fact 8 (f := .free "dict") rfl),
    He.free_ok X G (cd.fact 9 (f := .free "super") rfl),
    He.free_ok X G (cd.fact 10 (f := .free "set") rfl),
    He.free_ok X G (cd.fact 11 (f := .free "ValueError") rfl),
    He.glo_ok X G (cd.fact 12 (f := .glo "MeshError") rfl),
    He.glo_ok X G (cd.fact 13 (f := .glo "BadLine") rfl),
    He.glo_ok X G (cd.fact 14 (f := .glo "UnknownName") rfl),
    He.glo_ok X G (cd.fact 15 (f := .glo "WrongKind") rfl),
    He.glo_ok X G (cd.fact 16 (f := .glo "Path") rfl),
    He.cls_ok (cd.fact 17 (f := .cls "Path") rfl),
    He.mkr_ok (cd.fact 18 (f := .mkr "Path") rfl),
    He.glo_ok X G (cd.fact 19 (f := .glo "Step") rfl),
    He.cls_ok (cd.fact 20 (f := .cls "Step") rfl),
    He.mkr_ok (cd.fact 21 (f := .mkr "Step") rfl),
    He.glo_ok X G (cd.fact 22 (f := .glo "Routine") rfl),
    He.cls_ok (cd.fact 23 (f := .cls "Routine") rfl),
    He.mkr_ok (cd.fact 24 (f := .mkr "Routine") rfl),
    He.glo_ok X G (cd.fact 25 (f := .glo "Scope") rfl),
    He.cls_ok (cd.fact 26 (f := .cls "Scope") rfl),
    He.mkr_ok (cd.fact 27 (f := .mkr "Scope") rfl),
    He.glo_ok X G (cd.fact 28 (f := .glo "Block") rfl),
    He.glo_ok X G (cd.fact 29 (f := .glo "Draft") rfl),
    He.cls_ok (cd.fact 30 (f := .cls "Draft") rfl),
    He.mkr_ok (cd.fact 31 (f := .mkr "Draft") rfl),
    .str "half" t_HALF,
    e_HALF,
    ⟨_, rfl⟩,
    .str "abcdefghijklmnopqrstuvwxyz0123456789" t_SIGNS,
    e_SIGNS,
    ⟨_, rfl⟩,
    .str "0123456789" t_DIGITS,
    e_DIGITS,
    ⟨_, rfl⟩,
    .int 4 t_MOST_LINKS,
    e_MOST_LINKS,
    ⟨_, rfl⟩,
    .int 8 t_MOST_SIGNS,
    e_MOST_SIGNS,
    ⟨_, rfl⟩,
    .int 3 t_MOST_HALVES,
    e_MOST_HALVES,
    ⟨_, rfl⟩,
    .int 60 t_MOST_LINES,
    e_MOST_LINES,
    ⟨_, rfl⟩,
    .int 3 t_MOST_BLOCKS,
    e_MOST_BLOCKS,
    ⟨_, rfl⟩,
    He.glo_ok X G (cd.fact 40 (f := .glo "HALVES") rfl),
    He.glo_ok X G (cd.fact 41 (f := .glo "LABELS") rfl),
    He.glo_ok X G (cd.fact 42 (f := .glo "ALL_KINDS") rfl),
    He.glo_ok X G (cd.fact 43 (f := .glo "LINKS") rfl),
    He.glo_ok X G (cd.fact 44 (f := .glo "RESERVED") rfl),
    He.glo_ok X G (cd.fact 45 (f := .glo "AHEAD_OF_LABELS") rfl),
    He.glo_ok X G (cd.fact 46 (f := .glo "LABEL_ACTIONS") rfl),
    He.glo_ok X G (cd.fact 47 (f := .glo "FORMS") rfl),
    te_FORMS,
    tn_FORMS,
    tb_FORMS,
    fd_BadLineinit,
    u_BadLine,
    b_BadLineinit,
    fd_Pathinit,
    F_Pathinit,
    b_Pathinit,
    fd_Stepinit,
    F_Stepinit,
    ds_Step,
    v0_Step,
    b0_Step,
    gi_Step_news_kind_uses_detail,
    kb_Step_news_kind_uses_detail,
    gi_Step_news,
    kb_Step_news,
    gi_Step_uses,
    kb_Step_uses,
    gi_Step_news_kind,
    kb_Step_news_kind,
    He.glo_ok X G (cd.fact 48 (f := .glo "is_word") rfl),
    fd_isword,
    F_isword,
    b_isword,
    He.glo_ok X G (cd.fact 49 (f := .glo "read_path") rfl),
    fd_readpath,
    F_readpath,
    b_readpath,
    He.glo_ok X G (cd.fact 50 (f := .glo "read_step") rfl),
    fd_readstep,
    F_readstep,
    b_readstep,
    He.glo_ok X G (cd.fact 51 (f := .glo "_read_let") rfl),
    fd_readlet,
    F_readlet,
    b_readlet,
    He.glo_ok X G (cd.fact 52 (f := .glo "_read_make") rfl),
    fd_readmake,
    F_readmake,
    b_readmake,
    He.glo_ok X G (cd.fact 53 (f := .glo "_read_drop") rfl),
    fd_readdrop,
    F_readdrop,
    b_readdrop,
    He.glo_ok X G (cd.fact 54 (f := .glo "_read_new") rfl),
    fd_readnew,
    F_readnew,
    b_readnew,
    He.glo_ok X G (cd.fact 55 (f := .glo "_used_halves") rfl),
    fd_usedhalves,
    F_usedhalves,
    b_usedhalves,
    He.glo_ok X G (cd.fact 56 (f := .glo "is_name") rfl),
    fd_isname,
    F_isname,
    b_isname,
    fd_Routineinit,
    F_Routineinit,
    b_Routineinit,
    fd_Scopeinit,
    F_Scopeinit,
    b_Scopeinit,
    He.meth_ok (cd.fact 57 (f := .meth "Scope" "can_bind") rfl),
    fd_Scopecanbind,
    F_Scopecanbind,
    b_Scopecanbind,
    He.meth_ok (cd.fact 58 (f := .meth "Scope" "check_uses") rfl),
    fd_Scopecheckuses,
    F_Scopecheckuses,
    b_Scopecheckuses,
    He.meth_ok (cd.fact 59 (f := .meth "Scope" "bind") rfl),
    fd_Scopebind,
    F_Scopebind,
    b_Scopebind,
    fd_Draftinit,
    F_Draftinit,
    b_Draftinit,
    He.glo_ok X G (cd.fact 60 (f := .glo "read_routine") rfl),
    fd_readroutine,
    F_readroutine,
    b_readroutine,
    He.glo_ok X G (cd.fact 61 (f := .glo "routine_of") rfl),
    fd_routineof,
    F_routineof,
    b_routineof,
    He.glo_ok X G (cd.fact 62 (f := .glo "read_head") rfl),
    fd_readhead,
    F_readhead,
    b_readhead,
    He.glo_ok X G (cd.fact 63 (f := .glo "told_names") rfl),
    fd_toldnames,
    F_toldnames,
    b_toldnames,
    He.glo_ok X G (cd.fact 64 (f := .glo "_add_line") rfl),
    fd_addline,
    F_addline,
    b_addline,
    He.glo_ok X G (cd.fact 65 (f := .glo "_may_stand") rfl),
    fd_maystand,
    F_maystand,
    b_maystand,
    He.glo_ok X G (cd.fact 66 (f := .glo "_check_labels") rfl),
    fd_checklabels,
    F_checklabels,
    b_checklabels,
    He.glo_ok X G (cd.fact 67 (f := .glo "_open_or_close") rfl),
    fd_openorclose,
    F_openorclose,
    b_openorclose,
    He.glo_ok X G (cd.fact 68 (f := .glo "_law_tape") rfl),
    fd_Ltape,
    F_Ltape,
    b_Ltape,
    He.glo_ok X G (cd.fact 69 (f := .glo "_law_pick") rfl),
    fd_Lpick,
    F_Lpick,
    b_Lpick,
    He.glo_ok X G (cd.fact 70 (f := .glo "_law_reserved") rfl),
    fd_Lreserved,
    F_Lreserved,
    b_Lreserved,
    He.glo_ok X G (cd.fact 71 (f := .glo "_law_string") rfl),
    fd_Lstring,
    F_Lstring,
    b_Lstring,
    He.glo_ok X G (cd.fact 72 (f := .glo "_law_good") rfl),
    fd_Lgood,
    F_Lgood,
    b_Lgood,
    He.glo_ok X G (cd.fact 73 (f := .glo "_law_told") rfl),
    fd_Ltold,
    F_Ltold,
    b_Ltold,
    fd_law,
    F_law,
    b_law,
    He.noat_ok (cd.fact 74 (f := .noat "BadLine" "line") rfl),
    He.noat_ok (cd.fact 75 (f := .noat "Path" "name") rfl),
    He.noat_ok (cd.fact 76 (f := .noat "Path" "links") rfl),
    He.noat_ok (cd.fact 77 (f := .noat "Path" "kind") rfl),
    He.noat_ok (cd.fact 78 (f := .noat "Step" "action") rfl),
    He.noat_ok (cd.fact 79 (f := .noat "Step" "news") rfl),
    He.noat_ok (cd.fact 80 (f := .noat "Step" "kind") rfl),
    He.noat_ok (cd.fact 81 (f := .noat "Step" "uses") rfl),
    He.noat_ok (cd.fact 82 (f := .noat "Step" "used") rfl),
    He.noat_ok (cd.fact 83 (f := .noat "Step" "detail") rfl),
    He.noat_ok (cd.fact 84 (f := .noat "Routine" "name") rfl),
    He.noat_ok (cd.fact 85 (f := .noat "Routine" "halves") rfl),
    He.noat_ok (cd.fact 86 (f := .noat "Routine" "told") rfl),
    He.noat_ok (cd.fact 87 (f := .noat "Routine" "lines") rfl),
    He.noat_ok (cd.fact 88 (f := .noat "Routine" "steps") rfl),
    He.noat_ok (cd.fact 89 (f := .noat "Routine" "jumps") rfl),
    He.noat_ok (cd.fact 90 (f := .noat "Scope" "kinds") rfl),
    He.noat_ok (cd.fact 91 (f := .noat "Draft" "scope") rfl),
    He.noat_ok (cd.fact 92 (f := .noat "Draft" "steps") rfl),
    He.noat_ok (cd.fact 93 (f := .noat "Draft" "jumps") rfl),
    He.noat_ok (cd.fact 94 (f := .noat "Draft" "blocks") rfl),
    He.noat_ok (cd.fact 95 (f := .noat "Draft" "has_labels") rfl),
    fun H => He.tupB_ok (cx.x 0 (f := (fun K => He.tupB K "HALVES" [.str "half"])) rfl) H,
    fun H => He.tupB_ok (cx.x 1 (f := (fun K => He.tupB K "LABELS" [.str "face", .str "corner"])) rfl) H,
    fun H => He.tupB_ok (cx.x 2 (f := (fun K => He.tupB K "ALL_KINDS" [.str "half", .str "face", .str "corner"])) rfl) H,
    fun H => He.tupB_ok (cx.x 3 (f := (fun K => He.tupB K "LINKS" [.str "next", .str "prev", .str "twin"])) rfl) H,
    fun H => He.tupB_ok (cx.x 4 (f := (fun K => He.tupB K "AHEAD_OF_LABELS" [.str "let", .str "make", .str "link"])) rfl) H,
    fun H => He.tupB_ok (cx.x 5 (f := (fun K => He.tupB K "LABEL_ACTIONS" [.str "new", .str "label", .str "round", .str "some"])) rfl) H,
    fun H => He.tupB_ok (cx.x 6 (f := (fun K => He.tupB K "RESERVED" [.str "routine", .str "script", .str "given", .str "let", .str "make", .str "drop", .str "if", .str "else", .str "end", .str "new", .str "round", .str "tell", .str "call", .str "next", .str "prev", .str "twin", .str "face", .str "corner", .str "some"])) rfl) H,
    He.eqO_ok (cx.x 7 (f := (fun K => He.eqO (PySem.W.nsIn K (He.ga K "FORMS") "let") (some (some (.ref (He.ga K "_read_let")))))) rfl),
    He.eqO_ok (cx.x 8 (f := (fun K => He.eqO (PySem.W.nsIn K (He.ga K "FORMS") "make") (some (some (.ref (He.ga K "_read_make")))))) rfl),
    He.eqO_ok (cx.x 9 (f := (fun K => He.eqO (PySem.W.nsIn K (He.ga K "FORMS") "drop") (some (some (.ref (He.ga K "_read_drop")))))) rfl),
    He.eqO_ok (cx.x 10 (f := (fun K => He.eqO (PySem.W.nsIn K (He.ga K "FORMS") "new") (some (some (.ref (He.ga K "_read_new")))))) rfl),
    fun H => tup0_ok (cx.x 11 (f := (tup0B (He.dflAt ("Step", some "__init__") 0))) rfl) H,
    fun H => tup0_ok (cx.x 12 (f := (tup0B (He.dflAt ("Step", some "__init__") 2))) rfl) H,
    exc_of (c.fact 1 (f := .exc "BadLine") rfl),
    exm_ok (c.fact 2 (f := .exm "BadLine" "BadLine" true) rfl),
    kit_ok (c.fact 3 (f := .kit (.own "BadLine") (.own "MeshError") true) rfl),
    kit_ok (c.fact 4 (f := .kit (.own "BadLine") (.ty "ValueError") true) rfl)⟩⟩
theorem ok_BadLineinit {P : Program} {w : World} {K : PySem.W.Frag} {mg : Str → Option Value} {base : Heap} (T : Tx P w K mg) : FnOk P w K mg base (L2.CX P w) 1 (iA K "BadLine") T.fd_BadLineinit pr_BadLineinit (sp_BadLineinit K) :=
  sup_fn (N := ["self", "line", "__class__"]) (k := 0) T.u_BadLine.F (NdefX.nscope_by (by decide +kernel)) rfl rfl (by decide) rfl ln_BadLineinit (fun F A outer s H vs Q E hq hsc hr h => by
    obtain ⟨nmF, qlF, prF, bdF, scF, clF, cdF⟩ := F
    dsimp only at hq hsc
    subst hq hsc
    obtain ⟨x, h0, hx, q⟩ := rd_BadLineinit T.kn vs H Q E h
    exact ⟨x, a_BadLineinit K, t_BadLineinit K, h0, hx, pa_cons (pe_joined (.cons pe_str (.cons (pe_fmt (pv 1)) (.cons pe_str .nil)))) pa_nil, (pss_one (ps_ost (pv 0) (pv 1))), q⟩) (fun _ => rfl) (fun _ => rfl) (fun _ => ⟨_, rfl⟩)
theorem ok_Pathinit {P : Program} {w : World} {K : PySem.W.Frag} {mg : Str → Option Value} {base : Heap} (T : Tx P w K mg) : FnOk P w K mg base (L2.CX P w) 1 (He.ma K (He.ga K "Path") "__init__") T.fd_Pathinit pr_Pathinit (sp_Pathinit K) := by
  refine T.F_Pathinit.ok sc_Pathinit ln_Pathinit (fun cdv A outer s H vs Q E hr h => ⟨t_Pathinit K, PSs.nox ?_, rd_Pathinit T.kn vs H Q E h⟩)
  exact (pss_cons (ps_fld (pv 0) (pv 1) rfl)
      (pss_cons (ps_fld (pv 0) (pv 2) rfl)
      (pss_one (ps_fld (pv 0) (pv 3) rfl))))
theorem ok_Stepinit {P : Program} {w : World} {K : PySem.W.Frag} {mg : Str → Option Value} {base : Heap} (T : Tx P w K mg) : FnOk P w K mg base (L2.CX P w) 1 (He.ma K (He.ga K "Step") "__init__") T.fd_Stepinit pr_Stepinit (sp_Stepinit K) := by
  refine T.F_Stepinit.ok sc_Stepinit ln_Stepinit (fun cdv A outer s H vs Q E hr h => ⟨t_Stepinit K, PSs.nox ?_, rd_Stepinit T.kn vs H Q E h⟩)
  exact (pss_cons (ps_fld (pv 0) (pv 1) rfl)
      (pss_cons (ps_fld (pv 0) (pv 2) rfl)
      (pss_cons (ps_fld (pv 0) (pv 3) rfl)
      (pss_cons (ps_fld (pv 0) (pv 4) rfl)
      (pss_cons (ps_fld (pv 0) (pe_callTy call_tuple_of (by rfl) T.n_tuple (by decide +kernel) (pa_cons (pe_lc (own := [("use", 6)]) (g := gName 6) (tt := tYes) rfl sc_Stepinit.nd (pi_tup (pv 4)) (blkOk_by (own := [("use", 6)]) (N := nm_Stepinit) (sc := defScope s_Stepinit) (by decide +kernel)) (fun _ _ _ _ _ => (pg_name (i := 6) sc_Stepinit.nd rfl (by first | exact Or.inl rfl | exact Or.inr rfl))) (fun _ _ _ _ _ => pts_nil) (fun _ _ _ _ _ => (pe_ix ix_tup (pv 6) pe_int (fun _ _ => rfl)))) pa_nil)) rfl)
      (pss_one (ps_fld (pv 0) (pv 5) rfl)))))))
theorem ok_isword {P : Program} {w : World} {K : PySem.W.Frag} {mg : Str → Option Value} {base : Heap} (T : Tx P w K mg) : FnOk P w K mg base (L2.CX P w) 1 (He.ga K "is_word") T.fd_isword pr_isword (sp_isword K) := by
  refine T.F_isword.ok sc_isword ln_isword (fun cdv A outer s H vs Q E hr h => ⟨t_isword K, PSs.nox ?_, rd_isword T.kn vs H Q E h⟩)
  exact (pss_one (ps_ret (pe_and (pe_chain op_le op_le pe_int (pe_callB call_len_str (by rfl) T.n_len PySem.boot_len (pa_cons (pv 0) pa_nil)) (pe_glob rfl T.m_MOST_SIGNS T.r_MOST_SIGNS)) (pe_one (pe_callB (cr_all rfl) (by rfl) T.n_all (by decide +kernel) (pa_cons (pe_lc (own := [("sign", 1)]) (g := gName 1) (tt := tYes) rfl sc_isword.nd (pi_str (pv 0)) (blkOk_by (own := [("sign", 1)]) (N := nm_isword) (sc := defScope s_isword) (by decide +kernel)) (fun _ _ _ _ _ => (pg_name (i := 1) sc_isword.nd rfl (by first | exact Or.inl rfl | exact Or.inr rfl))) (fun _ _ _ _ _ => pts_nil) (fun _ _ _ _ _ => (pe_cmpR op_in_str (pv 1) (pe_glob rfl T.m_SIGNS T.r_SIGNS) rfl))) pa_nil))))))
theorem ok_readpath {P : Program} {w : World} {K : PySem.W.Frag} {mg : Str → Option Value} {base : Heap} (T : Tx P w K mg) : FnOk P w K mg base (L2.CX P w) 3 (He.ga K "read_path") T.fd_readpath pr_readpath (sp_readpath K) := by
  have G_Pathinit := ok_Pathinit (P := P) (w := w) (base := base) T
  have G_isword := ok_isword (P := P) (w := w) (base := base) T
  refine T.F_readpath.ok sc_readpath ln_readpath (fun cdv A outer s H vs Q E hr h => ⟨t_readpath K, PSs.nox ?_, rd_readpath T.kn vs H Q E h⟩)
  exact (pss_cons (ps_asg (pe_split (pv 0) pe_str) (pg_star (by rfl) (pgs_cons (pg_name (i := 1) sc_readpath.nd rfl (Or.inl rfl)) (pgs_last (pg_name (i := 2) sc_readpath.nd rfl (Or.inl rfl))))))
      (pss_cons (ps_set (i := 3) sc_readpath.nd rfl (Or.inl rfl) (pe_glob rfl T.m_HALF T.r_HALF))
      (pss_cons (ps_if (PW.pt (pw_and (pt_truL (pv 2)) (pw_and1 (pt_cmpR op_in_seq (pe_ix ix_list (pv 2) (pe_un un_neg pe_int) (fun _ _ => rfl)) (pe_glob rfl T.m_LABELS rfl) rfl)))) (pss_one (ps_set (i := 3) sc_readpath.nd rfl (Or.inl rfl) (pe_bm0 PySem.F.plainAttrs_list PySem.F.slot_list_pop PySem.F.type_list_pop mt_pop (pv 2)))) pss_nil)
      (pss_cons (ps_if (PW.pt (pw_or (pt_not (pt_val (pe_call G_isword (hr.mono (by decide)) rfl T.m_isword T.F_isword.kp T.b_isword .nil passL (pa_cons (pv 1) pa_nil)))) (pw_or (pt_cmpR op_gt (pe_callB call_len_seq (by rfl) T.n_len PySem.boot_len (pa_cons (pv 2) pa_nil)) (pe_glob rfl T.m_MOST_LINKS T.r_MOST_LINKS) (nomark _)) (pw_or1 (pt_not (pt_val (pe_callB (cr_all rfl) (by rfl) T.n_all (by decide +kernel) (pa_cons (pe_lc (own := [("link", 4)]) (g := gName 4) (tt := tYes) rfl sc_readpath.nd (pi_list (pv 2)) (blkOk_by (own := [("link", 4)]) (N := nm_readpath) (sc := defScope s_readpath) (by decide +kernel)) (fun _ _ _ _ _ => (pg_name (i := 4) sc_readpath.nd rfl (by first | exact Or.inl rfl | exact Or.inr rfl))) (fun _ _ _ _ _ => pts_nil) (fun _ _ _ _ _ => (pe_cmpR op_in_seq (pv 4) (pe_glob rfl T.m_LINKS rfl) rfl))) pa_nil)))))))) (pss_one (ps_ret pe_non)) pss_nil)
      (pss_one (ps_ret (pe_make T.mk_Path G_Pathinit (hr.mono (by decide)) rfl T.m_Path T.b_Pathinit .nil passL (pa_cons (pv 1) (pa_cons (pe_callTy call_tuple_of (by rfl) T.n_tuple (by decide +kernel) (pa_cons (pv 2) pa_nil)) (pa_cons (pv 3) pa_nil))))))))))
theorem ok_readdrop {P : Program} {w : World} {K : PySem.W.Frag} {mg : Str → Option Value} {base : Heap} (T : Tx P w K mg) : FnOk P w K mg base (L2.CX P w) 3 (He.ga K "_read_drop") T.fd_readdrop pr_readdrop (sp_readdrop K) := by
  have G_Stepinit := ok_Stepinit (P := P) (w := w) (base := base) T
  have G_isword := ok_isword (P := P) (w := w) (base := base) T
  refine T.F_readdrop.ok sc_readdrop ln_readdrop (fun cdv A outer s H vs Q E hr h => ⟨t_readdrop K, PSs.nox ?_, rd_readdrop T.kn vs H Q E h⟩)
  exact (pss_cons (ps_if (PW.pt (pw_or (pt_cmpR op_ne (pe_callB call_len_seq (by rfl) T.n_len PySem.boot_len (pa_cons (pv 0) pa_nil)) pe_int (nomark _)) (pw_or1 (pt_not (pt_val (pe_call G_isword (hr.mono (by decide)) rfl T.m_isword T.F_isword.kp T.b_isword .nil passL (pa_cons (pe_ix ix_list (pv 0) pe_int (fun _ _ => rfl)) pa_nil))))))) (pss_one (ps_ret pe_non)) pss_nil)
      (pss_one (ps_ret (pe_makeN (n := 1) (ks := ["uses"]) T.mk_Step G_Stepinit (hr.mono (by decide)) rfl T.m_Step T.kb_Step_uses passL (pa_cons pe_str pa_nil) (pk_cons (pe_tup (pa_cons (pe_tup (pa_cons (pe_ix ix_list (pv 0) pe_int (fun _ _ => rfl)) (pa_cons (pe_glob rfl T.m_ALL_KINDS rfl) pa_nil))) pa_nil)) pk_nil)))))
theorem ok_usedhalves {P : Program} {w : World} {K : PySem.W.Frag} {mg : Str → Option Value} {base : Heap} (T : Tx P w K mg) : FnOk P w K mg base (L2.CX P w) 1 (He.ga K "_used_halves") T.fd_usedhalves pr_usedhalves (sp_usedhalves K) := by
  refine T.F_usedhalves.ok sc_usedhalves ln_usedhalves (fun cdv A outer s H vs Q E hr h => ⟨t_usedhalves K, PSs.nox ?_, rd_usedhalves T.kn vs H Q E h⟩)
  exact (pss_one (ps_ret (pe_callTy call_tuple_of (by rfl) T.n_tuple (by decide +kernel) (pa_cons (pe_lc (own := [("name", 1)]) (g := gName 1) (tt := tYes) rfl sc_usedhalves.nd (pi_list (pv 0)) (blkOk_by (own := [("name", 1)]) (N := nm_usedhalves) (sc := defScope s_usedhalves) (by decide +kernel)) (fun _ _ _ _ _ => (pg_name (i := 1) sc_usedhalves.nd rfl (by first | exact Or.inl rfl | exact Or.inr rfl))) (fun _ _ _ _ _ => pts_nil) (fun _ _ _ _ _ => (pe_tup (pa_cons (pv 1) (pa_cons (pe_glob rfl T.m_HALVES rfl) pa_nil))))) pa_nil))))
theorem ok_readlet {P : Program} {w : World} {K : PySem.W.Frag} {mg : Str → Option Value} {base : Heap} (T : Tx P w K mg) : FnOk P w K mg base (L2.CX P w) 4 (He.ga K "_read_let") T.fd_readlet pr_readlet (sp_readlet K) := by
  have G_Stepinit := ok_Stepinit (P := P) (w := w) (base := base) T
  have G_usedhalves := ok_usedhalves (P := P) (w := w) (base := base) T
  have G_readpath := ok_readpath (P := P) (w := w) (base := base) T
  refine T.F_readlet.ok sc_readlet ln_readlet (fun cdv A outer s H vs Q E hr h => ⟨t_readlet K, PSs.nox ?_, rd_readlet T.kn vs H Q E h⟩)
  exact (pss_cons (ps_if (PW.pt (pw_or (pt_cmpR op_ne (pe_callB call_len_seq (by rfl) T.n_len PySem.boot_len (pa_cons (pv 0) pa_nil)) pe_int (nomark _)) (pw_or1 (pt_cmpR op_ne (pe_ix ix_list (pv 0) pe_int (fun _ _ => rfl)) pe_str (nomark _))))) (pss_one (ps_ret pe_non)) pss_nil)
      (pss_cons (ps_set (i := 1) sc_readlet.nd rfl (Or.inl rfl) (pe_call G_readpath (hr.mono (by decide)) rfl T.m_readpath T.F_readpath.kp T.b_readpath .nil passL (pa_cons (pe_ix ix_list (pv 0) pe_int (fun _ _ => rfl)) pa_nil)))
      (pss_cons (ps_if (pt_cmpR op_isN (pv 1) pe_non (nomark _)) (pss_one (ps_ret pe_non)) pss_nil)
      (pss_one (ps_ret (pe_makeN (n := 1) (ks := ["news", "kind", "uses", "detail"]) T.mk_Step G_Stepinit (hr.mono (by decide)) rfl T.m_Step T.kb_Step_news_kind_uses_detail passL (pa_cons pe_str pa_nil) (pk_cons (pe_tup (pa_cons (pe_ix ix_list (pv 0) pe_int (fun _ _ => rfl)) pa_nil)) (pk_cons (pe_fld (pv 1) rfl) (pk_cons (pe_call G_usedhalves (hr.mono (by decide)) rfl T.m_usedhalves T.F_usedhalves.kp T.b_usedhalves .nil passL (pa_cons (pe_lst (pa_cons (pe_fld (pv 1) rfl) pa_nil)) pa_nil)) (pk_cons (pv 1) pk_nil))))))))))
theorem ok_readmake {P : Program} {w : World} {K : PySem.W.Frag} {mg : Str → Option Value} {base : Heap} (T : Tx P w K mg) : FnOk P w K mg base (L2.CX P w) 3 (He.ga K "_read_make") T.fd_readmake pr_readmake (sp_readmake K) := by
  have G_Stepinit := ok_Stepinit (P := P) (w := w) (base := base) T
  refine T.F_readmake.ok sc_readmake ln_readmake (fun cdv A outer s H vs Q E hr h => ⟨t_readmake K, PSs.nox ?_, rd_readmake T.kn vs H Q E h⟩)
  exact (pss_cons (ps_if (pt_cmpR op_ne (pe_callB call_len_seq (by rfl) T.n_len PySem.boot_len (pa_cons (pv 0) pa_nil)) pe_int (nomark _)) (pss_one (ps_ret pe_non)) pss_nil)
      (pss_one (ps_ret (pe_makeN (n := 1) (ks := ["news"]) T.mk_Step G_Stepinit (hr.mono (by decide)) rfl T.m_Step T.kb_Step_news passL (pa_cons pe_str pa_nil) (pk_cons (pe_tup (pa_cons (pe_ix ix_list (pv 0) pe_int (fun _ _ => rfl)) (pa_cons (pe_ix ix_list (pv 0) pe_int (fun _ _ => rfl)) pa_nil))) pk_nil)))))
theorem ok_readnew {P : Program} {w : World} {K : PySem.W.Frag} {mg : Str → Option Value} {base : Heap} (T : Tx P w K mg) : FnOk P w K mg base (L2.CX P w) 3 (He.ga K "_read_new") T.fd_readnew pr_readnew (sp_readnew K) := by
  have G_Stepinit := ok_Stepinit (P := P) (w := w) (base := base) T
  refine T.F_readnew.ok sc_readnew ln_readnew (fun cdv A outer s H vs Q E hr h => ⟨t_readnew K, PSs.nox ?_, rd_readnew T.kn vs H Q E h⟩)
  exact (pss_cons (ps_if (PW.pt (pw_or (pt_cmpR op_ne (pe_callB call_len_seq (by rfl) T.n_len PySem.boot_len (pa_cons (pv 0) pa_nil)) pe_int (nomark _)) (pw_or1 (pt_cmpR op_notIn_seq (pe_ix ix_list (pv 0) pe_int (fun _ _ => rfl)) (pe_glob rfl T.m_LABELS rfl) rfl)))) (pss_one (ps_ret pe_non)) pss_nil)
      (pss_one (ps_ret (pe_makeN (n := 1) (ks := ["news", "kind"]) T.mk_Step G_Stepinit (hr.mono (by decide)) rfl T.m_Step T.kb_Step_news_kind passL (pa_cons pe_str pa_nil) (pk_cons (pe_tup (pa_cons (pe_ix ix_list (pv 0) pe_int (fun _ _ => rfl)) pa_nil)) (pk_cons (pe_ix ix_list (pv 0) pe_int (fun _ _ => rfl)) pk_nil))))))
theorem ok_readstep {P : Program} {w : World} {K : PySem.W.Frag} {mg : Str → Option Value} {base : Heap} (T : Tx P w K mg) : FnOk P w K mg base (L2.CX P w) 5 (He.ga K "read_step") T.fd_readstep pr_readstep (sp_readstep K) := by
  have G_readdrop := ok_readdrop (P := P) (w := w) (base := base) T
  have G_readlet := ok_readlet (P := P) (w := w) (base := base) T
  have G_readmake := ok_readmake (P := P) (w := w) (base := base) T
  have G_readnew := ok_readnew (P := P) (w := w) (base := base) T
  refine T.F_readstep.ok sc_readstep ln_readstep (fun cdv A outer s H vs Q E hr h => ⟨t_readstep K, PSs.nox ?_, rd_readstep T.kn vs H Q E h⟩)
  exact (pss_cons (ps_set (i := 1) sc_readstep.nd rfl (Or.inl rfl) (pe_split (pv 0) pe_str))
      (pss_cons (ps_if (pt_cmpR (op_in_kd T.tb_FORMS) (pe_ix ix_list (pv 1) pe_int (fun _ _ => rfl)) (pe_glob rfl T.m_FORMS rfl) rfl) (pss_cons (ps_set (i := 2) sc_readstep.nd rfl (Or.inl rfl) (pe_ix (ix_kd T.tb_FORMS) (pe_glob rfl T.m_FORMS rfl) (pe_ix ix_list (pv 1) pe_int (fun _ _ => rfl)) (fun _ _ => rfl)))
      (pss_one (ps_ret (pe_callS (k := 4) (S := S_form K) (i := 2) (fun f sp h => by rcases h with ⟨rfl, rfl⟩ | ⟨rfl, rfl⟩ | ⟨rfl, rfl⟩ | ⟨rfl, rfl⟩; exact ⟨_, _, _, by decide, G_readlet, T.F_readlet.kp, T.b_readlet⟩; exact ⟨_, _, _, by decide, G_readmake, T.F_readmake.kp, T.b_readmake⟩; exact ⟨_, _, _, by decide, G_readdrop, T.F_readdrop.kp, T.b_readdrop⟩; exact ⟨_, _, _, by decide, G_readnew, T.F_readnew.kp, T.b_readnew⟩) (hr.mono (by decide)) rfl (Or.inl rfl) passL (pa_cons (pv 1) pa_nil))))) pss_nil)
      (pss_one ps_never)))
theorem ok_isname {P : Program} {w : World} {K : PySem.W.Frag} {mg : Str → Option Value} {base : Heap} (T : Tx P w K mg) : FnOk P w K mg base (L2.CX P w) 2 (He.ga K "is_name") T.fd_isname pr_isname (sp_isname K) := by
  have G_isword := ok_isword (P := P) (w := w) (base := base) T
  refine T.F_isname.ok sc_isname ln_isname (fun cdv A outer s H vs Q E hr h => ⟨t_isname K, PSs.nox ?_, rd_isname T.kn vs H Q E h⟩)
  exact (pss_one (ps_ret (pe_and (pe_call G_isword (hr.mono (by decide)) rfl T.m_isword T.F_isword.kp T.b_isword .nil passL (pa_cons (pv 0) pa_nil)) (pe_and (pe_cmpR op_notIn_str (pe_ix ix_str (pv 0) pe_int (fun _ _ => rfl)) (pe_glob rfl T.m_DIGITS T.r_DIGITS) rfl) (pe_one (pe_cmpR op_notIn_seq (pv 0) (pe_glob rfl T.m_RESERVED rfl) rfl))))))
theorem ok_toldnames {P : Program} {w : World} {K : PySem.W.Frag} {mg : Str → Option Value} {base : Heap} (T : Tx P w K mg) : FnOk P w K mg base (L2.CX P w) 1 (He.ga K "told_names") T.fd_toldnames pr_toldnames (sp_toldnames K) := by
  refine T.F_toldnames.ok sc_toldnames ln_toldnames (fun cdv A outer s H vs Q E hr h => ⟨t_toldnames K, PSs.nox ?_, rd_toldnames T.kn vs H Q E h⟩)
  exact (pss_cons (ps_if (pt_cmpR op_ne (pe_fld (pe_ix ix_list (pv 0) (pe_un un_neg pe_int) (fun _ _ => rfl)) rfl) pe_str (nomark _)) (pss_one (ps_ret (pe_tup pa_nil))) pss_nil)
      (pss_one ps_never))
theorem ok_Routineinit {P : Program} {w : World} {K : PySem.W.Frag} {mg : Str → Option Value} {base : Heap} (T : Tx P w K mg) : FnOk P w K mg base (L2.CX P w) 2 (He.ma K (He.ga K "Routine") "__init__") T.fd_Routineinit pr_Routineinit (sp_Routineinit K) := by
  have G_toldnames := ok_toldnames (P := P) (w := w) (base := base) T
  refine T.F_Routineinit.ok sc_Routineinit ln_Routineinit (fun cdv A outer s H vs Q E hr h => ⟨t_Routineinit K, PSs.nox ?_, rd_Routineinit T.kn vs H Q E h⟩)
  exact (pss_cons (ps_fld (pv 0) (pv 1) rfl)
      (pss_cons (ps_fld (pv 0) (pe_callTy call_tuple_of (by rfl) T.n_tuple (by decide +kernel) (pa_cons (pv 2) pa_nil)) rfl)
      (pss_cons (ps_fld (pv 0) (pe_call G_toldnames (hr.mono (by decide)) rfl T.m_toldnames T.F_toldnames.kp T.b_toldnames .nil passL (pa_cons (pv 4) pa_nil)) rfl)
      (pss_cons (ps_fld (pv 0) (pe_callTy call_tuple_of (by rfl) T.n_tuple (by decide +kernel) (pa_cons (pv 3) pa_nil)) rfl)
      (pss_cons (ps_fld (pv 0) (pe_callTy call_tuple_of (by rfl) T.n_tuple (by decide +kernel) (pa_cons (pv 4) pa_nil)) rfl)
      (pss_one (ps_fld (pv 0) (pe_callTy call_tuple_of (by rfl) T.n_tuple (by decide +kernel) (pa_cons (pv 5) pa_nil)) rfl)))))))
theorem ok_Scopeinit {P : Program} {w : World} {K : PySem.W.Frag} {mg : Str → Option Value} {base : Heap} (T : Tx P w K mg) : FnOk P w K mg base (L2.CX P w) 1 (He.ma K (He.ga K "Scope") "__init__") T.fd_Scopeinit pr_Scopeinit (sp_Scopeinit K) := by
  refine T.F_Scopeinit.ok sc_Scopeinit ln_Scopeinit (fun cdv A outer s H vs Q E hr h => ⟨t_Scopeinit K, PSs.nox ?_, rd_Scopeinit T.kn vs H Q E h⟩)
  exact (pss_one (ps_fld (pv 0) (pe_dc (own := [("name", 2)]) (g := gName 2) (tt := tYes) rfl sc_Scopeinit.nd (pi_list (pv 1)) (blkOk_by (own := [("name", 2)]) (N := nm_Scopeinit) (sc := defScope s_Scopeinit) (by decide +kernel)) (fun _ _ _ _ _ => pg_name (i := 2) sc_Scopeinit.nd rfl (by first | exact Or.inl rfl | exact Or.inr rfl)) (fun _ _ _ _ _ => pts_nil) (fun _ _ _ _ _ => (pv 2)) (fun _ _ _ _ _ => (pe_glob rfl T.m_HALF T.r_HALF))) rfl))
theorem ok_Scopecanbind {P : Program} {w : World} {K : PySem.W.Frag} {mg : Str → Option Value} {base : Heap} (T : Tx P w K mg) : FnOk P w K mg base (L2.CX P w) 3 (He.ma K (He.ga K "Scope") "can_bind") T.fd_Scopecanbind pr_Scopecanbind (sp_Scopecanbind K) := by
  have G_isname := ok_isname (P := P) (w := w) (base := base) T
  refine T.F_Scopecanbind.ok sc_Scopecanbind ln_Scopecanbind (fun cdv A outer s H vs Q E hr h => ⟨t_Scopecanbind K, PSs.nox ?_, rd_Scopecanbind T.kn vs H Q E h⟩)
  exact (pss_cons (ps_if (pt_cmpR op_ne (PSet.pe_lenD rfl (by rfl) T.n_len (by rfl) T.n_set (pv 1)) (pe_callB call_len_seq (by rfl) T.n_len PySem.boot_len (pa_cons (pv 1) pa_nil)) (nomark _)) (pss_one (ps_ret pe_bl)) pss_nil)
      (pss_one (ps_ret (pe_callB (cr_all rfl) (by rfl) T.n_all (by decide +kernel) (pa_cons (pe_lc (own := [("name", 2)]) (g := gName 2) (tt := tYes) rfl sc_Scopecanbind.nd (pi_any (pv 1)) (blkOk_by (own := [("name", 2)]) (N := nm_Scopecanbind) (sc := defScope s_Scopecanbind) (by decide +kernel)) (fun _ _ _ _ _ => (pg_name (i := 2) sc_Scopecanbind.nd rfl (by first | exact Or.inl rfl | exact Or.inr rfl))) (fun _ _ _ _ _ => pts_nil) (fun _ _ _ _ _ => (pe_and (pe_call G_isname (hr.mono (by decide)) rfl T.m_isname T.F_isname.kp T.b_isname .nil passL (pa_cons (pv 2) pa_nil)) (pe_one (pe_cmp (pc_dnotin (hu1 hr) (pv 2) (pe_fld (pv 0) rfl))))))) pa_nil)))))
theorem ok_Scopecheckuses {P : Program} {w : World} {K : PySem.W.Frag} {mg : Str → Option Value} {base : Heap} (T : Tx P w K mg) : FnOk P w K mg base (L2.CX P w) 1 (He.ma K (He.ga K "Scope") "check_uses") T.fd_Scopecheckuses pr_Scopecheckuses (sp_Scopecheckuses K) := by
  refine T.F_Scopecheckuses.ok sc_Scopecheckuses ln_Scopecheckuses (fun cdv A outer s H vs Q E hr h => ⟨t_Scopecheckuses K, PSs.nox ?_, rd_Scopecheckuses T.kn vs H Q E h⟩)
  exact (pss_one (ps_for PassesOwn.never rfl (pi_tup (pe_fld (pv 1) rfl)) (pg_tup (by rfl) (pgs_cons (pg_name (i := 3) sc_Scopecheckuses.nd rfl (Or.inl rfl)) (pgs_cons (pg_name (i := 4) sc_Scopecheckuses.nd rfl (Or.inl rfl)) pgs_nil))) (pss_cons (ps_if (pt_cmp (pc_dnotin (hu1 hr) (pv 3) (pe_fld (pv 0) rfl)) rfl) (pss_one ps_never) pss_nil)
      (pss_one (ps_if (pt_cmpR op_notIn_seq (pe_dget (hu1 hr) (pe_fld (pv 0) rfl) (pv 3) (fun _ _ => rfl)) (pv 4) rfl) (pss_one ps_never) pss_nil)))))
theorem ok_Scopebind {P : Program} {w : World} {K : PySem.W.Frag} {mg : Str → Option Value} {base : Heap} (T : Tx P w K mg) : FnOk P w K mg base (L2.CX P w) 1 (He.ma K (He.ga K "Scope") "bind") T.fd_Scopebind pr_Scopebind (sp_Scopebind K) := by
  refine T.F_Scopebind.ok sc_Scopebind ln_Scopebind (fun cdv A outer s H vs Q E hr h => ⟨t_Scopebind K, PSs.nox ?_, rd_Scopebind T.kn vs H Q E h⟩)
  exact (pss_one (ps_for PassesOwn.never rfl (pi_tup (pe_fld (pv 1) rfl)) (pg_name (i := 2) sc_Scopebind.nd rfl (Or.inl rfl)) (pss_one (ps_dput (hu1 hr) (pe_fld (pv 0) rfl) (pv 2) (pe_fld (pv 1) rfl) rfl))))
theorem ok_Draftinit {P : Program} {w : World} {K : PySem.W.Frag} {mg : Str → Option Value} {base : Heap} (T : Tx P w K mg) : FnOk P w K mg base (L2.CX P w) 3 (He.ma K (He.ga K "Draft") "__init__") T.fd_Draftinit pr_Draftinit (sp_Draftinit K) := by
  have G_Scopeinit := ok_Scopeinit (P := P) (w := w) (base := base) T
  have G_Stepinit := ok_Stepinit (P := P) (w := w) (base := base) T
  refine T.F_Draftinit.ok sc_Draftinit ln_Draftinit (fun cdv A outer s H vs Q E hr h => ⟨t_Draftinit K, PSs.nox ?_, rd_Draftinit T.kn vs H Q E h⟩)
  exact (pss_cons (ps_fld (pv 0) (pe_make T.mk_Scope G_Scopeinit (hr.mono (by decide)) rfl T.m_Scope T.b_Scopeinit .nil passL (pa_cons (pv 1) pa_nil)) rfl)
      (pss_cons (ps_fld (pv 0) (pe_lst (pa_cons (pe_make T.mk_Step G_Stepinit (hr.mono (by decide)) rfl T.m_Step T.b0_Step T.v0_Step passL (pa_cons pe_str pa_nil)) pa_nil)) rfl)
      (pss_cons (ps_fld (pv 0) (pe_lst (pa_cons pe_non pa_nil)) rfl)
      (pss_cons (ps_fld (pv 0) (pe_lst pa_nil) rfl)
      (pss_one (ps_fld (pv 0) pe_bl rfl))))))
theorem ok_checklabels {P : Program} {w : World} {K : PySem.W.Frag} {mg : Str → Option Value} {base : Heap} (T : Tx P w K mg) : FnOk P w K mg base (L2.CX P w) 3 (He.ga K "_check_labels") T.fd_checklabels pr_checklabels (sp_checklabels K) := by
  have G_BadLineinit := ok_BadLineinit (P := P) (w := w) (base := base) T
  refine T.F_checklabels.ok sc_checklabels ln_checklabels (fun cdv A outer s H vs Q E hr h => ⟨t_checklabels K, PSs.nox ?_, rd_checklabels T.kn vs H Q E h⟩)
  exact (pss_cons (ps_set (i := 3) sc_checklabels.nd rfl (Or.inl rfl) (pe_cmpR op_in_seq (pe_fld (pv 1) rfl) (pe_glob rfl T.m_LABEL_ACTIONS rfl) rfl))
      (pss_cons (ps_if (pt_cmpR op_eq (pe_fld (pv 1) rfl) pe_str (nomark _)) (pss_cons (ps_set (i := 3) sc_checklabels.nd rfl (Or.inl rfl) (pe_cmpR op_ne (pe_dget (hu1 hr) (pe_fld (pe_fld (pv 0) rfl) rfl) (pe_ix ix_tup (pe_fld (pv 1) rfl) pe_int (fun _ _ => rfl)) (fun _ _ => rfl)) (pe_glob rfl T.m_HALF T.r_HALF) (nomark _)))
      (pss_one (ps_if (PW.pt (pw_and (pt_val (pe_fld (pv 0) rfl)) (pw_and1 (pt_not (pt_val (pv 3)))))) (pss_one ps_never) pss_nil))) pss_nil)
      (pss_one (ps_fld (pv 0) (pe_or (pe_fld (pv 0) rfl) (pe_one (pv 3))) rfl))))
theorem ok_maystand {P : Program} {w : World} {K : PySem.W.Frag} {mg : Str → Option Value} {base : Heap} (T : Tx P w K mg) : FnOk P w K mg base (L2.CX P w) 1 (He.ga K "_may_stand") T.fd_maystand pr_maystand (sp_maystand K) := by
  refine T.F_maystand.ok sc_maystand ln_maystand (fun cdv A outer s H vs Q E hr h => ⟨t_maystand K, PSs.nox ?_, rd_maystand T.kn vs H Q E h⟩)
  exact (pss_cons (ps_if (pt_cmpR op_eq (pe_fld (pv 1) rfl) pe_str (nomark _)) (pss_one ps_never) pss_nil)
      (pss_cons (ps_if (pt_cmpR op_eq (pe_fld (pv 1) rfl) pe_str (nomark _)) (pss_one ps_never) pss_nil)
      (pss_cons (ps_if (pt_cmpR op_eq (pe_fld (pv 1) rfl) pe_str (nomark _)) (pss_one ps_never) pss_nil)
      (pss_cons (ps_if (pt_cmpR op_eq (pe_fld (pv 1) rfl) pe_str (nomark _)) (pss_one ps_never) pss_nil)
      (pss_cons (ps_if (pt_cmpR op_eq (pe_fld (pv 1) rfl) pe_str (nomark _)) (pss_one ps_never) pss_nil)
      (pss_cons (ps_if (pt_cmpR op_in_seq (pe_fld (pv 1) rfl) (pe_glob rfl T.m_AHEAD_OF_LABELS rfl) rfl) (pss_one (ps_ret (pe_not (pe_fld (pv 0) rfl)))) pss_nil)
      (pss_one (ps_ret (pe_cmpR op_ne (pe_fld (pv 1) rfl) pe_str (nomark _))))))))))
theorem ok_openorclose {P : Program} {w : World} {K : PySem.W.Frag} {mg : Str → Option Value} {base : Heap} (T : Tx P w K mg) : FnOk P w K mg base (L2.CX P w) 1 (He.ga K "_open_or_close") T.fd_openorclose pr_openorclose (sp_openorclose K) := by
  refine T.F_openorclose.ok sc_openorclose ln_openorclose (fun cdv A outer s H vs Q E hr h => ⟨t_openorclose K, PSs.nox ?_, rd_openorclose T.kn vs H Q E h⟩)
  exact (pss_cons (ps_set (i := 2) sc_openorclose.nd rfl (Or.inl rfl) (pe_callB call_len_seq (by rfl) T.n_len PySem.boot_len (pa_cons (pe_fld (pv 0) rfl) pa_nil)))
      (pss_one (ps_if (pt_cmpR op_eq (pe_fld (pv 1) rfl) pe_str (nomark _)) (pss_one ps_never) (pss_one (ps_if (pt_cmpR op_eq (pe_fld (pv 1) rfl) pe_str (nomark _)) (pss_cons ps_never
      (pss_cons ps_never
      (pss_cons ps_never
      (pss_cons ps_never
      (pss_one ps_never))))) (pss_one (ps_if (pt_cmpR op_eq (pe_fld (pv 1) rfl) pe_str (nomark _)) (pss_cons ps_never
      (pss_cons ps_never
      (pss_one ps_never))) pss_nil)))))))
theorem ok_addline {P : Program} {w : World} {K : PySem.W.Frag} {mg : Str → Option Value} {base : Heap} (T : Tx P w K mg) : FnOk P w K mg base (L2.CX P w) 6 (He.ga K "_add_line") T.fd_addline pr_addline (sp_addline K) := by
  have G_BadLineinit := ok_BadLineinit (P := P) (w := w) (base := base) T
  have G_Scopebind := ok_Scopebind (P := P) (w := w) (base := base) T
  have G_Scopecanbind := ok_Scopecanbind (P := P) (w := w) (base := base) T
  have G_Scopecheckuses := ok_Scopecheckuses (P := P) (w := w) (base := base) T
  have G_checklabels := ok_checklabels (P := P) (w := w) (base := base) T
  have G_maystand := ok_maystand (P := P) (w := w) (base := base) T
  have G_openorclose := ok_openorclose (P := P) (w := w) (base := base) T
  have G_readstep := ok_readstep (P := P) (w := w) (base := base) T
  refine T.F_addline.ok sc_addline ln_addline (fun cdv A outer s H vs Q E hr h => ⟨t_addline K E, ?_, rd_addline T.kn vs H Q E h⟩)
  exact (pss_cons (ps_set (i := 4) sc_addline.nd rfl (Or.inl rfl) (pe_call G_readstep (hr.mono (by decide)) rfl T.m_readstep T.F_readstep.kp T.b_readstep .nil passL (pa_cons (pv 1) pa_nil)))
      (pss_cons (ps_if (PW.pt (pw_or (pt_cmpR op_isN (pv 4) pe_non (nomark _)) (pw_or1 (pt_cmpR op_gt (pe_callB call_len_seq (by rfl) T.n_len PySem.boot_len (pa_cons (pe_fld (pv 0) rfl) pa_nil)) (pe_glob rfl T.m_MOST_LINES T.r_MOST_LINES) (nomark _))))) (pss_one (ps_raise rfl (takes_of rfl rfl rfl rfl) (pmk_oex T.u_BadLine.F.oex T.u_BadLine.iC T.u_BadLine.tI G_BadLineinit (hr.mono (by decide)) T.b_BadLineinit .nil passL rfl T.m_BadLine (pa_cons (pv 2) pa_nil)))) pss_nil)
      (pss_cons (ps_if (PW.pt (pw_or (pt_not (pt_val (pe_meth (pe_fld (pv 0) rfl) T.cl_Scope T.me_Scopecanbind G_Scopecanbind (hr.mono (by decide)) T.b_Scopecanbind .nil passL (pa_cons (pe_fld (pv 4) rfl) pa_nil)))) (pw_or1 (pt_not (pt_val (pe_call G_maystand (hr.mono (by decide)) rfl T.m_maystand T.F_maystand.kp T.b_maystand .nil passL (pa_cons (pv 0) (pa_cons (pv 4) (pa_cons (pv 3) pa_nil))))))))) (pss_one (ps_raise rfl (takes_of rfl rfl rfl rfl) (pmk_oex T.u_BadLine.F.oex T.u_BadLine.iC T.u_BadLine.tI G_BadLineinit (hr.mono (by decide)) T.b_BadLineinit .nil passL rfl T.m_BadLine (pa_cons (pv 2) pa_nil)))) pss_nil)
      (pss_cons (ps_expr (pe_meth (pe_fld (pv 0) rfl) T.cl_Scope T.me_Scopecheckuses G_Scopecheckuses (hr.mono (by decide)) T.b_Scopecheckuses .nil passL (pa_cons (pv 4) (pa_cons (pv 2) pa_nil))))
      (pss_cons (ps_expr (pe_call G_checklabels (hr.mono (by decide)) rfl T.m_checklabels T.F_checklabels.kp T.b_checklabels .nil passL (pa_cons (pv 0) (pa_cons (pv 4) (pa_cons (pv 2) pa_nil)))))
      (pss_cons (ps_expr (pe_call G_openorclose (hr.mono (by decide)) rfl T.m_openorclose T.F_openorclose.kp T.b_openorclose .nil passL (pa_cons (pv 0) (pa_cons (pv 4) pa_nil))))
      (pss_cons (ps_expr (pe_meth (pe_fld (pv 0) rfl) T.cl_Scope T.me_Scopebind G_Scopebind (hr.mono (by decide)) T.b_Scopebind .nil passL (pa_cons (pv 4) pa_nil)))
      (pss_cons (ps_expr (pe_bm PySem.F.plainAttrs_list PySem.F.slot_list_append PySem.F.type_list_append mt_append (pe_fld (pv 0) rfl) (pa_cons (pv 4) pa_nil)))
      (pss_one (ps_expr (pe_bm PySem.F.plainAttrs_list PySem.F.slot_list_append PySem.F.type_list_append mt_append (pe_fld (pv 0) rfl) (pa_cons pe_non pa_nil))))))))))))
theorem ok_readhead {P : Program} {w : World} {K : PySem.W.Frag} {mg : Str → Option Value} {base : Heap} (T : Tx P w K mg) : FnOk P w K mg base (L2.CX P w) 4 (He.ga K "read_head") T.fd_readhead pr_readhead (sp_readhead K) := by
  have G_BadLineinit := ok_BadLineinit (P := P) (w := w) (base := base) T
  have G_Scopeinit := ok_Scopeinit (P := P) (w := w) (base := base) T
  have G_Scopecanbind := ok_Scopecanbind (P := P) (w := w) (base := base) T
  have G_isname := ok_isname (P := P) (w := w) (base := base) T
  refine T.F_readhead.ok sc_readhead ln_readhead (fun cdv A outer s H vs Q E hr h => ⟨t_readhead K E, ?_, rd_readhead T.kn vs H Q E h⟩)
  exact (pss_cons (ps_set (i := 4) sc_readhead.nd rfl (Or.inl rfl) (pe_split (pv 1) pe_str))
      (pss_cons (ps_set (i := 5) sc_readhead.nd rfl (Or.inl rfl) (pe_slice sl_list (pv 4) (po_some pe_int) po_none))
      (pss_cons (ps_if (PW.pt (pw_or (pt_cmpR op_ne (pe_ix ix_list (pv 4) pe_int (fun _ _ => rfl)) (pv 0) (nomark _)) (pw_or1 (pt_not (pt_chain op_le op_le pe_int (pe_callB call_len_seq (by rfl) T.n_len PySem.boot_len (pa_cons (pv 5) pa_nil)) (pe_op op_add (pe_glob rfl T.m_MOST_HALVES T.r_MOST_HALVES) pe_int)))))) (pss_one (ps_raise rfl (takes_of rfl rfl rfl rfl) (pmk_oex T.u_BadLine.F.oex T.u_BadLine.iC T.u_BadLine.tI G_BadLineinit (hr.mono (by decide)) T.b_BadLineinit .nil passL rfl T.m_BadLine (pa_cons (pv 2) pa_nil)))) pss_nil)
      (pss_cons (ps_asg (pv 5) (pg_star (by rfl) (pgs_cons (pg_name (i := 6) sc_readhead.nd rfl (Or.inl rfl)) (pgs_last (pg_name (i := 7) sc_readhead.nd rfl (Or.inl rfl))))))
      (pss_cons (ps_if (PW.pt (pw_or (pt_not (pt_val (pe_call G_isname (hr.mono (by decide)) rfl T.m_isname T.F_isname.kp T.b_isname .nil passL (pa_cons (pv 6) pa_nil)))) (pw_or (pt_cmp (pc_din (hu1 hr) (pv 6) (pv 3)) rfl) (pw_or1 (pt_not (pt_val (pe_meth (pe_make T.mk_Scope G_Scopeinit (hr.mono (by decide)) rfl T.m_Scope T.b_Scopeinit .nil passL (pa_cons (pe_lst pa_nil) pa_nil)) T.cl_Scope T.me_Scopecanbind G_Scopecanbind (hr.mono (by decide)) T.b_Scopecanbind .nil passL (pa_cons (pv 7) pa_nil)))))))) (pss_one (ps_raise rfl (takes_of rfl rfl rfl rfl) (pmk_oex T.u_BadLine.F.oex T.u_BadLine.iC T.u_BadLine.tI G_BadLineinit (hr.mono (by decide)) T.b_BadLineinit .nil passL rfl T.m_BadLine (pa_cons (pv 2) pa_nil)))) pss_nil)
      (pss_one (ps_ret (pe_tup (pa_cons (pv 6) (pa_cons (pv 7) pa_nil))))))))))
theorem ok_routineof {P : Program} {w : World} {K : PySem.W.Frag} {mg : Str → Option Value} {base : Heap} (T : Tx P w K mg) : FnOk P w K mg base (L2.CX P w) 7 (He.ga K "routine_of") T.fd_routineof pr_routineof (sp_routineof K) := by
  have G_BadLineinit := ok_BadLineinit (P := P) (w := w) (base := base) T
  have G_Draftinit := ok_Draftinit (P := P) (w := w) (base := base) T
  have G_Routineinit := ok_Routineinit (P := P) (w := w) (base := base) T
  have G_addline := ok_addline (P := P) (w := w) (base := base) T
  have G_readhead := ok_readhead (P := P) (w := w) (base := base) T
  refine T.F_routineof.ok sc_routineof ln_routineof (fun cdv A outer s H vs Q E hr h => ⟨t_routineof K E, ?_, rd_routineof T.kn vs H Q E h⟩)
  exact (pss_cons (ps_asg (pe_call G_readhead (hr.mono (by decide)) rfl T.m_readhead T.F_readhead.kp T.b_readhead .nil (passes_call (takes_of rfl rfl rfl rfl) (fun _ _ _ _ h => h)) (pa_cons pe_str (pa_cons (pe_ix ix_list (pv 0) pe_int (fun _ _ => rfl)) (pa_cons (pv 1) (pa_cons (pv 2) pa_nil))))) (pg_tup (by rfl) (pgs_cons (pg_name (i := 3) sc_routineof.nd rfl (Or.inl rfl)) (pgs_cons (pg_name (i := 4) sc_routineof.nd rfl (Or.inl rfl)) pgs_nil))))
      (pss_cons (ps_set (i := 5) sc_routineof.nd rfl (Or.inl rfl) (pe_make T.mk_Draft G_Draftinit (hr.mono (by decide)) rfl T.m_Draft T.b_Draftinit .nil passL (pa_cons (pv 4) pa_nil)))
      (pss_cons (ps_for (passes_of rfl) rfl (pi_range2 (by rfl) T.n_range (pa_cons pe_int (pa_cons (pe_callB call_len_seq (by rfl) T.n_len PySem.boot_len (pa_cons (pv 0) pa_nil)) pa_nil))) (pg_name (i := 6) sc_routineof.nd rfl (Or.inl rfl)) (pss_one (ps_expr (pe_call G_addline (hr.mono (by decide)) rfl T.m_addline T.F_addline.kp T.b_addline .nil (passes_call (takes_of rfl rfl rfl rfl) (fun _ _ _ _ h => h)) (pa_cons (pv 5) (pa_cons (pe_ix ix_list (pv 0) (pv 6) (fun _ _ => rfl)) (pa_cons (pe_op op_add (pv 1) (pv 6)) (pa_cons (pe_cmpR op_eq (pe_op op_add (pv 6) pe_int) (pe_callB call_len_seq (by rfl) T.n_len PySem.boot_len (pa_cons (pv 0) pa_nil)) (nomark _)) pa_nil))))))))
      (pss_cons (ps_if (pt_truL (pe_fld (pv 5) rfl)) (pss_one ps_never) pss_nil)
      (pss_one (ps_ret (pe_make T.mk_Routine G_Routineinit (hr.mono (by decide)) rfl T.m_Routine T.b_Routineinit .nil passL (pa_cons (pv 3) (pa_cons (pv 4) (pa_cons (pv 0) (pa_cons (pe_fld (pv 5) rfl) (pa_cons (pe_fld (pv 5) rfl) pa_nil))))))))))))
theorem ok_readroutine {P : Program} {w : World} {K : PySem.W.Frag} {mg : Str → Option Value} {base : Heap} (T : Tx P w K mg) : FnOk P w K mg base (L2.CX P w) 8 (He.ga K "read_routine") T.fd_readroutine pr_readroutine (sp_readroutine K) := by
  have G_routineof := ok_routineof (P := P) (w := w) (base := base) T
  refine T.F_readroutine.ok sc_readroutine ln_readroutine (fun cdv A outer s H vs Q E hr h => ⟨t_readroutine K E, ?_, rd_readroutine T.kn vs H Q E h⟩)
  exact (pss_one (ps_ret (pe_call G_routineof (hr.mono (by decide)) rfl T.m_routineof T.F_routineof.kp T.b_routineof .nil (passes_call (takes_of rfl rfl rfl rfl) (fun _ _ _ _ h => h)) (pa_cons (pe_split (pv 0) pe_str) (pa_cons pe_int (pa_cons pe_dnewK pa_nil))))))
theorem ok_Ltape {P : Program} {w : World} {K : PySem.W.Frag} {mg : Str → Option Value} {base : Heap} (T : Tx P w K mg) : FnOk P w K mg base (L2.CX P w) 1 (He.ga K "_law_tape") T.fd_Ltape pr_Ltape (sp_Ltape K) := by
  refine T.F_Ltape.ok sc_Ltape ln_Ltape (fun cdv A outer s H vs Q E hr h => ⟨t_Ltape K, PSs.nox ?_, rd_Ltape T.kn vs H Q E h⟩)
  exact (pss_cons (ps_set (i := 2) sc_Ltape.nd rfl (Or.inl rfl) (pe_ifExp (pt_cmpR op_lt (pv 1) (pe_callB call_len_seq (by rfl) T.n_len PySem.boot_len (pa_cons (pv 0) pa_nil)) (nomark _)) (pe_ix ix_list (pv 0) (pv 1) (fun _ _ => rfl)) pe_int))
      (pss_one (ps_ret (pe_lst (pa_cons (pe_callB call_abs (by rfl) T.n_abs (by decide +kernel) (pa_cons (pv 2) pa_nil)) (pa_cons (pe_op op_add (pe_op op_mul pe_int (pv 1)) pe_int) pa_nil))))))
theorem ok_Lpick {P : Program} {w : World} {K : PySem.W.Frag} {mg : Str → Option Value} {base : Heap} (T : Tx P w K mg) : FnOk P w K mg base (L2.CX P w) 1 (He.ga K "_law_pick") T.fd_Lpick pr_Lpick (sp_Lpick K) := by
  refine T.F_Lpick.ok sc_Lpick ln_Lpick (fun cdv A outer s H vs Q E hr h => ⟨t_Lpick K, PSs.nox ?_, rd_Lpick T.kn vs H Q E h⟩)
  exact (pss_cons (ps_if (pt_cmpR op_ge (pe_ix ix_list (pv 0) pe_int (fun _ _ => rfl)) (pe_op op_pow pe_int pe_int) (nomark _)) (pss_cons (ps_set (i := 2) sc_Lpick.nd rfl (Or.inl rfl) (pe_op op_modN (pe_callTy call_int1 (by rfl) T.n_int (by decide +kernel) (pa_cons (pe_ix ix_list (pv 0) pe_int (fun _ _ => rfl)) pa_nil)) (pv 1)))
      (pss_cons (ps_asg (pe_op op_fdivN (pe_ix ix_list (pv 0) pe_int (fun _ _ => rfl)) (pv 1)) (pg_sub (pv 0) pe_int set_list))
      (pss_one (ps_ret (pv 2))))) pss_nil)
      (pss_cons (ps_asg (pe_op op_modN (pe_callTy call_int1 (by rfl) T.n_int (by decide +kernel) (pa_cons (pe_op op_add (pe_op op_add (pe_op op_mul (pe_ix ix_list (pv 0) pe_int (fun _ _ => rfl)) pe_int) (pe_op op_mul (pe_ix ix_list (pv 0) pe_int (fun _ _ => rfl)) pe_int)) pe_int) pa_nil)) pe_int) (pg_sub (pv 0) pe_int set_list))
      (pss_cons (ps_set (i := 3) sc_Lpick.nd rfl (Or.inl rfl) (pe_op op_modN (pe_callTy call_int1 (by rfl) T.n_int (by decide +kernel) (pa_cons (pe_op op_add (pe_op op_add (pe_op op_mul (pe_ix ix_list (pv 0) pe_int (fun _ _ => rfl)) (pe_ix ix_list (pv 0) pe_int (fun _ _ => rfl))) (pe_op op_mul (pe_ix ix_list (pv 0) pe_int (fun _ _ => rfl)) pe_int)) pe_int) pa_nil)) pe_int))
      (pss_one (ps_ret (pe_op op_modN (pe_callTy call_int1 (by rfl) T.n_int (by decide +kernel) (pa_cons (pe_op op_fdivN (pv 3) pe_int) pa_nil)) (pv 1)))))))
theorem ok_Lreserved {P : Program} {w : World} {K : PySem.W.Frag} {mg : Str → Option Value} {base : Heap} (T : Tx P w K mg) : FnOk P w K mg base (L2.CX P w) 1 (He.ga K "_law_reserved") T.fd_Lreserved pr_Lreserved (sp_Lreserved K) := by
  refine T.F_Lreserved.ok sc_Lreserved ln_Lreserved (fun cdv A outer s H vs Q E hr h => ⟨t_Lreserved K, PSs.nox ?_, rd_Lreserved T.kn vs H Q E h⟩)
  exact (pss_cons (ps_set (i := 0) sc_Lreserved.nd rfl (Or.inl rfl) pe_str)
      (pss_one (ps_ret (pe_split (pv 0) pe_str))))
theorem ok_Lstring {P : Program} {w : World} {K : PySem.W.Frag} {mg : Str → Option Value} {base : Heap} (T : Tx P w K mg) : FnOk P w K mg base (L2.CX P w) 2 (He.ga K "_law_string") T.fd_Lstring pr_Lstring (sp_Lstring K) := by
  have G_Lpick := ok_Lpick (P := P) (w := w) (base := base) T
  have G_Lreserved := ok_Lreserved (P := P) (w := w) (base := base) T
  refine T.F_Lstring.ok sc_Lstring ln_Lstring (fun cdv A outer s H vs Q E hr h => ⟨t_Lstring K, PSs.nox ?_, rd_Lstring T.kn vs H Q E h⟩)
  exact (pss_cons (ps_set (i := 1) sc_Lstring.nd rfl (Or.inl rfl) pe_str)
      (pss_cons (ps_if (pt_cmpR op_eq (pe_call G_Lpick (hr.mono (by decide)) rfl T.m_Lpick T.F_Lpick.kp T.b_Lpick .nil passL (pa_cons (pv 0) (pa_cons pe_int pa_nil))) pe_int (nomark _)) (pss_cons (ps_set (i := 2) sc_Lstring.nd rfl (Or.inl rfl) (pe_ix ix_list (pe_call0 G_Lreserved (hr.mono (by decide)) rfl T.m_Lreserved T.F_Lreserved.kp T.b_Lreserved .nil passL) (pe_call G_Lpick (hr.mono (by decide)) rfl T.m_Lpick T.F_Lpick.kp T.b_Lpick .nil passL (pa_cons (pv 0) (pa_cons pe_int pa_nil))) (fun _ _ => rfl)))
      (pss_one (ps_ret (pe_ix ix_list (pe_lst (pa_cons (pv 2) (pa_cons (pv 2) (pa_cons (pe_op op_add_str (pv 2) (pe_ix ix_str (pv 1) (pe_call G_Lpick (hr.mono (by decide)) rfl T.m_Lpick T.F_Lpick.kp T.b_Lpick .nil passL (pa_cons (pv 0) (pa_cons pe_int pa_nil))) (fun _ _ => rfl))) (pa_cons (pe_slice sl_str (pv 2) (po_some pe_int) po_none) (pa_cons (pe_slice sl_str (pv 2) po_none (po_some (pe_op op_sub (pe_callB call_len_str (by rfl) T.n_len PySem.boot_len (pa_cons (pv 2) pa_nil)) pe_int))) pa_nil)))))) (pe_call G_Lpick (hr.mono (by decide)) rfl T.m_Lpick T.F_Lpick.kp T.b_Lpick .nil passL (pa_cons (pv 0) (pa_cons pe_int pa_nil))) (fun _ _ => rfl))))) pss_nil)
      (pss_cons (ps_set (i := 3) sc_Lstring.nd rfl (Or.inl rfl) pe_str)
      (pss_cons (ps_for PassesOwn.never rfl (pi_range1 (by rfl) T.n_range (pa_cons (pe_call G_Lpick (hr.mono (by decide)) rfl T.m_Lpick T.F_Lpick.kp T.b_Lpick .nil passL (pa_cons (pv 0) (pa_cons pe_int pa_nil))) pa_nil)) (pg_name (i := 4) sc_Lstring.nd rfl (Or.inl rfl)) (pss_one (ps_set (i := 3) sc_Lstring.nd rfl (Or.inl rfl) (pe_op op_add_str (pv 3) (pe_ix ix_str (pv 1) (pe_call G_Lpick (hr.mono (by decide)) rfl T.m_Lpick T.F_Lpick.kp T.b_Lpick .nil passL (pa_cons (pv 0) (pa_cons pe_int pa_nil))) (fun _ _ => rfl))))))
      (pss_cons (ps_if (pt_cmpR op_eq (pe_call G_Lpick (hr.mono (by decide)) rfl T.m_Lpick T.F_Lpick.kp T.b_Lpick .nil passL (pa_cons (pv 0) (pa_cons pe_int pa_nil))) pe_int (nomark _)) (pss_cons (ps_set (i := 5) sc_Lstring.nd rfl (Or.inl rfl) (pe_call G_Lpick (hr.mono (by decide)) rfl T.m_Lpick T.F_Lpick.kp T.b_Lpick .nil passL (pa_cons (pv 0) (pa_cons (pe_op op_add (pe_callB call_len_str (by rfl) T.n_len PySem.boot_len (pa_cons (pv 3) pa_nil)) pe_int) pa_nil))))
      (pss_one (ps_set (i := 3) sc_Lstring.nd rfl (Or.inl rfl) (pe_op op_add_str (pe_op op_add_str (pe_slice sl_str (pv 3) po_none (po_some (pv 5))) (pe_ix ix_list (pe_lst (pa_cons pe_str (pa_cons pe_str (pa_cons pe_str (pa_cons pe_str (pa_cons pe_str (pa_cons pe_str pa_nil))))))) (pe_call G_Lpick (hr.mono (by decide)) rfl T.m_Lpick T.F_Lpick.kp T.b_Lpick .nil passL (pa_cons (pv 0) (pa_cons pe_int pa_nil))) (fun _ _ => rfl))) (pe_slice sl_str (pv 3) (po_some (pv 5)) po_none))))) pss_nil)
      (pss_one (ps_ret (pv 3))))))))
theorem ok_Lgood {P : Program} {w : World} {K : PySem.W.Frag} {mg : Str → Option Value} {base : Heap} (T : Tx P w K mg) : FnOk P w K mg base (L2.CX P w) 2 (He.ga K "_law_good") T.fd_Lgood pr_Lgood (sp_Lgood K) := by
  have G_Lreserved := ok_Lreserved (P := P) (w := w) (base := base) T
  refine T.F_Lgood.ok sc_Lgood ln_Lgood (fun cdv A outer s H vs Q E hr h => ⟨t_Lgood K, PSs.nox ?_, rd_Lgood T.kn vs H Q E h⟩)
  exact (pss_cons (ps_if (PW.pt (pw_or (pt_not (pt_chain op_le op_le pe_int (pe_callB call_len_str (by rfl) T.n_len PySem.boot_len (pa_cons (pv 0) pa_nil)) pe_int)) (pw_or (pt_cmpR op_in_seq (pv 0) (pe_call0 G_Lreserved (hr.mono (by decide)) rfl T.m_Lreserved T.F_Lreserved.kp T.b_Lreserved .nil passL) rfl) (pw_or1 (pt_cmpR op_in_str (pe_ix ix_str (pv 0) pe_int (fun _ _ => rfl)) pe_str rfl))))) (pss_one (ps_ret pe_bl)) pss_nil)
      (pss_one (ps_ret (pe_cmpR (op_eqD hr.units) (pe_lc (own := [("_law_char", 1)]) (g := gName 1) (tt := _) rfl sc_Lgood.nd (pi_str (pv 0)) (blkOk_by (own := [("_law_char", 1)]) (N := nm_Lgood) (sc := defScope s_Lgood) (by decide +kernel)) (fun _ _ _ _ _ => (pg_name (i := 1) sc_Lgood.nd rfl (by first | exact Or.inl rfl | exact Or.inr rfl))) (fun _ _ _ _ _ => pts_one (pt_cmpR op_notIn_str (pv 1) pe_str rfl)) (fun _ _ _ _ _ => (pv 1))) (pe_lst pa_nil) (nomark _)))))
theorem ok_Ltold {P : Program} {w : World} {K : PySem.W.Frag} {mg : Str → Option Value} {base : Heap} (T : Tx P w K mg) : FnOk P w K mg base (L2.CX P w) 9 (He.ga K "_law_told") T.fd_Ltold pr_Ltold (sp_Ltold K) := by
  have G_readroutine := ok_readroutine (P := P) (w := w) (base := base) T
  refine T.F_Ltold.ok sc_Ltold ln_Ltold (fun cdv A outer s H vs Q E hr h => ⟨t_Ltold K, PSs.nox ?_, rd_Ltold T.kn vs H Q E h⟩)
  exact (pss_cons (ps_tryM rfl rfl sc_Ltold.nd (fun W pn xe tk po => (pss_one (ps_expr (pe_call G_readroutine (hr.mono (by decide)) rfl T.m_readroutine T.F_readroutine.kp T.b_readroutine .nil (passes_len tk) (pa_cons (pv 0) pa_nil))))) (.cons (i := 1) rfl rfl ⟨rfl, by decide, Or.inl T.m_BadLine⟩ (fun a oe cls d pn hz hf => pss_pre (fun hq => (pss_one (ps_ret (pe_lst (pa_cons (pe_xf (Hm.ExcC.xf T.x_BadLine) T.na_BadLine_line hz hf (pv 1)) (pa_cons (pe_and (pe_callB (call_isX T.x_BadLine (zc_ref hz hq) hf) (by rfl) T.n_isinstance (by decide +kernel) (pa_cons (pv 1) (pa_cons (pe_glob rfl T.m_MeshError rfl) pa_nil))) (pe_one (pe_callB (call_isX T.x_BadLine (zc_ref hz hq) hf) (by rfl) T.n_isinstance (by decide +kernel) (pa_cons (pv 1) (pa_cons (pe_bltn (v := .ty "ValueError") rfl T.n_ValueError (by decide +kernel) rfl) pa_nil))))) pa_nil))))))) .nil))
      (pss_one (ps_ret (pe_lst pa_nil))))
theorem ok_law {P : Program} {w : World} {K : PySem.W.Frag} {mg : Str → Option Value} {base : Heap} (T : Tx P w K mg) : FnOk P w K mg base CX0 10 (He.ga K "law") T.fd_law pr_law (sp_law K) := by
  have G_Lgood := ok_Lgood (P := P) (w := w) (base := base) T
  have G_Lreserved := ok_Lreserved (P := P) (w := w) (base := base) T
  have G_Lstring := ok_Lstring (P := P) (w := w) (base := base) T
  have G_Ltape := ok_Ltape (P := P) (w := w) (base := base) T
  have G_Ltold := ok_Ltold (P := P) (w := w) (base := base) T
  have G_isname := ok_isname (P := P) (w := w) (base := base) T
  refine T.F_law.ok sc_law ln_law (fun cdv A outer s H vs Q E hr h => ⟨t_law K, PSs.nox ?_, rd_law T.kn vs H Q E h⟩)
  exact (pss_cons (ps_set (i := 1) sc_law.nd rfl (Or.inl rfl) (pe_call G_Ltape (hr.mono (by decide)) rfl T.m_Ltape T.F_Ltape.kp T.b_Ltape .nil passL (pa_cons (pv 0) (pa_cons pe_int pa_nil))))
      (pss_cons (ps_set (i := 2) sc_law.nd rfl (Or.inl rfl) (pe_call G_Lstring (hr.mono (by decide)) rfl T.m_Lstring T.F_Lstring.kp T.b_Lstring .nil passL (pa_cons (pv 1) pa_nil)))
      (pss_cons (ps_set (i := 3) sc_law.nd rfl (Or.inl rfl) (pe_call G_Lgood (hr.mono (by decide)) rfl T.m_Lgood T.F_Lgood.kp T.b_Lgood .nil passL (pa_cons (pv 2) pa_nil)))
      (pss_cons (ps_if (PW.pt (pw_or (pt_cmpR op_ne (pe_call G_isname (hr.mono (by decide)) rfl T.m_isname T.F_isname.kp T.b_isname .nil passL (pa_cons (pv 2) pa_nil)) (pv 3) (nomark _)) (pw_or1 (pt_cmpR (op_neD hr.units) (pe_glob rfl T.m_RESERVED rfl) (pe_callTy call_tuple_of (by rfl) T.n_tuple (by decide +kernel) (pa_cons (pe_call0 G_Lreserved (hr.mono (by decide)) rfl T.m_Lreserved T.F_Lreserved.kp T.b_Lreserved .nil passL) pa_nil)) (nomark _))))) (pss_one (ps_ret pe_bl)) pss_nil)
      (pss_cons (ps_set (i := 4) sc_law.nd rfl (Or.inl rfl) (pe_ifExp (pt_cmpR op_ne (pv 2) pe_str (nomark _)) pe_str pe_str))
      (pss_cons (ps_set (i := 5) sc_law.nd rfl (Or.inl rfl) (pe_ifExp (pt_cmpR op_ne (pv 2) pe_str (nomark _)) pe_str pe_str))
      (pss_cons (ps_set (i := 6) sc_law.nd rfl (Or.inl rfl) (pe_lst (pa_cons (pe_op op_add_str (pe_op op_add_str (pe_op op_add_str (pe_op op_add_str pe_str (pv 2)) pe_str) (pv 4)) pe_str) (pa_cons (pe_op op_add_str (pe_op op_add_str (pe_op op_add_str pe_str (pv 2)) pe_str) (pv 5)) (pa_cons (pe_op op_add_str (pe_op op_add_str (pe_op op_add_str pe_str (pv 5)) pe_str) (pv 2)) pa_nil)))))
      (pss_cons (ps_set (i := 6) sc_law.nd rfl (Or.inl rfl) (pe_op op_cat (pv 6) (pe_lst (pa_cons (pe_op op_add_str pe_str (pv 2)) (pa_cons (pe_op op_add_str pe_str (pv 2)) (pa_cons (pe_op op_add_str (pe_op op_add_str (pe_op op_add_str (pe_op op_add_str pe_str (pv 2)) pe_str) (pv 4)) pe_str) pa_nil))))))
      (pss_cons (ps_for PassesOwn.never rfl (pi_list (pv 6)) (pg_name (i := 7) sc_law.nd rfl (Or.inl rfl)) (pss_one (ps_if (pt_cmpR (op_neD hr.units) (pe_call G_Ltold (hr.mono (by decide)) rfl T.m_Ltold T.F_Ltold.kp T.b_Ltold .nil passL (pa_cons (pe_op op_add_str (pe_op op_add_str (pe_op op_add_str pe_str (pv 4)) pe_str) (pv 7)) pa_nil)) (pe_ifExp (pt_val (pv 3)) (pe_lst pa_nil) (pe_lst (pa_cons pe_int (pa_cons pe_bl pa_nil)))) (nomark _)) (pss_one (ps_ret pe_bl)) pss_nil)))
      (pss_cons (ps_if (pt_cmpR (op_neD hr.units) (pe_call G_Ltold (hr.mono (by decide)) rfl T.m_Ltold T.F_Ltold.kp T.b_Ltold .nil passL (pa_cons (pe_op op_add_str (pe_op op_add_str (pe_op op_add_str (pe_op op_add_str (pe_op op_add_str pe_str (pv 4)) pe_str) (pv 5)) pe_str) (pv 5)) pa_nil)) (pe_lst (pa_cons pe_int (pa_cons pe_bl pa_nil))) (nomark _)) (pss_one (ps_ret pe_bl)) pss_nil)
      (pss_cons (ps_if (pt_cmpR (op_neD hr.units) (pe_call G_Ltold (hr.mono (by decide)) rfl T.m_Ltold T.F_Ltold.kp T.b_Ltold .nil passL (pa_cons (pe_op op_add_str (pe_op op_add_str (pe_op op_add_str pe_str (pv 2)) pe_str) (pv 2)) pa_nil)) (pe_ifExp (pt_val (pv 3)) (pe_lst pa_nil) (pe_lst (pa_cons pe_int (pa_cons pe_bl pa_nil)))) (nomark _)) (pss_one (ps_ret pe_bl)) pss_nil)
      (pss_one (ps_ret (pe_cmpR (op_eqD hr.units) (pe_call G_Ltold (hr.mono (by decide)) rfl T.m_Ltold T.F_Ltold.kp T.b_Ltold .nil passL (pa_cons (pe_op op_add_str (pe_op op_add_str (pe_op op_add_str pe_str (pv 2)) pe_str) (pv 4)) pa_nil)) (pe_ifExp (pt_val (pv 3)) (pe_lst pa_nil) (pe_lst (pa_cons pe_int (pa_cons pe_bl pa_nil)))) (nomark _)))))))))))))))
theorem law_ok {P : Program} {w : World} {K : PySem.W.Frag} {h : Heap} {mg : Str → Option Value} {f : Addr} (X : K.In h) (G : h.Ns mainGlobals mg) (hP : PF P) (hf : mg ("law" : Str) = some (.ref f)) (c : SaysX fa fnD fx cl ts ex fileS w K) :
    ∃ fd : FuncData, (∀ (s : Shared) (v : Value), BindsTo s fd ⟨[v], []⟩ [("_law_script", v)]) ∧ ∀ base : Heap, K.In base → base.Ns mainGlobals mg → FnOk P w K mg base CX0 10 f fd ["_law_script"] (sp_law K) := by
  obtain ⟨T⟩ := tx_of hP X G c
  have e : f = He.ga K "law" := by
    have q := hf.symm.trans (He.glo_ok X G (c.s.d.fact 96 (f := .glo "law") rfl))
    cases q
    rfl
  subst e
  have b := FunD.bindsA (ps := ["_law_script"]) T.F_law fun _ _ _ _ _ _ us hl => match us, hl with | [_], _ => rfl
  exact ⟨T.fd_law, fun s v => b s [v] rfl, fun base _ _ => ok_law T⟩
end K33
open PySem PySem.W PySem.Calls PyProof.Rows
set_option maxRecDepth 100000 in
set_option maxHeartbeats 0 in
theorem PySem.Challenge.cw_halfmeshes_k33_names_holds : PySem.Challenge.rw_halfmeshes_k33_names.Holds := by
  w_on; o_law
  refine HandSHeadRun.head_any (r := OpenLaw.row PySem.Challenge.rw_halfmeshes_k33_names) (q := view (OpenLaw.row PySem.Challenge.rw_halfmeshes_k33_names).prog [65]) (H := K33.hk) (ob := K33.ob) (M := 9000) (loose := K33.lse) (d := HandSHeadRun.topDef (OpenLaw.row PySem.Challenge.rw_halfmeshes_k33_names).prog 65) (kwd := []) K33.ob_hk
    (by kernel_rfl) (fun s => by kernel_rfl) K33.top_run (by kernel_rfl) (by kernel_rfl) (by kernel_rfl) (by rfl) (by first | assumption | decide +kernel) (by decide +kernel) ⟨rfl, rfl, rfl, rfl, rfl, by decide +kernel⟩ ?witness ?theCall
  case witness => w_witness2
  case theCall =>
    refine L2.walk_ofE (l := PySem.Challenge.rw_halfmeshes_k33_names) (n := 63) (k := 10) (x := "_law_script") (CX := L2.CX0) rfl (by decide) (by kernel_rfl) ⟨rfl, by decide, by decide⟩ ?promise (fun _ _ _ _ z => z)
    intro w mg ad hp says G named
    obtain ⟨K, inK, facts⟩ := says
    have named2 : mg ("law" : PySem.Str) = some (.ref ad) := by
      have e : (HandSHeadRun.topDef (OpenLaw.row PySem.Challenge.rw_halfmeshes_k33_names).prog 65).name = ("law" : PySem.Str) := by kernel_rfl
      exact e ▸ named
    obtain ⟨fd, binds, keeps⟩ := K33.law_ok (P := (PySem.Challenge.rw_halfmeshes_k33_names).prog) (w := w) inK G ⟨rfl, by decide +kernel⟩ named2 facts
    exact ⟨K, fd, K33.sp_law K, inK, binds, fun H a zs hl _ hS => ⟨a, zs, rfl, hS, fun _ => rfl⟩, keeps⟩
#print axioms PySem.Challenge.cw_halfmeshes_k33_names_holds
