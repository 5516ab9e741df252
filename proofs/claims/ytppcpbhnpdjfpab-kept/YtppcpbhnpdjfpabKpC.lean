/-
  Store.Read.
-/
import Derived.Test.YtppcpbhnpdjfpabKpB
namespace Go.Proofs.Ytppcpbhnpdjfpab
open Go.RowKit

/-- How many of the first k features have an id up to a. -/
def cle (FL : List (Nat → Int)) (a : Int) : Nat → Nat
  | 0 => 0
  | k + 1 => if gf FL k 0 ≤ a then cle FL a k + 1 else cle FL a k
theorem cle_le (FL : List (Nat → Int)) (a : Int) : ∀ k, cle FL a k ≤ k
  | 0 => Nat.le_refl _
  | k + 1 => by rw [cle]; have := cle_le FL a k; split <;> omega
theorem cle_all {FL : List (Nat → Int)} {a : Int} : ∀ k, (∀ j, j < k → gf FL j 0 ≤ a) → cle FL a k = k
  | 0, _ => rfl
  | k + 1, h => by rw [cle, if_pos (h k (by omega)), cle_all k fun j hj => h j (by omega)]
theorem cle_none {FL : List (Nat → Int)} {a : Int} : ∀ k, (∀ j, j < k → a < gf FL j 0) → cle FL a k = 0
  | 0, _ => rfl
  | k + 1, h => by rw [cle, if_neg (by have := h k (by omega); omega), cle_none k fun j hj => h j (by omega)]
theorem cle_congr {FL : List (Nat → Int)} {a b : Int} : ∀ k, (∀ j, j < k → (gf FL j 0 ≤ a ↔ gf FL j 0 ≤ b)) → cle FL a k = cle FL b k
  | 0, _ => rfl
  | k + 1, h => by
    rw [cle, cle, cle_congr k fun j hj => h j (by omega)]
    by_cases c : gf FL k 0 ≤ a
    · rw [if_pos c, if_pos ((h k (by omega)).1 c)]
    · rw [if_neg c, if_neg (fun q => c ((h k (by omega)).2 q))]
theorem cle_more {FL : List (Nat → Int)} {a b : Int} (j0 : Nat) (h1 : ¬ gf FL j0 0 ≤ a) (h2 : gf FL j0 0 ≤ b) : ∀ k, j0 < k → (∀ j, j < k → j ≠ j0 → (gf FL j 0 ≤ a ↔ gf FL j 0 ≤ b)) → cle FL b k = cle FL a k + 1
  | 0, h, _ => by omega
  | k + 1, h, hi => by
    by_cases e : j0 = k
    · subst e
      rw [cle, cle, if_pos h2, if_neg h1, cle_congr j0 fun j hj => hi j (by omega) (by omega)]
    · rw [cle, cle, cle_more j0 h1 h2 k (by omega) fun j hj => hi j (by omega)]
      by_cases c : gf FL k 0 ≤ a
      · rw [if_pos c, if_pos ((hi k (by omega) (fun q => e q.symm)).1 c)]
      · rw [if_neg c, if_neg (fun q => c ((hi k (by omega) (fun q => e q.symm)).2 q))]
/-- The lives of a version, and its features. -/
structure RelV (v : Int) (LS FL : List (Nat → Int)) : Prop where
  fwd : ∀ i, i < LS.length → inV v (gf LS i) = true → ∃ j, j < FL.length ∧ SF (gf LS i) (gf FL j)
  fro : ∀ j, j < FL.length → ∃ i, i < LS.length ∧ inV v (gf LS i) = true ∧ SF (gf LS i) (gf FL j)
  rt : ∀ j, j < FL.length → Rt (gf FL j)
  dis : ∀ j j', j < FL.length → j' < FL.length → gf FL j 0 = gf FL j' 0 → j = j'
  le40 : FL.length ≤ 40
theorem RelV.found {v a : Int} {LS FL : List (Nat → Int)} {T : Nat → Int} (h : RelV v LS FL) (hN : Nx LS v a LS.length true T) : ∃ j, j < FL.length ∧ SF T (gf FL j) ∧ a < T 0 ∧ cle FL (T 0) FL.length = cle FL a FL.length + 1 := by
  rcases hN with ⟨e, _⟩ | ⟨_, i, hi, hc, rfl, hm⟩
  · cases e
  · obtain ⟨j, hj, hs⟩ := h.fwd i hi hc.1
    have e0 := hs 0 (by omega)
    refine ⟨j, hj, hs, hc.2, ?_⟩
    have ha := hc.2
    refine cle_more j (by rw [← e0]; omega) (by rw [← e0]; exact Int.le_refl _) _ hj fun q hq hne => ⟨fun hh => by omega, fun hh => ?_⟩
    by_cases c : gf FL q 0 ≤ a
    · exact c
    · exfalso
      obtain ⟨i', hi', hin', hs'⟩ := h.fro q hq
      have e1 := hs' 0 (by omega)
      have := hm i' hi' ⟨hin', by omega⟩
      exact hne (h.dis q j hq hj (by omega))
theorem RelV.ended {v a : Int} {LS FL : List (Nat → Int)} {T : Nat → Int} (h : RelV v LS FL) (hN : Nx LS v a LS.length false T) : cle FL a FL.length = FL.length := by
  rcases hN with ⟨_, hno⟩ | ⟨e, _⟩
  · refine cle_all _ fun j hj => ?_
    obtain ⟨i, hi, hin, hs⟩ := h.fro j hj
    have e0 := hs 0 (by omega)
    by_cases c : gf FL j 0 ≤ a
    · exact c
    · exact absurd ⟨hin, by omega⟩ (hno i hi)
  · cases e
/-- The id ahead of the i-th that is read. -/
def pid (a : Int) (R : List (Nat → Int)) : Nat → Int
  | 0 => a
  | i + 1 => gf R i 0
structure RdP (FL : List (Nat → Int)) (a : Int) (R : List (Nat → Int)) : Prop where
  mem : ∀ i, i < R.length → ∃ j, j < FL.length ∧ SF (gf R i) (gf FL j)
  ris : ∀ i, i < R.length → pid a R i < gf R i 0
  cnt : cle FL (pid a R R.length) FL.length = cle FL a FL.length + R.length
theorem pid_left {a : Int} {R : List (Nat → Int)} {f : Nat → Int} {i : Nat} (h : i ≤ R.length) : pid a (R ++ [f]) i = pid a R i := by
  cases i with
  | zero => rfl
  | succ i => show gf (R ++ [f]) i 0 = gf R i 0; rw [gf_left (by omega)]
theorem rdP_nil (FL : List (Nat → Int)) (a : Int) : RdP FL a [] := ⟨fun i hi => by simp at hi, fun i hi => by simp at hi, by simp [pid]⟩
theorem RdP.add {FL R : List (Nat → Int)} {a : Int} {T : Nat → Int} (h : RdP FL a R) (hT : ∃ j, j < FL.length ∧ SF T (gf FL j) ∧ pid a R R.length < T 0 ∧ cle FL (T 0) FL.length = cle FL (pid a R R.length) FL.length + 1) : RdP FL a (R ++ [T]) := by
  obtain ⟨j, hj, hs, hlt, hc⟩ := hT
  refine ⟨fun i hi => ?_, fun i hi => ?_, ?_⟩
  · by_cases c : i < R.length
    · rw [gf_left c]; exact h.mem i c
    · have : i = R.length := by simp at hi; omega
      subst this; rw [gf_last]; exact ⟨j, hj, hs⟩
  · by_cases c : i < R.length
    · rw [gf_left c, pid_left (by omega)]; exact h.ris i c
    · have : i = R.length := by simp at hi; omega
      subst this; rw [gf_last, pid_left (Nat.le_refl _)]; exact hlt
  · rw [List.length_append, List.length_singleton]
    show cle FL (gf (R ++ [T]) R.length 0) FL.length = _
    rw [gf_last, hc, h.cnt]; omega
theorem ownC_empty (T : TypeId) (m : Nat) (w : World) (B : Nat) (hB : B ≤ w.heap.size) : OwnC T m (w.alloc (.cells #[] T)) B (.slice (some ⟨w.heap.size, 0, none⟩) 0 0) [] :=
  ⟨by simp [fl], Or.inr ⟨w.heap.size, 0, #[], rfl, hB, heap_alloc_new w (.cells #[] T (0, 0)), Nat.le_refl _, by unfold maxLen; omega, by simp, by simp [fl]⟩⟩

set_option maxHeartbeats 1600000 in
theorem Read_no (sb : Nat) (keep ver : Int) (sl pv : Value) (LS PL : List (Nat → Int)) (v a n : Int) (w : World) (hs : StP w sb keep ver sl pv LS PL) (hp : PL.length ≤ 100) (hk : 0 ≤ keep ∧ keep ≤ 4) (hv : 0 ≤ ver ∧ ver ≤ 100) (hh : heldB keep ver PL v = false) :
    Calls Try.prog 23 #[.pointer (some ⟨sb, 0, none⟩), .int .i64 v, .int .i64 a, .int .i64 n] w fun e w' => e = .returned (.tuple #[.slice none 0 0, .int .i64 12]) ∧ Below w.heap.size w w' := by
  have H := isHeld_any sb keep ver sl pv LS PL v w hs hp hk hv
  rw [hh] at H
  clear hs
  go_enter Try.func23, Try.ntmps23
  go_wp2_with fail
  refine H.mono ?_
  rintro e w1 ⟨rfl, hb1⟩
  have HB := hide hb1
  clear hb1
  go_wp2_with fail
  go_ret2
  exact ⟨rfl, unhide HB⟩

set_option maxHeartbeats 6400000 in
theorem Read_any (sb : Nat) (keep ver : Int) (sl pv : Value) (LS PL FL : List (Nat → Int)) (v a : Int) (n : Nat) (w : World) (hs : StP w sb keep ver sl pv LS PL) (hl : LS.length ≤ 1000) (hp : PL.length ≤ 100) (hk : 0 ≤ keep ∧ keep ≤ 4) (hv : 0 ≤ ver ∧ ver ≤ 100) (hh : heldB keep ver PL v = true)
    (hR : RelV v LS FL) (hn : 1 ≤ n ∧ n ≤ 8) :
    Calls Try.prog 23 #[.pointer (some ⟨sb, 0, none⟩), .int .i64 v, .int .i64 a, .int .i64 n] w fun e w' => (∃ R rv, e = .returned (.tuple #[rv, .int .i64 0]) ∧ OwnC 54 24 w' w.heap.size rv R ∧ RdP FL a R ∧ R.length ≤ n ∧ (R.length = n ∨ cle FL (pid a R R.length) FL.length = FL.length)) ∧ Below w.heap.size w w' := by
  have H := isHeld_any sb keep ver sl pv LS PL v w hs hp hk hv
  rw [hh] at H
  have HS := hide hs
  have HR := hide hR
  have n1 : ¬ (n : Int) < 1 := by omega
  have n2 : ¬ (8 : Int) < n := by omega
  clear hs hR
  go_enter Try.func23, Try.ntmps23
  go_wp2_with fail
  refine H.mono ?_
  rintro e w1 ⟨rfl, hb1⟩
  have HO1 := hide (ownC_empty 54 24 w1 w.heap.size hb1.size)
  have hz1 : w.heap.size ≤ w1.heap.size := hb1.size
  have HB1 := hide (hb1.alloc hb1.size (.cells #[] 54))
  clear hb1 H
  go_wp2_with fail
  go_loopw [2, 10, 11, 12, 13] (fun av cv i _ _ wr => ∃ R : List (Nat → Int), R.length ≤ n ∧ i = .int .i64 R.length ∧ Hid (av = .int .i64 (pid a R R.length)) ∧ OwnC 54 24 wr w.heap.size cv R ∧ Hid (RdP FL a R) ∧ Below w.heap.size w wr) (fun _ _ i _ _ _ => n - (intOf i).toNat)
  case atStart => exact ⟨[], by simp, rfl, hide rfl, unhide HO1, hide (rdP_nil FL a), unhide HB1⟩
  case round =>
    obtain ⟨R, hRn, rfl, hav, ho, hRd, hb⟩ := hrel
    obtain ⟨A, hA⟩ : ∃ A, pid a R R.length = A := ⟨_, rfl⟩
    have hav' := unhide hav
    rw [hA] at hav'
    subst hav'
    clear hav
    by_cases hlt : R.length < n
    · have hkn : (R.length : Int) < n := by omega
      have HNX := hide (next_any sb keep ver sl pv LS PL v A wr ((unhide HS).on (hb.mono (Nat.le_refl _))) hl)
      have HO := hide ho
      have HBr := hide hb
      clear ho hb
      go_wp2_with fail
      refine (unhide HNX).mono ?_
      rintro e w2 ⟨⟨fnd, T, rfl, hNx⟩, hb2⟩
      have hAl := heap_alloc_new w2 (.cells (fc zf) 54 (0, 0))
      have hA1 := setRow_heap _ _ _ (fc T) _ _ hAl
      have hbw := (unhide HBr).trans (hb2.mono (unhide HBr).size)
      have hsz : w.heap.size ≤ w2.heap.size := hbw.size
      have hb3 := below_setRow (below_alloc hbw (Nat.le_refl _) (.cells (fc zf) 54)) hsz (fc T)
      have ho2 := (unhide HO).on hb2
      have ho3 : OwnC 54 24 ((w2.alloc (.cells (fc zf) 54)).setRow w2.heap.size (fc T)) w.heap.size u10 R := (ho2.alloc (.cells (fc zf) 54)).same (fun g hg => setRow_other (by have := (ho2.lt g hg).2; omega) _)
      have hz3 : w.heap.size ≤ ((w2.alloc (.cells (fc zf) 54)).setRow w2.heap.size (fc T)).heap.size := hb3.size
      have hz2 : wr.heap.size ≤ w2.heap.size := hb2.size
      have HNx := hide hNx
      have HB3 := hide hb3
      have HO3 := hide ho3
      clear hb2 hbw hb3 ho2 hNx HNX
      cases fnd with
      | false =>
        have HE := hide ((unhide HR).ended (unhide HNx))
        go_wp2_with (first | refine al26 rfl rfl w2.heap.size rfl ?_ | refine st26 rfl _ _ rfl w2.heap.size T rfl rfl zf hAl ?_)
        go_ret2
        exact ⟨⟨R, _, rfl, unhide HO3, unhide hRd, by omega, Or.inr (by rw [hA]; exact unhide HE)⟩, unhide HB3⟩
      | true =>
        have HE := hide ((unhide HR).found (unhide HNx))
        have hA1c := blk_cells hA1
        have f0 := fc_at T 0 (by decide)
        obtain ⟨I, hI⟩ : ∃ I, T 0 = I := ⟨_, rfl⟩
        rw [hI] at f0
        have hA4 := heap_alloc_new ((w2.alloc (.cells (fc zf) 54)).setRow w2.heap.size (fc T)) (.cells (fc T) 54 (0, 0))
        obtain ⟨v7, w7, hr7, ho7, hg7⟩ := run_apF (((w2.alloc (.cells (fc zf) 54)).setRow w2.heap.size (fc T)).alloc (.cells (fc T) 54)) w.heap.size u10 R [T] (ho3.alloc _) ((w2.alloc (.cells (fc zf) 54)).setRow w2.heap.size (fc T)).heap.size 0 1 (fun i hi j hj => by
          obtain rfl : i = 0 := by simp at hi; omega
          rw [blk_cells hA4]
          simpa [gf] using fc_at T j hj) (by simp; omega) (by simp; omega)
        have hb7 := ((unhide HB3).alloc hz3 (.cells (fc T) 54)).grown hg7 (by simp; omega) (fun q hq => (ho3.lt q hq).1)
        have hc7 : w7.cell? ⟨w2.heap.size, 0, none⟩ = some (.int .i64 I) := by
          have hl2 : w2.heap.size < ((w2.alloc (.cells (fc zf) 54)).setRow w2.heap.size (fc T)).heap.size := (Array.getElem?_eq_some_iff.1 hA1).1
          rw [World.cell?_of_block (a := ⟨w2.heap.size, 0, none⟩) ((hg7.block w2.heap.size (by simp; omega) (fun e => by have := ((unhide HO).lt w2.heap.size e.symm).2; omega)).trans (Below.heap_alloc _ _ _ hl2)), hA1c 0]
          exact f0
        have HB7 := hide hb7
        have HO7 := hide ho7
        clear hb7 ho7 hg7 hA4 ho3 hA1c
        go_wp2_with (first | refine al26 rfl rfl w2.heap.size rfl ?_ | refine st26 rfl _ _ rfl w2.heap.size T rfl rfl zf hAl ?_ | refine ld26 rfl _ rfl _ rfl T hA1 ?_ | refine bs34 rfl _ rfl T rfl _ rfl ?_ | (at_builtin; refine wl_apF hr7 rfl (.tmp 40) (.tmp 42) rfl rfl rfl rfl ?_))
        go_roundw
        case rel => exact ⟨R ++ [T], by simp; omega, by simp, hide (by rw [List.length_append, List.length_singleton]; show _ = Value.int .i64 (gf (R ++ [T]) R.length 0); rw [gf_last, hI]), unhide HO7, hide ((unhide hRd).add (by rw [hA]; exact unhide HE)), unhide HB7⟩
        case measure => simp [intOf]; omega
    · have hkn : R.length = n := by omega
      have hkn' : ¬ (R.length : Int) < n := by omega
      go_wp2_with fail
      go_ret2
      exact ⟨⟨R, _, rfl, ho, unhide hRd, by omega, Or.inl hkn⟩, hb⟩
end Go.Proofs.Ytppcpbhnpdjfpab
