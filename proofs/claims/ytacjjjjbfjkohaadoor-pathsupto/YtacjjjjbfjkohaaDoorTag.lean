/-
  wire.Tag, atlasref.Tag, atlaslaw.printed, atlaslaw.Paths: what they answer.
-/
import Derived.Test.YtacjjjjbfjkohaaDoorPrint
namespace Go.Proofs.YtacjjjjbfjkohaaDoor
open Go.RowKit

theorem tab_on {w W : World} (hT : Tab w) (hb : Below w.heap.size w W) : Tab W := fun w' hb' => hT w' (hb.trans (hb'.mono hb.size))
theorem below_one (w : World) (o : Obj) : Below w.heap.size w (w.alloc o) := (Below.refl _ _).alloc (Nat.le_refl _) _

set_option maxHeartbeats 800000 in
theorem tag_no (l z x y v : Int) (w : World) (h : ¬ Pp.keyErr l z x y = 0) :
    Calls Tryd.prog 10 #[.agg #[.int .i64 l, .int .i64 z, .int .i64 x, .int .i64 y], .int .i64 v] w fun e w' => e = .returned (.tuple #[.string ⟨#[]⟩, .int .i64 (Pp.keyErr l z x y)]) ∧ Below w.heap.size w w' := by
  go_enter Tryd.func10, Tryd.ntmps10
  go_wp2_with fail
  refine (print_no l z x y _ h).mono ?_
  rintro e w1 ⟨rfl, hb⟩
  have hB : Below w.heap.size w w1 := ((Below.refl _ _).alloc (Nat.le_refl _) _).trans (hb.mono (by simp))
  have HB := hide hB
  clear hb hB
  obtain ⟨E, hE⟩ : ∃ E, Pp.keyErr l z x y = E := ⟨_, rfl⟩
  rw [hE] at h ⊢
  have HE := hide hE
  clear hE
  have hbe : (E != 0) = true := by rw [bne_iff_ne]; exact h
  clear h
  go_wp2_with fail
  go_ret2
  exact ⟨by rw [unhide HE]; rfl, unhide HB⟩

set_option maxHeartbeats 800000 in
theorem tag_out (l z x y : Nat) (v : Int) (w : World) (hl : l < 4) (hz : z ≤ 1000000) (hx : x ≤ 10000000) (hy : y ≤ 10000000) (h : Pp.keyErr l z x y = 0) (hN : Nm w) (hT : Tab w) (hv : v < 0 ∨ 100 < v) :
    Calls Tryd.prog 10 #[.agg #[.int .i64 l, .int .i64 z, .int .i64 x, .int .i64 y], .int .i64 v] w fun e w' => e = .returned (.tuple #[.string ⟨#[]⟩, .int .i64 12]) ∧ Below w.heap.size w w' := by
  have HK := hide h
  clear h
  have HN := hide hN
  have HT := hide hT
  clear hN hT
  by_cases hv0 : v < 0
  · clear hv
    go_enter Tryd.func10, Tryd.ntmps10
    go_wp2_with fail
    refine (print_yes l z x y _ hl hz hx hy (unhide HK) ((unhide HN).on (below_one _ _)) (tab_on (unhide HT) (below_one _ _))).mono ?_
    rintro e w1 ⟨⟨P, rfl, hP, sP⟩, hb⟩
    have hB : Below w.heap.size w w1 := ((Below.refl _ _).alloc (Nat.le_refl _) _).trans (hb.mono (by simp))
    have HB := hide hB
    clear hb hB hP
    go_wp2_with fail
    go_ret2
    exact ⟨rfl, unhide HB⟩
  · have hv1 : 100 < v := by omega
    clear hv
    go_enter Tryd.func10, Tryd.ntmps10
    go_wp2_with fail
    refine (print_yes l z x y _ hl hz hx hy (unhide HK) ((unhide HN).on (below_one _ _)) (tab_on (unhide HT) (below_one _ _))).mono ?_
    rintro e w1 ⟨⟨P, rfl, hP, sP⟩, hb⟩
    have hB : Below w.heap.size w w1 := ((Below.refl _ _).alloc (Nat.le_refl _) _).trans (hb.mono (by simp))
    have HB := hide hB
    clear hb hB hP
    go_wp2_with fail
    go_ret2
    exact ⟨rfl, unhide HB⟩

set_option maxHeartbeats 800000 in
theorem tag_yes (l z x y v : Nat) (w : World) (hl : l < 4) (hz : z ≤ 1000000) (hx : x ≤ 10000000) (hy : y ≤ 10000000) (h : Pp.keyErr l z x y = 0) (hN : Nm w) (hT : Tab w) (hv : v ≤ 100) :
    Calls Tryd.prog 10 #[.agg #[.int .i64 l, .int .i64 z, .int .i64 x, .int .i64 y], .int .i64 v] w fun e w' => (∃ T : ByteArray, e = .returned (.tuple #[.string T, .int .i64 0]) ∧ T.data.toList = printL l z x y ++ 64 :: Lib.decDigits v) ∧ Below w.heap.size w w' := by
  have HK := hide h
  clear h
  have HN := hide hN
  have HT := hide hT
  clear hN hT
  go_enter Tryd.func10, Tryd.ntmps10
  go_wp2_with fail
  refine (print_yes l z x y _ hl hz hx hy (unhide HK) ((unhide HN).on (below_one _ _)) (tab_on (unhide HT) (below_one _ _))).mono ?_
  rintro e w1 ⟨⟨P, rfl, hP, sP⟩, hb⟩
  have hB : Below w.heap.size w w1 := ((Below.refl _ _).alloc (Nat.le_refl _) _).trans (hb.mono (by simp))
  have HB := hide hB
  have HP := hide hP
  clear hb hB hP
  go_wp2_with fail
  refine (itoa_at v w w1 (by omega) (unhide HT) (unhide HB)).mono ?_
  rintro e w2 ⟨⟨D, rfl, hD, sD⟩, hb2⟩
  have hB2 : Below w.heap.size w w2 := (unhide HB).trans (hb2.mono (unhide HB).size)
  have HB2 := hide hB2
  have HD := hide hD
  clear hb2 hB2 hD
  go_wp2_with fail
  go_ret2
  refine ⟨⟨_, rfl, ?_⟩, unhide HB2⟩
  simp [unhide HP, unhide HD]

set_option maxHeartbeats 800000 in
theorem refTag_no (l z x y v : Int) (w : World) (h : ¬ Pp.keyErr l z x y = 0) :
    Calls Tryd.prog 11 #[.agg #[.int .i64 l, .int .i64 z, .int .i64 x, .int .i64 y], .int .i64 v] w fun e w' => e = .returned (.tuple #[.string ⟨#[]⟩, .int .i64 (Pp.keyErr l z x y)]) ∧ Below w.heap.size w w' := by
  go_enter Tryd.func11, Tryd.ntmps11
  go_wp2_with fail
  refine (refPrint_no l z x y _ h).mono ?_
  rintro e w1 ⟨rfl, hb⟩
  have hB : Below w.heap.size w w1 := ((Below.refl _ _).alloc (Nat.le_refl _) _).trans (hb.mono (by simp))
  have HB := hide hB
  clear hb hB
  obtain ⟨E, hE⟩ : ∃ E, Pp.keyErr l z x y = E := ⟨_, rfl⟩
  rw [hE] at h ⊢
  have HE := hide hE
  clear hE
  have hbe : (E != 0) = true := by rw [bne_iff_ne]; exact h
  clear h
  go_wp2_with fail
  go_ret2
  exact ⟨by rw [unhide HE]; rfl, unhide HB⟩

set_option maxHeartbeats 800000 in
theorem refTag_out (l z x y : Nat) (v : Int) (w : World) (hl : l < 4) (hz : z ≤ 1000000) (hx : x ≤ 10000000) (hy : y ≤ 10000000) (h : Pp.keyErr l z x y = 0) (hv : v < 0 ∨ 100 < v) :
    Calls Tryd.prog 11 #[.agg #[.int .i64 l, .int .i64 z, .int .i64 x, .int .i64 y], .int .i64 v] w fun e w' => e = .returned (.tuple #[.string ⟨#[]⟩, .int .i64 12]) ∧ Below w.heap.size w w' := by
  have HK := hide h
  clear h
  by_cases hv0 : v < 0
  · clear hv
    go_enter Tryd.func11, Tryd.ntmps11
    go_wp2_with fail
    refine (refPrint_yes l z x y _ hl hz hx hy (unhide HK)).mono ?_
    rintro e w1 ⟨⟨P, rfl, hP, sP⟩, hb⟩
    have hB : Below w.heap.size w w1 := ((Below.refl _ _).alloc (Nat.le_refl _) _).trans (hb.mono (by simp))
    have HB := hide hB
    clear hb hB hP
    go_wp2_with fail
    go_ret2
    exact ⟨rfl, unhide HB⟩
  · have hv1 : 100 < v := by omega
    clear hv
    go_enter Tryd.func11, Tryd.ntmps11
    go_wp2_with fail
    refine (refPrint_yes l z x y _ hl hz hx hy (unhide HK)).mono ?_
    rintro e w1 ⟨⟨P, rfl, hP, sP⟩, hb⟩
    have hB : Below w.heap.size w w1 := ((Below.refl _ _).alloc (Nat.le_refl _) _).trans (hb.mono (by simp))
    have HB := hide hB
    clear hb hB hP
    go_wp2_with fail
    go_ret2
    exact ⟨rfl, unhide HB⟩

set_option maxHeartbeats 800000 in
theorem refTag_yes (l z x y v : Nat) (w : World) (hl : l < 4) (hz : z ≤ 1000000) (hx : x ≤ 10000000) (hy : y ≤ 10000000) (h : Pp.keyErr l z x y = 0) (hv : v ≤ 100) :
    Calls Tryd.prog 11 #[.agg #[.int .i64 l, .int .i64 z, .int .i64 x, .int .i64 y], .int .i64 v] w fun e w' => (∃ T : ByteArray, e = .returned (.tuple #[.string T, .int .i64 0]) ∧ T.data.toList = printL l z x y ++ 64 :: Lib.decDigits v) ∧ Below w.heap.size w w' := by
  have HK := hide h
  clear h
  go_enter Tryd.func11, Tryd.ntmps11
  go_wp2_with fail
  refine (refPrint_yes l z x y _ hl hz hx hy (unhide HK)).mono ?_
  rintro e w1 ⟨⟨P, rfl, hP, sP⟩, hb⟩
  have hB : Below w.heap.size w w1 := ((Below.refl _ _).alloc (Nat.le_refl _) _).trans (hb.mono (by simp))
  have HB := hide hB
  have HP := hide hP
  clear hb hB hP
  go_wp2_with fail
  refine (digits_at v _ (by omega)).mono ?_
  rintro e w2 ⟨⟨D, rfl, hD, sD⟩, hb2⟩
  have hB2 : Below w.heap.size w w2 := (unhide HB).trans (hb2.mono (unhide HB).size)
  have HB2 := hide hB2
  have HD := hide hD
  clear hb2 hB2 hD
  go_wp2_with fail
  go_ret2
  refine ⟨⟨_, rfl, ?_⟩, unhide HB2⟩
  simp [unhide HP, unhide HD]

end Go.Proofs.YtacjjjjbfjkohaaDoor
