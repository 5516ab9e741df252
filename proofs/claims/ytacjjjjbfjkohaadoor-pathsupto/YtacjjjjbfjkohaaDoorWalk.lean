/-
  atlaslaw.printed, atlaslaw.Paths: what they answer.
-/
import Derived.Test.YtacjjjjbfjkohaaDoorTag
namespace Go.Proofs.YtacjjjjbfjkohaaDoor
open Go.RowKit

theorem keyErr_zero (l z x y : Int) (h : Pp.keyErr l z x y = 0) : (0 ≤ l ∧ l ≤ 3) ∧ (0 ≤ z ∧ z ≤ 22) ∧ (0 ≤ x ∧ x < 4194304) ∧ (0 ≤ y ∧ y < 4194304) := by
  unfold Pp.keyErr at h
  by_cases h1 : l < 0 ∨ 3 < l
  · rw [if_pos h1] at h; cases h
  rw [if_neg h1] at h
  by_cases h2 : z < 0 ∨ 22 < z
  · rw [if_pos h2] at h; cases h
  rw [if_neg h2] at h
  obtain ⟨p1, p2⟩ := pow_cap z (by omega)
  by_cases h3 : x < 0 ∨ (2 : Int) ^ z.toNat ≤ x ∨ y < 0 ∨ (2 : Int) ^ z.toNat ≤ y
  · rw [if_pos h3] at h; cases h
  omega
theorem beq_str (P Q : ByteArray) (l : List UInt8) (h : P.data.toList = l) (h' : Q.data.toList = l) : (P.toList == Q.toList) = true := by
  rw [ByteArray.toList_eq, ByteArray.toList_eq, h, h']; simp

/-- The key lies in its box, whatever its numbers are. -/
structure KI (w : World) (l z x y : Int) (W : World) : Prop where
  kl : W.cell? ⟨w.heap.size, 0, none⟩ = some (.int .i64 l)
  kz : W.cell? ⟨w.heap.size, 1, none⟩ = some (.int .i64 z)
  kx : W.cell? ⟨w.heap.size, 2, none⟩ = some (.int .i64 x)
  ky : W.cell? ⟨w.heap.size, 3, none⟩ = some (.int .i64 y)
  wl : w.heap.size < W.heap.size
  bel : Below w.heap.size w W
theorem KI.start (w : World) (l z x y : Int) : KI w l z x y (w.alloc (.cells #[.int .i64 l, .int .i64 z, .int .i64 x, .int .i64 y] 23)) := by
  refine ⟨?_, ?_, ?_, ?_, ?_, ?_⟩
  all_goals first
    | exact (Below.refl _ _).alloc (Nat.le_refl _) _
    | simp [go_sem]
theorem KI.on {w W W' : World} {l z x y : Int} (h : KI w l z x y W) (hb : Below W.heap.size W W') : KI w l z x y W' := by
  have hs := hb.size
  have hw := h.wl
  exact ⟨(hb.cell (p := ⟨w.heap.size, 0, none⟩) hw).trans h.kl, (hb.cell (p := ⟨w.heap.size, 1, none⟩) hw).trans h.kz, (hb.cell (p := ⟨w.heap.size, 2, none⟩) hw).trans h.kx, (hb.cell (p := ⟨w.heap.size, 3, none⟩) hw).trans h.ky, by omega, h.bel.trans (hb.mono (by omega))⟩

set_option maxHeartbeats 1600000 in
theorem printed_bad (l z x y v : Int) (w : World) (h : ¬ Pp.keyErr l z x y = 0) :
    Calls Tryd.prog 5 #[.agg #[.int .i64 l, .int .i64 z, .int .i64 x, .int .i64 y], .int .i64 v] w fun e w' => e = .returned (.bool true) ∧ Below w.heap.size w w' := by
  have H := hide h
  clear h
  go_enter Tryd.func5, Tryd.ntmps5
  go_wp2_with fail
  refine (print_no l z x y _ (unhide H)).mono ?_
  rintro e w1 ⟨rfl, hb1⟩
  have hI1 := (KI.start w l z x y).on hb1
  have HI1 := hide hI1
  obtain ⟨kl, kz, kx, ky, wl, bel⟩ := hI1
  clear hb1 bel
  go_wp2_with fail
  refine (refPrint_no l z x y _ (unhide H)).mono ?_
  rintro e w2 ⟨rfl, hb2⟩
  have hI2 := (unhide HI1).on hb2
  clear kl kz kx ky wl HI1 hb2
  have HI2 := hide hI2
  obtain ⟨kl, kz, kx, ky, wl, bel⟩ := hI2
  clear bel
  go_wp2_with fail
  refine (tag_no l z x y v _ (unhide H)).mono ?_
  rintro e w3 ⟨rfl, hb3⟩
  have hI3 := (unhide HI2).on hb3
  clear kl kz kx ky wl HI2 hb3
  have HI3 := hide hI3
  obtain ⟨kl, kz, kx, ky, wl, bel⟩ := hI3
  clear bel
  go_wp2_with fail
  refine (refTag_no l z x y v _ (unhide H)).mono ?_
  rintro e w4 ⟨rfl, hb4⟩
  have hB := hide ((unhide HI3).on hb4).bel
  clear kl kz kx ky wl HI3 hb4
  go_wp2_with fail
  go_ret
  exact ⟨rfl, unhide hB⟩

set_option maxHeartbeats 1600000 in
theorem printed_out (l z x y : Nat) (v : Int) (w : World) (hl : l < 4) (hz : z ≤ 1000000) (hx : x ≤ 10000000) (hy : y ≤ 10000000) (h : Pp.keyErr l z x y = 0) (hN : Nm w) (hT : Tab w) (hv : v < 0 ∨ 100 < v) :
    Calls Tryd.prog 5 #[.agg #[.int .i64 l, .int .i64 z, .int .i64 x, .int .i64 y], .int .i64 v] w fun e w' => e = .returned (.bool true) ∧ Below w.heap.size w w' := by
  have H := hide h
  have HN := hide hN
  have HT := hide hT
  have HV := hide hv
  clear h hN hT hv
  go_enter Tryd.func5, Tryd.ntmps5
  go_wp2_with fail
  refine (print_yes l z x y _ hl hz hx hy (unhide H) ((unhide HN).on (below_one _ _)) (tab_on (unhide HT) (below_one _ _))).mono ?_
  rintro e w1 ⟨⟨P, rfl, hP, sP⟩, hb1⟩
  have HP := hide hP
  have hI1 := (KI.start w l z x y).on hb1
  have HI1 := hide hI1
  obtain ⟨kl, kz, kx, ky, wl, bel⟩ := hI1
  clear hb1 bel hP
  go_wp2_with fail
  refine (refPrint_yes l z x y _ hl hz hx hy (unhide H)).mono ?_
  rintro e w2 ⟨⟨Q, rfl, hQ, sQ⟩, hb2⟩
  have HQ := hide hQ
  have hI2 := (unhide HI1).on hb2
  clear kl kz kx ky wl HI1 hb2 hQ
  have HI2 := hide hI2
  obtain ⟨kl, kz, kx, ky, wl, bel⟩ := hI2
  clear bel
  go_wp2_with fail
  refine (tag_out l z x y v _ hl hz hx hy (unhide H) ((unhide HN).on (unhide HI2).bel) (tab_on (unhide HT) (unhide HI2).bel) (unhide HV)).mono ?_
  rintro e w3 ⟨rfl, hb3⟩
  have hI3 := (unhide HI2).on hb3
  clear kl kz kx ky wl HI2 hb3
  have HI3 := hide hI3
  obtain ⟨kl, kz, kx, ky, wl, bel⟩ := hI3
  clear bel
  go_wp2_with fail
  refine (refTag_out l z x y v _ hl hz hx hy (unhide H) (unhide HV)).mono ?_
  rintro e w4 ⟨rfl, hb4⟩
  have hB := hide ((unhide HI3).on hb4).bel
  clear kl kz kx ky wl HI3 hb4
  have hpq := beq_str P Q _ (unhide HP) (unhide HQ)
  go_wp2_with fail
  go_ret
  exact ⟨rfl, unhide hB⟩

set_option maxHeartbeats 1600000 in
theorem printed_yes (l z x y v : Nat) (w : World) (hl : l < 4) (hz : z ≤ 1000000) (hx : x ≤ 10000000) (hy : y ≤ 10000000) (h : Pp.keyErr l z x y = 0) (hN : Nm w) (hT : Tab w) (hv : v ≤ 100) :
    Calls Tryd.prog 5 #[.agg #[.int .i64 l, .int .i64 z, .int .i64 x, .int .i64 y], .int .i64 v] w fun e w' => e = .returned (.bool true) ∧ Below w.heap.size w w' := by
  have H := hide h
  have HN := hide hN
  have HT := hide hT
  clear h hN hT
  go_enter Tryd.func5, Tryd.ntmps5
  go_wp2_with fail
  refine (print_yes l z x y _ hl hz hx hy (unhide H) ((unhide HN).on (below_one _ _)) (tab_on (unhide HT) (below_one _ _))).mono ?_
  rintro e w1 ⟨⟨P, rfl, hP, sP⟩, hb1⟩
  have HP := hide hP
  have hI1 := (KI.start w l z x y).on hb1
  have HI1 := hide hI1
  obtain ⟨kl, kz, kx, ky, wl, bel⟩ := hI1
  clear hb1 bel hP
  go_wp2_with fail
  refine (refPrint_yes l z x y _ hl hz hx hy (unhide H)).mono ?_
  rintro e w2 ⟨⟨Q, rfl, hQ, sQ⟩, hb2⟩
  have HQ := hide hQ
  have hI2 := (unhide HI1).on hb2
  clear kl kz kx ky wl HI1 hb2 hQ
  have HI2 := hide hI2
  obtain ⟨kl, kz, kx, ky, wl, bel⟩ := hI2
  clear bel
  go_wp2_with fail
  refine (tag_yes l z x y v _ hl hz hx hy (unhide H) ((unhide HN).on (unhide HI2).bel) (tab_on (unhide HT) (unhide HI2).bel) hv).mono ?_
  rintro e w3 ⟨⟨S, rfl, hS⟩, hb3⟩
  have HS := hide hS
  have hI3 := (unhide HI2).on hb3
  clear kl kz kx ky wl HI2 hb3 hS
  have HI3 := hide hI3
  obtain ⟨kl, kz, kx, ky, wl, bel⟩ := hI3
  clear bel
  go_wp2_with fail
  refine (refTag_yes l z x y v _ hl hz hx hy (unhide H) hv).mono ?_
  rintro e w4 ⟨⟨R, rfl, hR⟩, hb4⟩
  have hB := hide ((unhide HI3).on hb4).bel
  clear kl kz kx ky wl HI3 hb4
  have hpq := beq_str P Q _ (unhide HP) (unhide HQ)
  have hsr := beq_str S R _ (unhide HS) hR
  clear hR
  go_wp2_with fail
  go_ret
  exact ⟨rfl, unhide hB⟩

theorem printed_walk (l z x y v : Int) (w : World) (hN : Nm w) (hT : Tab w) :
    Calls Tryd.prog 5 #[.agg #[.int .i64 l, .int .i64 z, .int .i64 x, .int .i64 y], .int .i64 v] w fun e w' => e = .returned (.bool true) ∧ Below w.heap.size w w' := by
  by_cases h : Pp.keyErr l z x y = 0
  · obtain ⟨⟨l1, l2⟩, ⟨z1, z2⟩, ⟨x1, x2⟩, ⟨y1, y2⟩⟩ := keyErr_zero l z x y h
    obtain ⟨l, rfl⟩ := Int.eq_ofNat_of_zero_le l1
    obtain ⟨z, rfl⟩ := Int.eq_ofNat_of_zero_le z1
    obtain ⟨x, rfl⟩ := Int.eq_ofNat_of_zero_le x1
    obtain ⟨y, rfl⟩ := Int.eq_ofNat_of_zero_le y1
    by_cases hv : v < 0 ∨ 100 < v
    · exact printed_out l z x y v w (by omega) (by omega) (by omega) (by omega) h hN hT hv
    · obtain ⟨v, rfl⟩ := Int.eq_ofNat_of_zero_le (show 0 ≤ v by omega)
      exact printed_yes l z x y v w (by omega) (by omega) (by omega) (by omega) h hN hT (by omega)
  · exact printed_bad l z x y v w h

set_option maxHeartbeats 800000 in
theorem paths_walk (s : ByteArray) (l z x y v : Int) (w : World) (hs : s.size ≤ 1048576) (hN : Nm w) (hT : Tab w) :
    Calls Tryd.prog 3 #[.string s, .agg #[.int .i64 l, .int .i64 z, .int .i64 x, .int .i64 y], .int .i64 v] w fun e w' => e = .returned (.bool true) ∧ Below w.heap.size w w' := by
  have HN := hide hN
  have HT := hide hT
  clear hN hT
  go_enter Tryd.func3, Tryd.ntmps3
  go_wp2_with fail
  refine (parsed_walk s _ hs ((unhide HN).on (below_one _ _))).mono ?_
  rintro e w1 ⟨rfl, hb1⟩
  have hI1 := (KI.start w l z x y).on hb1
  have HI1 := hide hI1
  obtain ⟨kl, kz, kx, ky, wl, bel⟩ := hI1
  clear hb1 bel
  go_wp2_with fail
  refine (printed_walk l z x y v _ ((unhide HN).on (unhide HI1).bel) (tab_on (unhide HT) (unhide HI1).bel)).mono ?_
  rintro e w2 ⟨rfl, hb2⟩
  have hB := hide ((unhide HI1).on hb2).bel
  clear kl kz kx ky wl HI1 hb2
  go_wp2_with fail
  go_ret
  exact ⟨rfl, unhide hB⟩
end Go.Proofs.YtacjjjjbfjkohaaDoor
