/-
  atlaskeep.alone.
-/
import Derived.Test.YtppcpbhnpdjfpaaLocB
namespace Go.Proofs.Ytppcpbhnpdjfpaa
open Go.RowKit

theorem ink_one {f : Nat → Int} (hR : Rt f) (l z x y : Int) (p : Nat) : ink (fun _ => f) 1 l z x y p = bif vis f l z (un z) (cen x (un z) ((p : Int) % 8)) (cen y (un z) ((p : Int) / 8)) then f 3 else 0 := by
  unfold ink vis
  rw [top, show top (fun _ => f) l z (un z) (cen x (un z) ((p : Int) % 8)) (cen y (un z) ((p : Int) / 8)) 0 = zf from rfl, isAb_zf (right_in hR)]
  cases shw f l z <;> cases cov f (un z) (cen x (un z) ((p : Int) % 8)) (cen y (un z) ((p : Int) / 8)) <;> rfl
theorem pic_at (fs : Nat → Nat → Int) (n : Nat) (l z x y : Int) (p : Nat) (h : p < (⟨(pic fs n l z x y 64).toArray⟩ : ByteArray).size) (hr : allR fs n = true) : (((⟨(pic fs n l z x y 64).toArray⟩ : ByteArray)[p].toNat : Nat) : Int) = ink fs n l z x y p := by
  rw [ink_byte hr l z x y p]
  congr 2
  show (pic fs n l z x y 64).toArray[p]'_ = _
  simp [pic]
theorem allR_one {f : Nat → Int} (hR : Rt f) : allR (fun _ => f) 1 = true := by simp [allR, right_in hR, List.range_succ]

set_option maxHeartbeats 3200000 in
theorem alone_any (f : Nat → Int) (l z x y : Int) (w : World) (hR : Rt f) (he : keyErr l z x y = 0) :
    Calls Try.prog 34 #[.agg (fc f), .agg #[.int .i64 l, .int .i64 z, .int .i64 x, .int .i64 y]] w fun e w' => e = .returned (.bool true) ∧ Below w.heap.size w w' := by
  obtain ⟨_, ⟨z1, z2⟩, ⟨x1, x2⟩, ⟨y1, y2⟩⟩ := keyErr_zero he
  have hpe : pErr (fun _ => f) 1 l z x y = 0 := by simp [pErr, he, allR_one hR]
  have hpp : pPic (fun _ => f) 1 l z x y = pic (fun _ => f) 1 l z x y 64 := by simp [pPic, he, allR_one hR]
  have PA := fun v W h => Paint_any v 1 (fun _ => f) l z x y W h
  rw [hpe, hpp] at PA
  have HS : Hid (∀ (p : Nat) (h : p < (⟨(pic (fun _ => f) 1 l z x y 64).toArray⟩ : ByteArray).size), (((⟨(pic (fun _ => f) 1 l z x y 64).toArray⟩ : ByteArray)[p].toNat : Nat) : Int) = bif vis f l z (un z) (cen x (un z) ((p : Int) % 8)) (cen y (un z) ((p : Int) / 8)) then f 3 else 0) :=
    fun p h => by rw [pic_at _ _ _ _ _ _ p h (allR_one hR), ink_one hR]
  have hsz : (⟨(pic (fun _ => f) 1 l z x y 64).toArray⟩ : ByteArray).size = 64 := by rw [size_of_len, pic_len]
  generalize (⟨(pic (fun _ => f) 1 l z x y 64).toArray⟩ : ByteArray) = S at PA HS hsz
  have KU := fun W => keepUnit_any z W z1 z2
  obtain ⟨u1, u2⟩ := un_in z z1 z2
  have HCI : Hid (∀ p : Nat, p < 64 → ((0 ≤ x ∧ x ≤ 4194304) ∧ (0 ≤ (8 * x + (p : Int) % 8) * un z ∧ (8 * x + (p : Int) % 8) * un z ≤ 1073741824) ∧ W30 (cen x (un z) ((p : Int) % 8))) ∧ ((0 ≤ y ∧ y ≤ 4194304) ∧ (0 ≤ (8 * y + (p : Int) / 8) * un z ∧ (8 * y + (p : Int) / 8) * un z ≤ 1073741824) ∧ W30 (cen y (un z) ((p : Int) / 8)))) := fun p hp => by
    obtain ⟨p1, p2, p3, p4⟩ := mod8 p hp
    obtain ⟨a1, a2, a3, _⟩ := cen_in z1 z2 x1 x2 p1 p2
    obtain ⟨b1, b2, b3, _⟩ := cen_in z1 z2 y1 y2 p3 p4
    exact ⟨⟨a1, a2, a3⟩, b1, b2, b3⟩
  have HCV : Hid (∀ a b, W30 a → W30 b → ∀ W, Calls Try.prog 15 #[.agg (fc f), .int .i64 z, .int .i64 a, .int .i64 b] W fun e w' => e = .returned (.bool (cov f (un z) a b)) ∧ Below W.heap.size W w') := fun a b ha hb W => by
    have := Covers_any f z a b W
    rw [Cov_eq (right_in hR) z1 z2 ha hb] at this
    exact this
  obtain ⟨u, hu⟩ : ∃ u, un z = u := ⟨_, rfl⟩
  rw [hu] at HS KU u1 u2 HCI HCV
  have fk := hR.ink
  clear hu he x2 y2 hpe hpp hR
  have f1 := fc_at f 1 (by decide)
  have f3 := fc_at f 3 (by decide)
  have f5 := fc_at f 5 (by decide)
  obtain ⟨F1, h1⟩ : ∃ F, f 1 = F := ⟨_, rfl⟩
  obtain ⟨F3, h3⟩ : ∃ F, f 3 = F := ⟨_, rfl⟩
  obtain ⟨F5, h5⟩ : ∃ F, f 5 = F := ⟨_, rfl⟩
  have HSW : Hid (∀ a b, vis f l z u a b = (decide (F1 = l) && decide (F5 ≤ z) && cov f u a b)) := fun a b => by unfold vis shw; rw [h1, h5]
  rw [h1] at f1
  rw [h3] at f3 HS fk
  rw [h5] at f5
  clear h1 h3 h5
  obtain ⟨t1, t2, t3⟩ := two_blocks w (.cells (fc f) 26 (0, 0)) (.cells #[.int .i64 l, .int .i64 z, .int .i64 x, .int .i64 y] 28 (0, 0))
  have hN : ((w.alloc (.cells (fc f) 26)).alloc (.cells #[.int .i64 l, .int .i64 z, .int .i64 x, .int .i64 y] 28)).heap.size = w.heap.size + 2 := by simp
  have T1 := hide t1
  have T2 := hide t2
  have T3 := hide t3
  clear t2 t3
  go_enter Try.func34, Try.ntmps34
  go_wp2_with (first | refine ld26 rfl _ rfl _ rfl f t1 ?_ | refine bs34 rfl _ rfl f rfl (w.heap.size + 2) hN ?_)
  refine (PA _ _ ?_).mono ?_
  · refine ⟨_, 1, rfl, by unfold maxLen; omega, fun _ => ⟨w.heap.size + 2, 0, rfl, by simp, fun i hi j hj => ?_⟩⟩
    have hA := heap_alloc_new ((w.alloc (.cells (fc f) 26)).alloc (.cells #[.int .i64 l, .int .i64 z, .int .i64 x, .int .i64 y] 28)) (.cells (fc f) 26 (0, 0))
    rw [hN] at hA
    obtain rfl : i = 0 := by omega
    rw [blk_cells hA]
    simpa using fc_at f j hj
  rintro e w1 ⟨rfl, hb1⟩
  have k1 := blk_on (unhide T1) (((below_one _ (.cells (fc f) 26))).trans (hb1.mono (by simp)))
  have k2 := blk_on (unhide T2) (((below_one _ (.cells (fc f) 26))).trans (hb1.mono (by simp)))
  have HB1 := hide ((unhide T3).trans (((below_one _ (.cells (fc f) 26))).trans (hb1.mono (by simp)) |>.mono (by simp; omega)))
  have c2 := blk_cells k2
  clear hb1 t1
  go_wp2_with fail
  refine (KU _).mono ?_
  rintro e w9 ⟨rfl, rfl⟩
  go_wp2_with fail
  go_loopw [8, 9, 10, 11, 12] (fun i _ _ _ _ wr => ∃ p : Nat, p ≤ 64 ∧ i = .int .i64 p ∧ wr.heap[w.heap.size]? = some (.cells (fc f) 26 (0, 0)) ∧ wr.heap[w.heap.size + 1]? = some (.cells #[.int .i64 l, .int .i64 z, .int .i64 x, .int .i64 y] 28 (0, 0)) ∧ Below w.heap.size w wr) (fun i _ _ _ _ _ => 64 - (intOf i).toNat)
  case atStart => exact ⟨0, by omega, rfl, k1, k2, unhide HB1⟩
  case round =>
    obtain ⟨p, hp, rfl, q1, q2, hb⟩ := hrel
    clear c2 k1 k2
    have HQ1 := hide q1
    have HB := hide hb
    by_cases hlt : p < 64
    · have hp4 : (p : Int) < 64 := by omega
      obtain ⟨⟨⟨ax1, ax2⟩, ⟨bx1, bx2⟩, wx⟩, ⟨ay1, ay2⟩, ⟨by1, by2⟩, wy⟩ := unhide HCI p hlt
      have HCP := hide (unhide HCV _ _ wx wy)
      have hSp := hide (unhide HS p (by omega))
      have hps : (p : Int) < (S.size : Int) := by omega
      have hps' : p < S.size := by omega
      unfold W30 cen at wx wy
      have e1 : wrap64 ((x * 8 + (p : Int) % 8) * u) = (8 * x + (p : Int) % 8) * u := by rw [Int.mul_comm x 8]; exact IntWalk.wrap64_in _ ⟨by omega, by omega⟩
      have e2 : wrap64 ((y * 8 + (p : Int) / 8) * u) = (8 * y + (p : Int) / 8) * u := by rw [Int.mul_comm y 8]; exact IntWalk.wrap64_in _ ⟨by omega, by omega⟩
      have e3 : wrap64 ((8 * x + (p : Int) % 8) * u + u / 2) = cen x u ((p : Int) % 8) := IntWalk.wrap64_in _ ⟨by omega, by omega⟩
      have e4 : wrap64 ((8 * y + (p : Int) / 8) * u + u / 2) = cen y u ((p : Int) / 8) := IntWalk.wrap64_in _ ⟨by omega, by omega⟩
      have c1 := blk_cells q1
      have c2 := blk_cells q2
      clear wx wy bx1 bx2 by1 by2 hb
      obtain ⟨X, hX⟩ : ∃ X, cen x u ((p : Int) % 8) = X := ⟨_, rfl⟩
      obtain ⟨Y, hY⟩ : ∃ X, cen y u ((p : Int) / 8) = X := ⟨_, rfl⟩
      rw [hX] at e3 HCP hSp
      rw [hY] at e4 HCP hSp
      clear hX hY
      obtain ⟨A, hA⟩ : ∃ X, (8 * x + (p : Int) % 8) * u = X := ⟨_, rfl⟩
      obtain ⟨B, hB⟩ : ∃ X, (8 * y + (p : Int) / 8) * u = X := ⟨_, rfl⟩
      rw [hA] at e1 e3
      rw [hB] at e2 e4
      clear hA hB
      go_wp2_with (refine ld26 rfl _ rfl _ rfl f q1 ?_)
      refine (unhide HCP _).mono ?_
      rintro e w2 ⟨rfl, hb2⟩
      have q1' := blk_on q1 hb2
      have q2' := blk_on q2 hb2
      have d1 := blk_cells q1'
      have d2 := blk_cells q2'
      have HB2 := hide ((unhide HB).trans (hb2.mono (unhide HB).size))
      clear c1 c2 q1 q2 hb2
      rw [unhide HSW] at hSp
      cases hc : cov f u X Y with
      | false =>
        rw [hc, Bool.and_false] at hSp
        have hv : (S[p].toNat : Int) = 0 := unhide hSp
        go_wp2_with fail
        go_roundw
        case rel => exact ⟨p + 1, by omega, by go_num, q1', q2', unhide HB2⟩
        case measure => simp [intOf]; omega
      | true =>
        rw [hc, Bool.and_true] at hSp
        by_cases g1 : F1 = l
        · by_cases g5 : F5 ≤ z
          · have hv : (S[p].toNat : Int) = F3 := by have := unhide hSp; rwa [decide_eq_true g1, decide_eq_true g5] at this
            subst g1
            go_wp2_with fail
            go_roundw
            case rel => exact ⟨p + 1, by omega, by go_num, q1', q2', unhide HB2⟩
            case measure => simp [intOf]; omega
          · have hv : (S[p].toNat : Int) = 0 := by have := unhide hSp; rwa [decide_eq_false g5, Bool.and_false] at this
            subst g1
            go_wp2_with fail
            go_roundw
            case rel => exact ⟨p + 1, by omega, by go_num, q1', q2', unhide HB2⟩
            case measure => simp [intOf]; omega
        · have hv : (S[p].toNat : Int) = 0 := by have := unhide hSp; rwa [decide_eq_false g1, Bool.false_and] at this
          go_wp2_with fail
          go_roundw
          case rel => exact ⟨p + 1, by omega, by go_num, q1', q2', unhide HB2⟩
          case measure => simp [intOf]; omega
    · have hp64 : p = 64 := by omega
      subst hp64
      go_wp2_with fail
      go_ret
      exact ⟨rfl, hb⟩
end Go.Proofs.Ytppcpbhnpdjfpaa
