/-
  atlasref.Tile, atlasref.Paint; lists that are alike.
-/
import Derived.Test.YtacjjjjbfjkohaaInkD
namespace Go.Proofs.Ytacjjjjbfjkohaa
open Go.RowKit

set_option maxHeartbeats 3200000 in
theorem Tile_any (v : Value) (n : Nat) (fs : Nat → Nat → Int) (l z x y : Int) (w : World) (hv : FsAt w v n fs) (he : keyErr l z x y = 0) (hn : n ≤ 40) (hall : allR fs n = true) :
    Calls Try.prog 56 #[v, .agg #[.int .i64 l, .int .i64 z, .int .i64 x, .int .i64 y]] w fun e w' => e = .returned (.string ⟨(pic fs n l z x y 64).toArray⟩) ∧ Below w.heap.size w w' := by
  have hg0 := heap_alloc_new w (.cells #[.int .i64 l, .int .i64 z, .int .i64 x, .int .i64 y] 28 (0, 0))
  have HV := hide hv
  have HE := hide he
  have HA := hide hall
  obtain ⟨oa, cap, rfl, hm, hc⟩ := hv
  clear hc he hall
  go_enter Try.func56, Try.ntmps56
  go_wp2
  go_loopw [5, 6, 7] (fun v i _ wx => ∃ p : Nat, p ≤ 64 ∧ i = .int .i64 p ∧ OwnB wx (w.heap.size + 1) v (pic fs n l z x y p) ∧ wx.heap[w.heap.size]? = some (.cells #[.int .i64 l, .int .i64 z, .int .i64 x, .int .i64 y] 28 (0, 0)) ∧ Below w.heap.size w wx) (fun _ i _ _ => 64 - (intOf i).toNat)
  case atStart => exact ⟨0, by omega, rfl, ownB_nil _ _, hg0, below_one _ _⟩
  case round =>
    obtain ⟨p, hp, rfl, hown, hgp, hbp⟩ := hrel
    have hcp := blk_cells hgp
    have HBp := hide hbp
    have HOW := hide hown
    by_cases hlt : p < 64
    · have hlt' : (p : Int) < 64 := by omega
      have IK := fun W h => refInk_any (.slice oa n cap) n fs l z x y p W h (unhide HE) hlt hn (allR_at (unhide HA))
      have hiv := (unhide HV).on hbp
      have hby := hide (ink_byte (unhide HA) l z x y p)
      have hw8 : IntKind.u8.wrap (ink fs n l z x y p) = ink fs n l z x y p := top_small (fun _ => ink fs n l z x y p) trivial rfl (allR_at (unhide HA))
      clear hown hbp
      go_wp2_with fail
      refine (IK _ hiv).mono ?_
      rintro e w2 ⟨rfl, hb2⟩
      have hg2 := blk_on hgp hb2
      have hown2 := (unhide HOW).on hb2
      have HB2 := hide ((unhide HBp).trans (hb2.mono (unhide HBp).size))
      have hsz := (Array.getElem?_eq_some_iff.1 hg2).1
      have hbl := hide (pic_len fs n l z x y p)
      clear hb2 hgp hcp IK hiv
      go_wp2_with (at_builtin; refine wp_append_byte rfl (.tmp 16) (.tmp 19) rfl _ (w.heap.size + 1) _ (pic fs n l z x y p) (UInt8.ofNat (ink fs n l z x y p).toNat) _ rfl hown2 rfl ?_ ?_ ?_ ?_)
      · exact unhide hby
      · have := unhide hbl; omega
      · exact hsz
      · intro v' w3 hown3 hb3
        have hg3 : w3.heap[w.heap.size]? = some (.cells #[.int .i64 l, .int .i64 z, .int .i64 x, .int .i64 y] 28 (0, 0)) := (hb3.block _ (by omega)).trans hg2
        have HB3 := hide ((unhide HB2).trans (hb3.mono (by omega)))
        clear hb3 hown2 hg2
        go_wp2_with fail
        go_roundw
        case rel => exact ⟨p + 1, by omega, by go_num, by rw [pic_succ]; exact hown3, hg3, unhide HB3⟩
        case measure => simp [intOf]; omega
    · have hp64 : p = 64 := by omega
      subst hp64
      have hcv := hown.str 0
      rw [World.drewN_zero] at hcv
      go_wp2_with fail
      go_ret
      exact ⟨rfl, unhide HBp⟩

set_option maxHeartbeats 3200000 in
theorem refPaint_key (v : Value) (n : Nat) (fs : Nat → Nat → Int) (l z x y : Int) (w : World) (hv : FsAt w v n fs) (h : ¬ keyErr l z x y = 0 ∨ 40 < n) :
    Calls Try.prog 20 #[v, .agg #[.int .i64 l, .int .i64 z, .int .i64 x, .int .i64 y]] w fun e w' => e = .returned (.tuple #[.string ⟨(pPic fs n l z x y).toArray⟩, .int .i64 (pErr fs n l z x y)]) ∧ Below w.heap.size w w' := by
  have hg0 := heap_alloc_new w (.cells #[.int .i64 l, .int .i64 z, .int .i64 x, .int .i64 y] 28 (0, 0))
  have K := fun W => refKeyError_any l z x y W
  obtain ⟨oa, cap, rfl, hm, hn⟩ := hv
  clear hn
  by_cases he : keyErr l z x y = 0
  · have h40 : 40 < n := by rcases h with h | h; exact absurd he h; exact h
    have H : Hid (pPic fs n l z x y = [] ∧ pErr fs n l z x y = 11) := by show pPic fs n l z x y = [] ∧ pErr fs n l z x y = 11; simp [pPic, pErr, he, h40]
    rw [he] at K
    have h40' : (40 : Int) < (n : Int) := by omega
    clear h he h40
    go_enter Try.func20, Try.ntmps20
    go_wp2_with fail
    refine (K _).mono ?_
    rintro e w1 ⟨rfl, hb1⟩
    have HB := hide ((below_one _ _).trans (hb1.mono (by simp)))
    clear hb1
    go_wp2_with fail
    go_ret2
    exact ⟨ret_str2 (unhide H).1.symm (unhide H).2.symm, unhide HB⟩
  · have H : Hid (pPic fs n l z x y = [] ∧ pErr fs n l z x y = keyErr l z x y) := by show pPic fs n l z x y = [] ∧ pErr fs n l z x y = _; simp [pPic, pErr, he]
    have he' : (keyErr l z x y == 0) = false := by simp [he]
    clear h he
    go_enter Try.func20, Try.ntmps20
    go_wp2_with fail
    refine (K _).mono ?_
    rintro e w1 ⟨rfl, hb1⟩
    have HB := hide ((below_one _ _).trans (hb1.mono (by simp)))
    clear hb1
    go_wp2_with fail
    go_ret2
    exact ⟨ret_str2 (unhide H).1.symm (unhide H).2.symm, unhide HB⟩

set_option maxHeartbeats 3200000 in
theorem refPaint_in (v : Value) (n : Nat) (fs : Nat → Nat → Int) (l z x y : Int) (w : World) (hv : FsAt w v n fs) (he : keyErr l z x y = 0) (hn : n ≤ 40) :
    Calls Try.prog 20 #[v, .agg #[.int .i64 l, .int .i64 z, .int .i64 x, .int .i64 y]] w fun e w' => e = .returned (.tuple #[.string ⟨(pPic fs n l z x y).toArray⟩, .int .i64 (pErr fs n l z x y)]) ∧ Below w.heap.size w w' := by
  have hg0 := heap_alloc_new w (.cells #[.int .i64 l, .int .i64 z, .int .i64 x, .int .i64 y] 28 (0, 0))
  have K := fun W => refKeyError_any l z x y W
  rw [he] at K
  have HV := hide hv
  have HE := hide he
  have H7 : Hid (allR fs n = false → pPic fs n l z x y = [] ∧ pErr fs n l z x y = 7) := fun h => by simp [pPic, pErr, he, h, show ¬ 40 < n by omega]
  have H0 : Hid (allR fs n = true → pPic fs n l z x y = pic fs n l z x y 64 ∧ pErr fs n l z x y = 0) := fun h => by simp [pPic, pErr, he, h, show ¬ 40 < n by omega]
  obtain ⟨oa, cap, rfl, hm, hc⟩ := hv
  have HC := hide hc
  have hn' : (n : Int) ≤ 40 := by omega
  clear hc he
  go_enter Try.func20, Try.ntmps20
  go_wp2_with fail
  refine (K _).mono ?_
  rintro e w1 ⟨rfl, hb1⟩
  have hg1 := blk_on hg0 hb1
  have HB := hide ((below_one _ _).trans (hb1.mono (by simp)))
  clear hb1
  go_wp2_with fail
  go_loopw [7, 8] (fun i _ wr => ∃ k : Nat, k ≤ n ∧ i = .int .i64 k ∧ Hid (allR fs k = true) ∧ wr.heap[w.heap.size]? = some (.cells #[.int .i64 l, .int .i64 z, .int .i64 x, .int .i64 y] 28 (0, 0)) ∧ Below w.heap.size w wr) (fun i _ _ => n - (intOf i).toNat)
  case atStart => exact ⟨0, by omega, rfl, hide rfl, hg1, unhide HB⟩
  case round =>
    obtain ⟨k, hk, rfl, hall, hgk, hb⟩ := hrel
    have HBr := hide hb
    by_cases hlt : k < n
    · obtain ⟨b, off, rfl, hbl, hc0⟩ := unhide HC (by omega)
      have hcs : ∀ i, i < n → ∀ j, j < 24 → wr.cell? ⟨b, off + i * 24 + j, none⟩ = some (.int .i64 (fs i j)) := fun i hi j hj => (hb.cell (p := ⟨b, off + i * 24 + j, none⟩) hbl).trans (hc0 i hi j hj)
      have hrg := fs_rng hcs hlt
      have hkn : (k : Int) < n := by omega
      clear hc0 hcs hb
      cases hr : right (fs k) with
      | true =>
        go_wp2_with (refine ldm26 rfl _ rfl b (off + k * 24) rfl (fs k) hrg ?_)
        refine (refRight_t hr _).mono ?_
        rintro e w2 ⟨rfl, hb2⟩
        have hg2 := blk_on hgk hb2
        have HB2 := hide ((unhide HBr).trans (hb2.mono (unhide HBr).size))
        clear hb2 hrg
        go_wp2_with fail
        go_roundw
        case rel => exact ⟨k + 1, by omega, by go_num, hide (allR_snoc (unhide hall) hr), hg2, unhide HB2⟩
        case measure => simp [intOf]; omega
      | false =>
        go_wp2_with (refine ldm26 rfl _ rfl b (off + k * 24) rfl (fs k) hrg ?_)
        refine (refRight_f hr _).mono ?_
        rintro e w2 ⟨rfl, hb2⟩
        have HB2 := hide ((unhide HBr).trans (hb2.mono (unhide HBr).size))
        clear hb2 hrg
        go_wp2_with fail
        go_ret2
        have H := unhide H7 (allR_bad hlt hr)
        exact ⟨ret_str2 H.1.symm H.2.symm, unhide HB2⟩
    · have hkn : k = n := by omega
      subst hkn
      have hcg := blk_cells hgk
      have hiv := (unhide HV).on hb
      have TL := fun W h => Tile_any (.slice oa k cap) k fs l z x y W h (unhide HE) hn (unhide hall)
      clear hb
      go_wp2_with fail
      refine (TL _ hiv).mono ?_
      rintro e w2 ⟨rfl, hb2⟩
      have HB2 := hide ((unhide HBr).trans (hb2.mono (unhide HBr).size))
      clear hb2 TL hiv
      go_wp2_with fail
      go_ret2
      have H := unhide H0 (unhide hall)
      exact ⟨ret_str2 H.1.symm H.2.symm, unhide HB2⟩

theorem refPaint_any (v : Value) (n : Nat) (fs : Nat → Nat → Int) (l z x y : Int) (w : World) (hv : FsAt w v n fs) :
    Calls Try.prog 20 #[v, .agg #[.int .i64 l, .int .i64 z, .int .i64 x, .int .i64 y]] w fun e w' => e = .returned (.tuple #[.string ⟨(pPic fs n l z x y).toArray⟩, .int .i64 (pErr fs n l z x y)]) ∧ Below w.heap.size w w' := by
  by_cases he : keyErr l z x y = 0
  · by_cases hn : n ≤ 40
    · exact refPaint_in v n fs l z x y w hv he hn
    · exact refPaint_key v n fs l z x y w hv (Or.inr (by omega))
  · exact refPaint_key v n fs l z x y w hv (Or.inl he)

set_option maxHeartbeats 1600000 in
theorem sameFeature_eq (f : Nat → Int) (w : World) :
    Calls Try.prog 57 #[.agg (fc f), .agg (fc f)] w fun e w' => e = .returned (.bool true) ∧ Below w.heap.size w w' := by
  have c0 := fc_at f 0 (by decide)
  have c1 := fc_at f 1 (by decide)
  have c2 := fc_at f 2 (by decide)
  have c3 := fc_at f 3 (by decide)
  have c4 := fc_at f 4 (by decide)
  have c5 := fc_at f 5 (by decide)
  have c6 := fc_at f 6 (by decide)
  have c7 := fc_at f 7 (by decide)
  go_enter Try.func57, Try.ntmps57
  go_wp2
  clear c0 c1 c2 c3 c4 c5 c6 c7
  go_loopw [5] (fun i wr => ∃ k q : Nat, k ≤ 8 ∧ i = .int .i64 k ∧ wr = ((w.alloc (.cells (fc f) 26)).alloc (.cells (fc f) 26)).drewN q) (fun i _ => 8 - (intOf i).toNat)
  case atStart => exact ⟨0, 0, by omega, rfl, rfl⟩
  case round =>
    obtain ⟨k, q, hk, rfl, rfl⟩ := hrel
    by_cases hlt : k < 8
    · have cx := fc_at f (8 + k) (by omega)
      have cy := fc_at f (16 + k) (by omega)
      have hk8 : (k : Int) < 8 := by omega
      have b1 : (f (8 + k) != f (8 + k)) = false := by simp
      go_wp2
      go_quiet (fail)
      go_wp2
      go_roundw
      case rel => exact ⟨k + 1, _, by omega, by go_num, rfl⟩
      case measure => simp [intOf]; omega
    · go_wp2
      go_ret
      refine ⟨rfl, ?_⟩
      repeat first | exact Below.refl _ _ | refine below_drewN ?_ _ | refine Below.drew ?_ | refine below_alloc ?_ (Nat.le_refl _) _

set_option maxHeartbeats 1600000 in
theorem sameFeatures_eq (va vb : Value) (n : Nat) (fs : Nat → Nat → Int) (w : World) (ha : FsAt w va n fs) (hb : FsAt w vb n fs) (hn : (n : Int) ≤ 9223372036854775807) :
    Calls Try.prog 21 #[va, vb] w fun e w' => e = .returned (.bool true) ∧ Below w.heap.size w w' := by
  obtain ⟨oa, ca, rfl, hma, hna⟩ := ha
  obtain ⟨ob, cb, rfl, hmb, hnb⟩ := hb
  have HA := hide hna
  have HB := hide hnb
  clear hna hnb
  go_enter Try.func21, Try.ntmps21
  go_wp2
  go_loopw [5, 6] (fun i _ wr => ∃ k : Nat, k ≤ n ∧ i = .int .i64 k ∧ Below w.heap.size w wr) (fun i _ _ => n - (intOf i).toNat)
  case atStart => exact ⟨0, by omega, rfl, Below.refl _ _⟩
  case round =>
    obtain ⟨k, hk, rfl, hbr⟩ := hrel
    by_cases hlt : k < n
    · obtain ⟨ba, fa, rfl, hla, hca⟩ := unhide HA (by omega)
      obtain ⟨bb, fb, rfl, hlb, hcb⟩ := unhide HB (by omega)
      have hkn : (k : Int) < n := by omega
      have R1 : ∀ w', Below wr.heap.size wr w' → w'.rangeAt ba (fa + k * 24) (fc (fs k)).toList := fun w' h => fs_rng (fun i hi j hj => ((hbr.trans (h.mono hbr.size)).cell (p := ⟨ba, fa + i * 24 + j, none⟩) hla).trans (hca i hi j hj)) hlt
      have R2 : ∀ w', Below wr.heap.size wr w' → w'.rangeAt bb (fb + k * 24) (fc (fs k)).toList := fun w' h => fs_rng (fun i hi j hj => ((hbr.trans (h.mono hbr.size)).cell (p := ⟨bb, fb + i * 24 + j, none⟩) hlb).trans (hcb i hi j hj)) hlt
      have S1 := fun W => sameFeature_eq (fs k) W
      have HR1 := hide R1
      have HR2 := hide R2
      clear hca hcb hla hlb R1 R2
      go_wp2
      refine region_bq (by kernel_rfl) (by kernel_rfl) ?_
      refine q_move rfl _ rfl (.slice (some ⟨ba, fa, none⟩) n ca) rfl ?_
      simp only [Act.put, List.setIfInBounds_toArray, List.set_cons_succ, List.set_cons_zero]
      refine q_move rfl _ rfl (.int .i64 k) rfl ?_
      simp only [Act.put, List.setIfInBounds_toArray, List.set_cons_succ, List.set_cons_zero]
      refine q_val rfl (.pointer (some ⟨ba, fa + k * 24, none⟩)) (fun _ _ => by simp [go_sem, hkn]) ?_
      simp only [Act.put, List.setIfInBounds_toArray, List.set_cons_succ, List.set_cons_zero]
      refine q_load rfl 26 _ rfl ba (fa + k * 24) rfl (fc (fs k)) _ Try.underlying26 rfl (szf _) (unhide HR1) ?_
      simp only [Act.put, List.setIfInBounds_toArray, List.set_cons_succ, List.set_cons_zero]
      refine q_move rfl _ rfl (.slice (some ⟨bb, fb, none⟩) n cb) rfl ?_
      simp only [Act.put, List.setIfInBounds_toArray, List.set_cons_succ, List.set_cons_zero]
      refine q_move rfl _ rfl (.int .i64 k) rfl ?_
      simp only [Act.put, List.setIfInBounds_toArray, List.set_cons_succ, List.set_cons_zero]
      refine q_val rfl (.pointer (some ⟨bb, fb + k * 24, none⟩)) (fun _ _ => by simp [go_sem, hkn]) ?_
      simp only [Act.put, List.setIfInBounds_toArray, List.set_cons_succ, List.set_cons_zero]
      refine q_load rfl 26 _ rfl bb (fb + k * 24) rfl (fc (fs k)) _ Try.underlying26 rfl (szf _) (unhide HR2) ?_
      simp only [Act.put, List.setIfInBounds_toArray, List.set_cons_succ, List.set_cons_zero]
      refine q_call rfl 57 #[.agg (fc (fs k)), .agg (fc (fs k))] (fun _ => by simp [go_sem]) _ S1 ?_
      simp only [Act.put, List.setIfInBounds_toArray, List.set_cons_succ, List.set_cons_zero]
      refine q_assign rfl _ rfl (.bool true) rfl ?_
      simp only [Act.put, List.setIfInBounds_toArray, List.set_cons_succ, List.set_cons_zero]
      refine wpQuiet_nil ?_
      intro w2 hw2
      have hb2 := hide (hbr.trans (hw2.mono hbr.size))
      clear hbr hw2
      go_wp2
      go_roundw
      case rel => exact ⟨k + 1, by omega, by go_num, unhide hb2⟩
      case measure => simp [intOf]; omega
    · go_wp2
      go_ret
      exact ⟨rfl, hbr⟩
end Go.Proofs.Ytacjjjjbfjkohaa
