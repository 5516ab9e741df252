/-
  shape.Paint.
-/
import Derived.Test.YtppcpbhnpdjfpabOwn
namespace Go.Proofs.Ytppcpbhnpdjfpab
open Go.RowKit

def allR (fs : Nat → Nat → Int) (k : Nat) : Bool := (List.range k).all fun i => right (fs i)
theorem allR_snoc {fs : Nat → Nat → Int} {k : Nat} (h : allR fs k = true) (h' : right (fs k) = true) : allR fs (k + 1) = true := by
  unfold allR at *; rw [List.range_succ, List.all_append, h]; simp [h']
theorem allR_bad {fs : Nat → Nat → Int} {k n : Nat} (hk : k < n) (h : right (fs k) = false) : allR fs n = false := by
  rw [Bool.eq_false_iff]; intro ht
  simp only [allR, List.all_eq_true, List.mem_range] at ht
  rw [ht k hk] at h; cases h
theorem allR_at {fs : Nat → Nat → Int} {n : Nat} (h : allR fs n = true) (i : Nat) (hi : i < n) : right (fs i) = true := by
  simp only [allR, List.all_eq_true, List.mem_range] at h
  exact h i hi
/-- The ink of pixel p of the tile. -/
def ink (fs : Nat → Nat → Int) (n : Nat) (l z x y : Int) (p : Nat) : Int := top fs l z (un z) (cen x (un z) ((p : Int) % 8)) (cen y (un z) ((p : Int) / 8)) n 3
/-- The first k inks of the tile. -/
def pic (fs : Nat → Nat → Int) (n : Nat) (l z x y : Int) (k : Nat) : List UInt8 := (List.range k).map fun p => UInt8.ofNat (ink fs n l z x y p).toNat
theorem pic_succ (fs : Nat → Nat → Int) (n : Nat) (l z x y : Int) (k : Nat) : pic fs n l z x y (k + 1) = pic fs n l z x y k ++ [UInt8.ofNat (ink fs n l z x y k).toNat] := by simp [pic, List.range_succ]
theorem pic_len (fs : Nat → Nat → Int) (n : Nat) (l z x y : Int) (k : Nat) : (pic fs n l z x y k).length = k := by simp [pic]
theorem ink_byte {fs : Nat → Nat → Int} {n : Nat} (hr : allR fs n = true) (l z x y : Int) (p : Nat) : ink fs n l z x y p = ((UInt8.ofNat (ink fs n l z x y p).toNat).toNat : Int) := by
  have := top_ink (allR_at hr) l z (un z) (cen x (un z) ((p : Int) % 8)) (cen y (un z) ((p : Int) / 8))
  unfold ink
  generalize top fs l z (un z) (cen x (un z) ((p : Int) % 8)) (cen y (un z) ((p : Int) / 8)) n 3 = v at *
  rw [UInt8.toNat_ofNat']
  omega
/-- P8's Paint: the error, the picture. -/
def pErr (fs : Nat → Nat → Int) (n : Nat) (l z x y : Int) : Int := if keyErr l z x y = 0 then (if 40 < n then 11 else bif allR fs n then 0 else 7) else keyErr l z x y
def pPic (fs : Nat → Nat → Int) (n : Nat) (l z x y : Int) : List UInt8 := if keyErr l z x y = 0 then (if 40 < n then [] else bif allR fs n then pic fs n l z x y 64 else []) else []

set_option maxHeartbeats 3200000 in
theorem Paint_key (v : Value) (n : Nat) (fs : Nat → Nat → Int) (l z x y : Int) (w : World) (hv : FsAt w v n fs) (h : ¬ keyErr l z x y = 0 ∨ 40 < n) :
    Calls Try.prog 11 #[v, .agg #[.int .i64 l, .int .i64 z, .int .i64 x, .int .i64 y]] w fun e w' => e = .returned (.tuple #[.string ⟨(pPic fs n l z x y).toArray⟩, .int .i64 (pErr fs n l z x y)]) ∧ Below w.heap.size w w' := by
  have hg0 := heap_alloc_new w (.cells #[.int .i64 l, .int .i64 z, .int .i64 x, .int .i64 y] 41 (0, 0))
  have K := fun W => keyError_any l z x y W
  obtain ⟨oa, cap, rfl, hm, hn⟩ := hv
  clear hn
  by_cases he : keyErr l z x y = 0
  · have h40 : 40 < n := by rcases h with h | h; exact absurd he h; exact h
    have H : Hid (pPic fs n l z x y = [] ∧ pErr fs n l z x y = 11) := by show pPic fs n l z x y = [] ∧ pErr fs n l z x y = 11; simp [pPic, pErr, he, h40]
    rw [he] at K
    have h40' : (40 : Int) < (n : Int) := by omega
    clear h he h40
    go_enter Try.func11, Try.ntmps11
    go_wp2_with fail
    refine (K _).mono ?_
    rintro e w1 ⟨rfl, hb1⟩
    have HB := hide ((below_one _ _).trans (hb1.mono (by simp)))
    clear hb1
    go_wp2_with fail
    go_ret2
    exact ⟨ret_str2 (unhide H).1.symm (unhide H).2.symm, unhide HB⟩
  · have H : Hid (pPic fs n l z x y = [] ∧ pErr fs n l z x y = keyErr l z x y) := by show pPic fs n l z x y = [] ∧ pErr fs n l z x y = _; simp [pPic, pErr, he]
    have he' : (keyErr l z x y == 0) = false := by simp [he]
    clear h he
    go_enter Try.func11, Try.ntmps11
    go_wp2_with fail
    refine (K _).mono ?_
    rintro e w1 ⟨rfl, hb1⟩
    have HB := hide ((below_one _ _).trans (hb1.mono (by simp)))
    clear hb1
    go_wp2_with fail
    go_ret2
    exact ⟨ret_str2 (unhide H).1.symm (unhide H).2.symm, unhide HB⟩

set_option maxHeartbeats 3200000 in
theorem Paint_in (v : Value) (n : Nat) (fs : Nat → Nat → Int) (l z x y : Int) (w : World) (hv : FsAt w v n fs) (he : keyErr l z x y = 0) (hn : n ≤ 40) :
    Calls Try.prog 11 #[v, .agg #[.int .i64 l, .int .i64 z, .int .i64 x, .int .i64 y]] w fun e w' => e = .returned (.tuple #[.string ⟨(pPic fs n l z x y).toArray⟩, .int .i64 (pErr fs n l z x y)]) ∧ Below w.heap.size w w' := by
  have hg0 := heap_alloc_new w (.cells #[.int .i64 l, .int .i64 z, .int .i64 x, .int .i64 y] 41 (0, 0))
  have K := fun W => keyError_any l z x y W
  rw [he] at K
  have HV := hide hv
  have HE := hide he
  have H7 : Hid (allR fs n = false → pPic fs n l z x y = [] ∧ pErr fs n l z x y = 7) := fun h => by simp [pPic, pErr, he, h, show ¬ 40 < n by omega]
  have H0 : Hid (allR fs n = true → pPic fs n l z x y = pic fs n l z x y 64 ∧ pErr fs n l z x y = 0) := fun h => by simp [pPic, pErr, he, h, show ¬ 40 < n by omega]
  obtain ⟨oa, cap, rfl, hm, hc⟩ := hv
  have HC := hide hc
  have hn' : (n : Int) ≤ 40 := by omega
  clear hc he
  go_enter Try.func11, Try.ntmps11
  go_wp2_with fail
  refine (K _).mono ?_
  rintro e w1 ⟨rfl, hb1⟩
  have hg1 := blk_on hg0 hb1
  have HB := hide ((below_one _ _).trans (hb1.mono (by simp)))
  clear hb1
  go_wp2_with fail
  go_loopw [7] (fun i wr => ∃ k : Nat, k ≤ n ∧ i = .int .i64 k ∧ Hid (allR fs k = true) ∧ wr.heap[w.heap.size]? = some (.cells #[.int .i64 l, .int .i64 z, .int .i64 x, .int .i64 y] 41 (0, 0)) ∧ Below w.heap.size w wr) (fun i _ => n - (intOf i).toNat)
  case atStart => exact ⟨0, by omega, rfl, hide rfl, hg1, unhide HB⟩
  case round =>
    obtain ⟨k, hk, rfl, hall, hgk, hb⟩ := hrel
    have HBr := hide hb
    by_cases hlt : k < n
    · obtain ⟨b, off, rfl, hbl, hc0⟩ := unhide HC (by omega)
      have hcs : ∀ i, i < n → ∀ j, j < 24 → wr.cell? ⟨b, off + i * 24 + j, none⟩ = some (.int .i64 (fs i j)) := fun i hi j hj => (hb.cell (p := ⟨b, off + i * 24 + j, none⟩) hbl).trans (hc0 i hi j hj)
      have hrg := fs_rng hcs hlt
      have hkn : (k : Int) < n := by omega
      clear hc0 hcs hb
      cases hr : right (fs k) with
      | true =>
        go_wp2_with (refine ldm26 rfl _ rfl b (off + k * 24) rfl (fs k) hrg ?_)
        refine (check_t hr _).mono ?_
        rintro e w2 ⟨rfl, hb2⟩
        have hg2 := blk_on hgk hb2
        have HB2 := hide ((unhide HBr).trans (hb2.mono (unhide HBr).size))
        clear hb2 hrg
        go_wp2_with fail
        go_roundw
        case rel => exact ⟨k + 1, by omega, by go_num, hide (allR_snoc (unhide hall) hr), hg2, unhide HB2⟩
        case measure => simp [intOf]; omega
      | false =>
        go_wp2_with (refine ldm26 rfl _ rfl b (off + k * 24) rfl (fs k) hrg ?_)
        refine (check_f hr _).mono ?_
        rintro e w2 ⟨rfl, hb2⟩
        have HB2 := hide ((unhide HBr).trans (hb2.mono (unhide HBr).size))
        clear hb2 hrg
        go_wp2_with fail
        go_ret2
        have H := unhide H7 (allR_bad hlt hr)
        exact ⟨ret_str2 H.1.symm H.2.symm, unhide HB2⟩
    · have hkn : k = n := by omega
      subst hkn
      have hgl := (Array.getElem?_eq_some_iff.1 hgk).1
      have HO := hide (ownB_none wr (w.heap.size + 1) hgl)
      clear hb
      go_wp2_with fail
      go_loopw [8, 9] (fun v i wx => ∃ p : Nat, p ≤ 64 ∧ i = .int .i64 p ∧ OwnB wx (w.heap.size + 1) v (pic fs k l z x y p) ∧ wx.heap[w.heap.size]? = some (.cells #[.int .i64 l, .int .i64 z, .int .i64 x, .int .i64 y] 41 (0, 0)) ∧ Below w.heap.size w wx) (fun _ i _ => 64 - (intOf i).toNat)
      case atStart => exact ⟨0, by omega, rfl, unhide HO, (Below.heap_alloc _ _ _ (Array.getElem?_eq_some_iff.1 hgk).1).trans hgk, below_alloc (unhide HBr) (Nat.le_refl _) _⟩
      case round =>
        obtain ⟨p, hp, rfl, hown, hgp, hbp⟩ := hrel
        have hcp := blk_cells hgp
        have HBp := hide hbp
        have HOW := hide hown
        by_cases hlt : p < 64
        · have hlt' : (p : Int) < 64 := by omega
          have IK := fun W h => inkOf_any (.slice oa k cap) k fs l z x y p W h (unhide HE) hlt hn (allR_at (unhide hall))
          have hiv := (unhide HV).on hbp
          have hby := hide (ink_byte (unhide hall) l z x y p)
          clear hown hbp
          go_wp2_with fail
          refine (IK _ hiv).mono ?_
          rintro e w2 ⟨rfl, hb2⟩
          have hg2 := blk_on hgp hb2
          have hown2 := (unhide HOW).on hb2
          have HB2 := hide ((unhide HBp).trans (hb2.mono (unhide HBp).size))
          have hsz := (Array.getElem?_eq_some_iff.1 hg2).1
          have hbl := hide (pic_len fs k l z x y p)
          clear hb2 hgp hcp IK hiv
          go_wp2_with (at_builtin; refine wp_append_byte rfl (.tmp 35) (.tmp 40) rfl _ (w.heap.size + 1) _ (pic fs k l z x y p) (UInt8.ofNat (ink fs k l z x y p).toNat) _ rfl hown2 rfl ?_ ?_ ?_ ?_)
          · exact unhide hby
          · have := unhide hbl; omega
          · exact hsz
          · intro v' w3 hown3 hb3
            have hg3 : w3.heap[w.heap.size]? = some (.cells #[.int .i64 l, .int .i64 z, .int .i64 x, .int .i64 y] 41 (0, 0)) := (hb3.block _ (by omega)).trans hg2
            have HB3 := hide ((unhide HB2).trans (hb3.mono (by omega)))
            clear hb3 hown2 hg2
            go_wp2_with fail
            go_roundw
            case rel => exact ⟨p + 1, by omega, by go_num, by rw [pic_succ]; exact hown3, hg3, unhide HB3⟩
            case measure => simp [intOf]; omega
        · have hp64 : p = 64 := by omega
          subst hp64
          have hcv := hown.str 0
          rw [World.drewN_zero] at hcv
          go_wp2_with fail
          go_ret2
          have H := unhide H0 (unhide hall)
          exact ⟨ret_str2 H.1.symm H.2.symm, unhide HBp⟩
end Go.Proofs.Ytppcpbhnpdjfpab
