/-
  atlaskeep.picture, atlaskeep.Round: what they answer.
-/
import Derived.Test.YtdpabfggajjapaaUnpack
namespace Go.Proofs.Ytdpabfggajjapaa
open Go.RowKit

/-- A picture out of a text. -/
def pix (l : List UInt8) : List UInt8 := (List.range 64).map fun i => l.getD (i % l.length) 0 % 16
theorem pix_ok (l : List UInt8) : Pt.okPic (pix l) = true := by
  rw [Pt.okPic_iff]
  refine ⟨by simp [pix], ?_⟩
  intro c hc
  simp only [pix, List.mem_map, List.mem_range] at hc
  obtain ⟨i, _, rfl⟩ := hc
  rw [UInt8.toNat_mod, show (16 : UInt8).toNat = 16 from rfl]
  omega
theorem pix_len (l : List UInt8) : (pix l).length = 64 := ((Pt.okPic_iff _).1 (pix_ok l)).1
theorem pix_get (s : ByteArray) (k : Nat) (hk : k < 64) (h : k % s.size < s.size) : (pix s.data.toList)[k]'(by rw [pix_len]; exact hk) = s[k % s.size] % 16 := by
  simp [pix, ByteArray.getElem_eq_getElem_data, h]
theorem pix_empty (s : ByteArray) (h : s.size = 0) : pix s.data.toList = List.replicate 64 0 := by
  have : s.data.toList = [] := List.length_eq_zero_iff.1 (by simpa using h)
  rw [this]; rfl
/-- What the row holds behind k rounds. -/
def rowAt (p : List UInt8) (k : Nat) : List UInt8 := p.take k ++ List.replicate (64 - k) 0
theorem rowAt_zero (p : List UInt8) : rowAt p 0 = List.replicate 64 0 := by simp [rowAt]
theorem rowAt_end (p : List UInt8) (h : p.length = 64) : rowAt p 64 = p := by simp [rowAt, ← h]
theorem rowAt_len (p : List UInt8) (h : p.length = 64) (k : Nat) (hk : k ≤ 64) : (rowAt p k).length = 64 := by simp [rowAt]; omega
theorem rowAt_set (p : List UInt8) (h : p.length = 64) (k : Nat) (hk : k < 64) : (rowAt p k).set k (p[k]'(by omega)) = rowAt p (k + 1) := by
  unfold rowAt
  have e : (p.take k).length = k := by rw [List.length_take]; omega
  rw [List.set_append_right _ _ (by omega), List.take_succ_eq_append_getElem (by omega), e, Nat.sub_self, show 64 - k = (64 - (k + 1)) + 1 from by omega, List.replicate_succ, List.set_cons_zero, List.append_assoc]
  rfl

theorem made64 : (madeCells (Value.int .u8 0).cells (64 * 1)).toList = (List.replicate 64 (0 : UInt8)).map bv := by
  show (madeCells #[.int .u8 0] 64).toList = _
  rw [toList_madeCells_one, List.map_replicate]
  rfl

set_option maxHeartbeats 400000 in
theorem picture_any (s : ByteArray) (w : World) (hs : s.size ≤ maxLen) :
    Calls Try.prog 8 #[.string s] w fun e w' => e = .returned (.string ⟨(pix s.data.toList).toArray⟩) ∧ Below w.heap.size w w' := by
  unfold maxLen at hs
  obtain ⟨i0, hi, hz0, hz1, hz2⟩ := info_parts Try.info5
  go_enter Try.func8, Try.ntmps8
  go_wp2_with (at_make; refine wpList_make_full _ rfl _ _ 29 rfl w.heap.size 5 i0 (.int .u8 0) 1 Try.underlying29 hi hz0 hz1 .i64 .i64 64 64 64 rfl rfl rfl rfl (by rw [hz2]; decide) (by decide) (Nat.le_refl _) ?_; intro w1 hown hgrow)
  rw [made64] at hown
  have hbel : Below w.heap.size w w1 := (Below.refl _ _).grown hgrow (Nat.le_refl _) (by simp)
  clear hgrow
  go_loopw [4] (fun i wr => ∃ k : Nat, k ≤ 64 ∧ (s.size = 0 → k = 0) ∧ i = .int .i64 k ∧ OwnB wr w.heap.size (.slice (some ⟨w.heap.size, 0, none⟩) 64 64) (rowAt (pix s.data.toList) k) ∧ Below w.heap.size w wr) (fun i _ => 64 - (intOf i).toNat)
  case atStart => exact ⟨0, by omega, fun _ => rfl, rfl, by rw [rowAt_zero]; exact hown, hbel⟩
  case round =>
    clear hown hbel
    obtain ⟨k, hk, h0, rfl, hown, hbel⟩ := hrel
    have hlen := rowAt_len _ (pix_len s.data.toList) k hk
    by_cases hlt : k < 64 ∧ 0 < s.size
    · obtain ⟨hlt, hpos⟩ := hlt
      have hr : k % s.size < s.size := Nat.mod_lt _ hpos
      have hown0 : wr.ownsRow w.heap.size 5 1 (.slice (some ⟨w.heap.size, 0, none⟩) 64 64) 64 ((rowAt (pix s.data.toList) k).map bv) := by simpa [OwnB, hlen] using hown
      have hf := World.ownsRow.frozenAt hown0 k
      obtain ⟨v0, hc⟩ : ∃ v0, wr.cell? ⟨w.heap.size, k, none⟩ = some v0 := ⟨_, (World.ownsRow.cellAt hown0 k (by omega)).trans (List.getElem?_eq_getElem (by simp; omega))⟩
      have hst := World.ownsRow.stored hown0 k (.int .u8 ((s[k % s.size].toNat : Int) % 16))
      have hnew : OwnB (wr.setCell ⟨w.heap.size, k, none⟩ (.int .u8 ((s[k % s.size].toNat : Int) % 16))) w.heap.size (.slice (some ⟨w.heap.size, 0, none⟩) 64 64) (rowAt (pix s.data.toList) (k + 1)) := by
        unfold OwnB
        rw [rowAt_len _ (pix_len s.data.toList) (k + 1) (by omega), ← rowAt_set _ (pix_len s.data.toList) k hlt, List.map_set, pix_get s k hlt hr]
        have e : bv (s[k % s.size] % 16) = .int .u8 ((s[k % s.size].toNat : Int) % 16) := by simp [bv]
        rw [e]
        exact hst.1
      have hnb := hbel.setCell (p := ⟨w.heap.size, k, none⟩) (Nat.le_refl _) (.int .u8 ((s[k % s.size].toNat : Int) % 16))
      clear hown hown0 hst hlen hbel
      go_wp2
      go_roundw
      case rel => exact ⟨k + 1, by omega, fun h => by omega, by go_num, hnew, hnb⟩
      case measure => simp [intOf]; omega
    · have hcv := hown.str 0
      rw [World.drewN_zero] at hcv
      have hfin : Hid (rowAt (pix s.data.toList) k = pix s.data.toList) := by
        show rowAt (pix s.data.toList) k = pix s.data.toList
        by_cases hz : s.size = 0
        · rw [h0 hz, rowAt_zero, pix_empty s hz]
        · rw [show k = 64 from by omega, rowAt_end _ (pix_len _)]
      by_cases hk64 : k < 64
      all_goals
        go_wp2
        go_ret
        exact ⟨ret_str (unhide hfin), hbel⟩

theorem arr_eta (P : ByteArray) : (⟨P.data.toList.toArray⟩ : ByteArray) = P := by simp
theorem of_pack (P : ByteArray) (h : Pt.okPic P.data.toList = true) : ∃ S : ByteArray, (⟨(Pt.body P.data.toList).toArray⟩ : ByteArray) = S ∧ S.data.toList = Pt.body P.data.toList ∧ Pt.okBody S.data.toList = true ∧ 7 ≤ S.size ∧ S.size ≤ 67 ∧ (⟨(Pt.spread (Pt.mid S.data.toList)).toArray⟩ : ByteArray) = P := by
  refine ⟨_, rfl, rfl, Pt.okBody_body _ h, ?_, ?_, ?_⟩
  · exact (Pt.body_len _ h).1
  · exact (Pt.body_len _ h).2
  · show (⟨(Pt.spread (Pt.mid (Pt.body P.data.toList))).toArray⟩ : ByteArray) = P
    rw [Pt.spread_mid_body _ h, arr_eta]
theorem of_pix (l : List UInt8) : ∃ P : ByteArray, (⟨(pix l).toArray⟩ : ByteArray) = P ∧ Pt.okPic P.data.toList = true ∧ P.size = 64 :=
  ⟨_, rfl, by simpa using pix_ok l, by rw [size_of_len, pix_len]⟩

theorem of_unpack (b : ByteArray) (h : Pt.okBody b.data.toList = true) : ∃ R : ByteArray, (⟨(Pt.spread (Pt.mid b.data.toList)).toArray⟩ : ByteArray) = R ∧ Pt.okPic R.data.toList = true ∧ (⟨(Pt.body R.data.toList).toArray⟩ : ByteArray) = b := by
  obtain ⟨_, h1, h2⟩ := (Pt.okBody_iff _).1 h
  refine ⟨_, rfl, by simpa using h1, ?_⟩
  show (⟨(Pt.body (Pt.spread (Pt.mid b.data.toList))).toArray⟩ : ByteArray) = b
  rw [h2, arr_eta]
theorem ink_no (a : ByteArray) : Pt.okPic (a ++ ⟨#[16]⟩ : ByteArray).data.toList = false := by
  rw [Bool.eq_false_iff, ne_eq, Pt.okPic_iff]
  intro h
  have := h.2 16 (by simp)
  revert this
  decide

set_option maxHeartbeats 800000 in
theorem round_walk (t b : ByteArray) (w : World) (ht : t.size ≤ maxLen) (hb : b.size ≤ maxLen) :
    Calls Try.prog 4 #[.string t, .string b] w fun e w' => e = .returned (.bool true) ∧ Below w.heap.size w w' := by
  go_enter Try.func4, Try.ntmps4
  go_wp2_with fail
  refine (picture_any t _ ht).mono ?_
  rintro e w1 ⟨rfl, hb1⟩
  obtain ⟨P, hP, okP, szP⟩ := of_pix t.data.toList
  rw [hP]
  clear hP
  have hPm : P.size ≤ maxLen := by rw [szP]; decide
  have SZ := hide szP
  have szP' : 64 ≤ P.size := by omega
  have szP'' : P.size ≤ 64 := by omega
  clear szP
  have OKP := hide okP
  go_wp2_with fail
  refine (pack_yes P _ okP).mono ?_
  rintro e w2 ⟨rfl, hb2⟩
  obtain ⟨S, hS, hSl, okS, s7, s67, hQ⟩ := of_pack P okP
  have hSm : S.size ≤ maxLen := by unfold maxLen; omega
  rw [hS]
  clear hS
  have HSL := hide hSl
  have OKS := hide okS
  have HQ := hide hQ
  clear hSl hQ okP okS
  go_wp2_with fail
  refine (unpack_yes S _ hSm (unhide OKS)).mono ?_
  rintro e w3 ⟨rfl, hb3⟩
  rw [unhide HQ]
  have hbA := (hb1.trans (hb2.mono hb1.size)).trans (hb3.mono (Nat.le_trans hb1.size hb2.size))
  clear hb1 hb2 hb3
  go_wp2_with fail
  have no1 : Pt.okPic (P.extract 1 P.size).data.toList = false := notpic _ (by simp; omega)
  refine (pack_no (P.extract 1 P.size) _ (by unfold maxLen at *; simp; omega) no1).mono ?_
  rintro e w4 ⟨rfl, rfl⟩
  clear no1
  go_wp2_with fail
  refine (pack_no _ _ ?z1 ?z2).mono ?_
  case z1 => rw [ByteArray.size_append]; show P.size + 1 ≤ maxLen; unfold maxLen; omega
  case z2 => exact notpic _ (by rw [ByteArray.size_append]; show P.size + 1 ≠ 64; omega)
  rintro e w4 ⟨rfl, rfl⟩
  go_wp2_with fail
  refine (pack_no _ _ ?z3 ?z4).mono ?_
  case z3 => rw [ByteArray.size_append]; show (P.extract 1 P.size).size + 1 ≤ maxLen; unfold maxLen; simp; omega
  case z4 => exact ink_no _
  rintro e w4 ⟨rfl, rfl⟩
  go_wp2_with fail
  cases hB : Pt.okBody b.data.toList with
  | false =>
    refine (unpack_no b _ hb hB).mono ?_
    rintro e w4 ⟨rfl, hb4⟩
    clear hB
    go_wp2_with fail
    go_ret
    exact ⟨rfl, hbA.trans (hb4.mono hbA.size)⟩
  | true =>
    refine (unpack_yes b _ hb hB).mono ?_
    rintro e w4 ⟨rfl, hb4⟩
    obtain ⟨R, hR, okR, hbR⟩ := of_unpack b hB
    rw [hR]
    have OKR := hide okR
    have HBR := hide hbR
    clear hB hR okR hbR
    go_wp2_with fail
    refine (pack_yes R _ (unhide OKR)).mono ?_
    rintro e w5 ⟨rfl, hb5⟩
    rw [unhide HBR]
    go_wp2_with fail
    go_ret
    exact ⟨rfl, (hbA.trans (hb4.mono hbA.size)).trans (hb5.mono (Nat.le_trans hbA.size hb4.size))⟩
end Go.Proofs.Ytdpabfggajjapaa
