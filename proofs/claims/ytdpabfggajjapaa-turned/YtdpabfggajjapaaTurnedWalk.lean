/-
  atlaskeep.pick, atlaskeep.Turned: what they answer.
-/
import Derived.Test.YtdpabfggajjapaaRoundWalk
namespace Go.Proofs.Ytdpabfggajjapaa
open Go.RowKit

set_option maxHeartbeats 400000 in
theorem pick_any (a n : Int) (w : World) (h1 : -9223372036854775808 ≤ a) (h2 : a ≤ 9223372036854775807) (hn : 1 ≤ n) (hn' : n ≤ 1000000) :
    Calls Try.prog 11 #[.int .i64 a, .int .i64 n] w fun e w' => (∃ r : Nat, (r : Int) < n ∧ e = .returned (.int .i64 r)) ∧ w = w' := by
  by_cases h : a < 0
  · go_enter Try.func11, Try.ntmps11
    go_wp2
    go_ret
    refine ⟨⟨((-(a + 1)) % n).toNat, ?_, ret_int ?_⟩, rfl⟩
    · have := Int.emod_lt_of_pos (-(a + 1)) (show 0 < n by omega)
      have := Int.emod_nonneg (-(a + 1)) (show n ≠ 0 by omega)
      omega
    · have e0 := Int.emod_nonneg (-(a + 1)) (show n ≠ 0 by omega)
      have e1 : (-(a + 1)).tmod n = (-(a + 1)) % n := Int.tmod_eq_emod_of_nonneg (by omega)
      rw [Int.neg_tmod] at e1
      omega
  · go_enter Try.func11, Try.ntmps11
    go_wp2
    go_ret
    refine ⟨⟨(a % n).toNat, ?_, ret_int ?_⟩, rfl⟩
    · have := Int.emod_lt_of_pos a (show 0 < n by omega)
      have := Int.emod_nonneg a (show n ≠ 0 by omega)
      omega
    · have := Int.emod_nonneg a (show n ≠ 0 by omega)
      omega

theorem other_byte (c : UInt8) (d : Nat) (hd : d < 255) : ∃ v : UInt8, IntKind.u8.wrap ((c.toNat : Int) + (1 + (d : Int))) = (v.toNat : Int) ∧ v ≠ c := by
  refine ⟨UInt8.ofNat (c.toNat + 1 + d), ?_, ?_⟩
  · rw [IntKind.wrap_u8, UInt8.toNat_ofNat']
    omega
  · intro h
    have hc : c.toNat < 256 := c.toNat_lt
    have := congrArg UInt8.toNat h
    rw [UInt8.toNat_ofNat'] at this
    omega
theorem str_one (v : UInt8) (W : World) (g : Nat) (h : W.cell? ⟨g, 0, none⟩ = some (.int .u8 (v.toNat : Int))) : (convert 29 9 (.slice (some ⟨g, 0, none⟩) 1 1)).run Try.prog W = .ok (.string ⟨#[v]⟩) W := by
  refine run_convert_bytes_back W 29 9 5 ⟨g, 0, none⟩ 1 [v] Try.underlying29 Try.underlying5 Try.underlying9 ?_
  intro j hj
  have : j = 0 := by simpa using hj
  subst this
  simpa [Addr.add] using h

theorem cut_lo (S : ByteArray) (i : Nat) : (S.extract 0 i).data.toList = S.data.toList.take i := by rw [Lib.extract_data]; simp
theorem cut_hi (S : ByteArray) (i : Nat) : (S.extract i S.size).data.toList = S.data.toList.drop i := by rw [Lib.extract_data, List.take_of_length_le (by simp)]
theorem toList_app (a b : ByteArray) : (a ++ b).data.toList = a.data.toList ++ b.data.toList := by simp
theorem turned_str (S : ByteArray) (i : Nat) (hi : i < S.size) (v : UInt8) (hv : v ≠ S[i]) (h : Pt.okBody S.data.toList = true) (h67 : S.size ≤ 67) :
    ∃ T : ByteArray, S.extract 0 i ++ ⟨#[v]⟩ ++ S.extract (i + 1) S.size = T ∧ Pt.okBody T.data.toList = false ∧ T.size ≤ maxLen := by
  have e : (S.extract 0 i ++ ⟨#[v]⟩ ++ S.extract (i + 1) S.size).data.toList = S.data.toList.set i v := by
    rw [toList_app, toList_app, cut_lo, cut_hi, List.set_eq_take_append_cons_drop, if_pos (by simpa using hi)]
    simp
  refine ⟨_, rfl, ?_, ?_⟩
  · rw [e]
    exact Pt.turned_none _ h i (by simpa using hi) v hv
  · have e2 := congrArg List.length e
    rw [List.length_set] at e2
    simp only [Array.length_toList, ByteArray.size_data] at e2
    rw [e2]; unfold maxLen; omega
theorem less_str (S : ByteArray) (i : Nat) (hi : i < S.size) (h : Pt.okBody S.data.toList = true) (h67 : S.size ≤ 67) :
    ∃ T : ByteArray, S.extract 0 i ++ S.extract (i + 1) S.size = T ∧ Pt.okBody T.data.toList = false ∧ T.size ≤ maxLen := by
  have e : (S.extract 0 i ++ S.extract (i + 1) S.size).data.toList = S.data.toList.eraseIdx i := by
    rw [toList_app, cut_lo, cut_hi, List.eraseIdx_eq_take_drop_succ]
  refine ⟨_, rfl, ?_, ?_⟩
  · rw [e]
    exact Pt.less_none _ h i (by simpa using hi)
  · have e2 := congrArg List.length e
    have e3 := List.length_eraseIdx_le S.data.toList i
    simp only [Array.length_toList, ByteArray.size_data] at e2 e3
    unfold maxLen; omega
theorem more_str (S : ByteArray) (i : Nat) (hi : i ≤ S.size) (v : UInt8) (h : Pt.okBody S.data.toList = true) (h67 : S.size ≤ 67) :
    ∃ T : ByteArray, S.extract 0 i ++ ⟨#[v]⟩ ++ S.extract i S.size = T ∧ Pt.okBody T.data.toList = false ∧ T.size ≤ maxLen := by
  have e : (S.extract 0 i ++ ⟨#[v]⟩ ++ S.extract i S.size).data.toList = S.data.toList.take i ++ v :: S.data.toList.drop i := by
    rw [toList_app, toList_app, cut_lo, cut_hi]
    simp
  have hl : (S.data.toList.take i).length = i := by simp; omega
  refine ⟨_, rfl, ?_, ?_⟩
  · rw [e]
    refine Pt.more_none S.data.toList _ h i (by rw [List.length_append, hl]; simp) ?_
    rw [List.eraseIdx_append_of_length_le (by omega), hl, Nat.sub_self, List.eraseIdx_cons_zero, List.take_append_drop]
  · have e2 := congrArg List.length e
    rw [List.length_append, hl] at e2
    simp only [Array.length_toList, ByteArray.size_data, List.length_cons, List.length_drop] at e2
    unfold maxLen; omega

theorem end_str (S : ByteArray) (v : UInt8) (h : Pt.okBody S.data.toList = true) (h67 : S.size ≤ 67) :
    ∃ T : ByteArray, S ++ ⟨#[v]⟩ = T ∧ Pt.okBody T.data.toList = false ∧ T.size ≤ maxLen := by
  refine ⟨_, rfl, ?_, ?_⟩
  · rw [toList_app]
    refine Pt.more_none S.data.toList _ h S.data.toList.length (by simp) ?_
    rw [List.eraseIdx_append_of_length_le (Nat.le_refl _), Nat.sub_self]
    simp
  · rw [ByteArray.size_append]
    show S.size + 1 ≤ maxLen
    unfold maxLen; omega

set_option maxHeartbeats 800000 in
theorem turned_walk (t : ByteArray) (a b : Int) (w : World) (ht : t.size ≤ maxLen) (ha : -9223372036854775808 ≤ a ∧ a ≤ 9223372036854775807) (hb : -9223372036854775808 ≤ b ∧ b ≤ 9223372036854775807) :
    Calls Try.prog 5 #[.string t, .int .i64 a, .int .i64 b] w fun e w' => e = .returned (.bool true) ∧ Below w.heap.size w w' := by
  obtain ⟨ha1, ha2⟩ := ha
  obtain ⟨hb1, hb2⟩ := hb
  go_enter Try.func5, Try.ntmps5
  go_wp2_with fail
  refine (picture_any t _ ht).mono ?_
  rintro e w1 ⟨rfl, hw1⟩
  obtain ⟨P, hP, okP, szP⟩ := of_pix t.data.toList
  rw [hP]
  clear hP szP
  go_wp2_with fail
  refine (pack_yes P _ okP).mono ?_
  rintro e w2 ⟨rfl, hw2⟩
  obtain ⟨S, hS, hSl, okS, s7, s67, hQ⟩ := of_pack P okP
  have hSm : S.size ≤ maxLen := by unfold maxLen; omega
  rw [hS]
  clear hS
  have OKS := hide okS
  have HQ := hide hQ
  clear hQ okP okS hSl
  go_wp2_with fail
  refine (unpack_yes S _ hSm (unhide OKS)).mono ?_
  rintro e w3 ⟨rfl, hw3⟩
  rw [unhide HQ]
  have hbA := (hw1.trans (hw2.mono hw1.size)).trans (hw3.mono (Nat.le_trans hw1.size hw2.size))
  clear hw1 hw2 hw3
  have hne : S.toList.isEmpty = false := by
    rw [ByteArray.toList_eq]
    simp
    intro h
    have : S.size = 0 := by rw [← ByteArray.size_data, h]; rfl
    omega
  go_wp2_with fail
  refine (pick_any a _ _ ha1 ha2 (by omega) (by omega)).mono ?_
  rintro e w4 ⟨⟨i, hi, rfl⟩, rfl⟩
  go_wp2_with fail
  refine (pick_any b _ _ hb1 hb2 (by omega) (by omega)).mono ?_
  rintro e w4 ⟨⟨d, hd, rfl⟩, rfl⟩
  go_wp2_with fail
  have hi' : i < S.size := by omega
  obtain ⟨v, hv, hvne⟩ := other_byte S[i] d (by omega)
  have hcv1 := fun W => str_one v W w3.heap.size
  obtain ⟨T, hT, noT, szT⟩ := turned_str S i hi' v hvne (unhide OKS) s67
  go_region
  clear hT hcv1 hv hvne
  obtain ⟨W4, hW4⟩ : ∃ W, W = (w3.alloc (.cells #[.int .u8 (v.toNat : Int)] 5)).drew := ⟨_, rfl⟩
  rw [← hW4]
  have hb4 : Below w.heap.size w W4 := by rw [hW4]; exact (hbA.alloc hbA.size _).drew
  clear hW4 hbA
  obtain ⟨L, hL, noL, szL⟩ := less_str S i hi' (unhide OKS) s67
  have NT := hide noT
  have NL := hide noL
  clear noT noL
  go_wp2_with fail
  go_region
  clear hL
  obtain ⟨u, hu⟩ : ∃ u : UInt8, (1 + (d : Int) - 1) = (u.toNat : Int) := ⟨UInt8.ofNat d, by rw [UInt8.toNat_ofNat']; omega⟩
  obtain ⟨M, hM, noM, szM⟩ := more_str S i (by omega) u (unhide OKS) s67
  have NM := hide noM
  have hcv2 := fun W => str_one u W W4.heap.size
  have hi2 : i ≤ S.size := by omega
  clear noM
  go_wp2_with fail
  go_region
  clear hM hcv2 hu
  obtain ⟨W5, hW5⟩ : ∃ W, W = (W4.alloc (.cells #[.int .u8 (u.toNat : Int)] 5)).drew.drew := ⟨_, rfl⟩
  have hb5 : Below w.heap.size w W5 := by rw [hW5]; exact ((hb4.alloc hb4.size _).drew).drew
  rw [← hW5]
  clear hW5 hb4
  go_wp2_with fail
  refine (unpack_no T _ szT (unhide NT)).mono ?_
  rintro e w6 ⟨rfl, hw6⟩
  go_wp2_with fail
  refine (unpack_no L _ szL (unhide NL)).mono ?_
  rintro e w7 ⟨rfl, hw7⟩
  go_wp2_with fail
  refine (unpack_no M _ szM (unhide NM)).mono ?_
  rintro e w8 ⟨rfl, hw8⟩
  have hb8 := ((hb5.trans (hw6.mono hb5.size)).trans (hw7.mono (Nat.le_trans hb5.size hw6.size))).trans (hw8.mono (Nat.le_trans (Nat.le_trans hb5.size hw6.size) hw7.size))
  clear hb5 hw6 hw7 hw8 NT NL NM
  obtain ⟨x, hx⟩ : ∃ x : UInt8, (1 + (d : Int)) = (x.toNat : Int) := ⟨UInt8.ofNat (1 + d), by rw [UInt8.toNat_ofNat']; omega⟩
  obtain ⟨E, hE, noE, szE⟩ := end_str S x (unhide OKS) s67
  have NE := hide noE
  clear noE
  have hcv3 := fun W => str_one x W w8.heap.size
  go_wp2_with fail
  refine (unpack_no E _ szE (unhide NE)).mono ?_
  rintro e w9 ⟨rfl, hw9⟩
  have hb9 : Below w.heap.size w w9 := (hb8.alloc hb8.size _).trans (hw9.mono (by simp; have := hb8.size; omega))
  clear hb8 hw9 hE hcv3 hx NE
  go_wp2_with fail
  go_ret
  exact ⟨rfl, hb9⟩
end Go.Proofs.Ytdpabfggajjapaa
