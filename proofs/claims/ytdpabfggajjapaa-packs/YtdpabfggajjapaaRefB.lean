/-
  atlasref.Pack: what it answers.
-/
import Derived.Test.YtdpabfggajjapaaRefA
namespace Go.Proofs.Ytdpabfggajjapaa
open Go.RowKit

theorem lead_min (c : UInt8) : ∀ (n m : Nat) (r : List UInt8), m ≤ n → Pt.lead c m r = min m (Pt.lead c n r)
  | _, 0, _, _ => by simp [Pt.lead]
  | 0, m + 1, _, h => by omega
  | n + 1, m + 1, [], _ => by simp [Pt.lead]
  | n + 1, m + 1, x :: r, h => by
    have := lead_min c n m r (by omega)
    unfold Pt.lead
    split <;> omega
/-- The runs that begin from pixel k on. -/
def rest (l : List UInt8) : Nat → List UInt8
  | 0 => Pt.runs l
  | k + 1 => Pt.runs ((l.drop (k + 1)).drop (Pt.lead (l.getD k 0) (15 - back l k % 16) (l.drop (k + 1))))
theorem drop_list (l : List UInt8) (k : Nat) (h : k < l.length) : l.drop k = l.getD k 0 :: l.drop (k + 1) := by
  rw [List.drop_eq_getElem_cons h]; simp [h]
theorem back_eq (l : List UInt8) (j : Nat) (h : j + 1 < l.length) : back l (j + 1) = if l.getD (j + 1) 0 = l.getD j 0 then back l j + 1 else 0 := by
  have e : (l[j + 1]? = l[j]?) = (l.getD (j + 1) 0 = l.getD j 0) := by
    rw [List.getElem?_eq_getElem h, List.getElem?_eq_getElem (show j < l.length by omega)]
    simp [h, show j < l.length by omega]
  simp only [back, e]
theorem rest_start (l : List UInt8) (k : Nat) (h : k < l.length) (hb : back l k % 16 = 0) : rest l k = Pt.runs (l.drop k) := by
  cases k with
  | zero => rfl
  | succ j =>
    rw [back_eq l j h] at hb
    have : Pt.lead (l.getD j 0) (15 - back l j % 16) (l.drop (j + 1)) = 0 := by
      rw [drop_list l (j + 1) h]
      by_cases hx : l.getD (j + 1) 0 = l.getD j 0
      · rw [if_pos hx] at hb
        rw [show 15 - back l j % 16 = 0 from by omega]
        rfl
      · cases 15 - back l j % 16 with
        | zero => rfl
        | succ n => rw [Pt.lead, if_neg hx]
    rw [rest, this, List.drop_zero]
theorem rest_emit (l : List UInt8) (k : Nat) (h : k < l.length) (hb : back l k % 16 = 0) :
    rest l k = Pt.runByte (Pt.lead (l.getD k 0) 15 (l.drop (k + 1))) (l.getD k 0) :: rest l (k + 1) := by
  rw [rest_start l k h hb, drop_list l k h, Pt.runs_cons, rest, hb]
theorem rest_skip (l : List UInt8) (k : Nat) (h : k < l.length) (hb : ¬ back l k % 16 = 0) : rest l k = rest l (k + 1) := by
  cases k with
  | zero => simp [back] at hb
  | succ j =>
    have hbe := back_eq l j h
    by_cases hx : l.getD (j + 1) 0 = l.getD j 0
    · rw [if_pos hx] at hbe
      rw [hbe] at hb
      simp only [rest]
      rw [drop_list l (j + 1) h, ← hx, show 15 - back l j % 16 = (15 - back l (j + 1) % 16) + 1 from by omega]
      simp only [Pt.lead, if_true, List.drop_succ_cons]
    · rw [if_neg hx] at hbe
      rw [hbe] at hb
      simp at hb
theorem rest_end (l : List UInt8) (k : Nat) (h : ¬ k < l.length) : rest l k = [] := by
  cases k with
  | zero =>
    have : l = [] := List.length_eq_zero_iff.1 (by omega)
    subst this; rfl
  | succ j => rw [rest, List.drop_of_length_le (show l.length ≤ j + 1 by omega)]; simp [Pt.runs]

def RefSo (s : ByteArray) (k : Nat) (l : List UInt8) : Prop := l ++ rest s.data.toList k = 84 :: Pt.runs s.data.toList
theorem refSo_start (s : ByteArray) : RefSo s 0 [84] := rfl
theorem getD_at (s : ByteArray) (k : Nat) (h : k < s.size) : s.data.toList.getD k 0 = s[k] := by
  rw [List.getD_eq_getElem?_getD, get_at s k h]; rfl
theorem refSo_emit (s : ByteArray) (k : Nat) (h : k < s.size) (l : List UInt8) (hb : back s.data.toList k % 16 = 0) (hl : RefSo s k l) :
    RefSo s (k + 1) (l ++ [Pt.runByte (min 15 (Pt.lead s[k] 64 (s.data.toList.drop (k + 1)))) s[k]]) := by
  unfold RefSo at hl ⊢
  rw [rest_emit _ k (by simpa using h) hb, getD_at s k h, lead_min s[k] 64 15 _ (by omega)] at hl
  rw [List.append_assoc]
  exact hl
theorem refSo_skip (s : ByteArray) (k : Nat) (h : k < s.size) (l : List UInt8) (hb : ¬ back s.data.toList k % 16 = 0) (hl : RefSo s k l) : RefSo s (k + 1) l := by
  unfold RefSo at hl ⊢
  rw [← rest_skip _ k (by simpa using h) hb]
  exact hl
theorem refSo_end (s : ByteArray) (k : Nat) (h : ¬ k < s.size) (l : List UInt8) (hl : RefSo s k l) : l = 84 :: Pt.runs s.data.toList := by
  unfold RefSo at hl
  rw [rest_end _ k (by simpa using h), List.append_nil] at hl
  exact hl

set_option maxHeartbeats 400000 in
theorem refPack_no (s : ByteArray) (w : World) (hs : s.size ≤ maxLen) (h : Pt.okPic s.data.toList = false) :
    Calls Try.prog 12 #[.string s] w fun e w' => e = .returned (.tuple #[.string ⟨#[]⟩, .int .i64 5]) ∧ w = w' := by
  go_enter Try.func12, Try.ntmps12
  go_wp2_with (go_at_call 18; refine (refPicture_any s _ hs).mono ?_; rintro e w' ⟨rfl, rfl⟩)
  go_ret2
  exact ⟨rfl, rfl⟩

set_option maxHeartbeats 1600000 in
theorem refPack_yes (s : ByteArray) (w : World) (h : Pt.okPic s.data.toList = true) :
    Calls Try.prog 12 #[.string s] w fun e w' => e = .returned (.tuple #[.string ⟨(Pt.body s.data.toList).toArray⟩, .int .i64 0]) ∧ Below w.heap.size w w' := by
  obtain ⟨h64, hink⟩ := (Pt.okPic_iff _).1 h
  have hs64 : s.size = 64 := by simpa using h64
  have hs : s.size ≤ maxLen := by rw [hs64]; decide
  have hs' : s.size ≤ 64 := by omega
  have hs'' : 64 ≤ s.size := by omega
  have HI := hide hink
  have H64 := hide hs64
  clear h64 hink hs64
  go_enter Try.func12, Try.ntmps12
  go_wp2_with (go_at_call 18; refine (refPicture_any s _ hs).mono ?_; rintro e w' ⟨rfl, rfl⟩)
  go_loopw [5, 6, 7, 8, 9, 10, 11] (fun v a b i _ _ _ wr => ∃ (k : Nat) (l : List UInt8), k ≤ 64 ∧ i = .int .i64 k ∧ a = .int .i64 (Pt.sum1 (s.data.toList.take k) : Int) ∧ b = .int .i64 (Pt.sum2 64 (s.data.toList.take k)) ∧ l.length ≤ k + 1 ∧ Hid (RefSo s k l) ∧ OwnB wr w.heap.size v l ∧ Below w.heap.size w wr) (fun _ _ _ i _ _ _ _ => 64 - (intOf i).toNat)
  case atStart => exact ⟨0, [84], by omega, rfl, rfl, rfl, by simp, refSo_start s, ownB_one w _ (Nat.le_refl _) 84 84 rfl, (Below.refl _ _).alloc (Nat.le_refl _) _⟩
  case round =>
    obtain ⟨k, l, hk, rfl, rfl, rfl, hlen, hL, hown, hbel⟩ := hrel
    have hsz := hbel.size
    have hl : (s.data.toList.take k).length = k := by simp; omega
    have b1 := Pt.sum1_le (s.data.toList.take k)
    have b2 := Pt.sum2_le (s.data.toList.take k) 64 (by omega) (by omega)
    rw [hl] at b1 b2
    clear hl
    by_cases hlt : k < 64
    · have hks : k < s.size := by omega
      have hc15 : s[k].toNat ≤ 15 := unhide HI _ (Array.mem_toList_iff.2 (Array.getElem_mem _))
      have e1 := hide (sum1_snoc s k hks)
      have e2 := hide (sum2_snoc s k hks)
      have m1 : 0 ≤ (64 - (k : Int)) * s[k].toNat := Int.mul_nonneg (by omega) (by omega)
      have m2 : (64 - (k : Int)) * s[k].toNat ≤ 64 * 15 := Int.mul_le_mul (by omega) (by omega) (by omega) (by omega)
      have hcall := fun wx => stretch_any s k wx hs' hks
      have hbk := back_le s.data.toList k
      have hld := Pt.lead_le s[k] 64 (s.data.toList.drop (k + 1))
      have hem := hide (refSo_emit s k hks l)
      have hsk := hide (refSo_skip s k hks l)
      generalize back s.data.toList k = b at hcall hbk hem hsk
      generalize Pt.lead s[k] 64 (s.data.toList.drop (k + 1)) = m at hcall hld hem
      generalize Pt.sum1 (s.data.toList.take k) = S1 at b1 e1
      generalize Pt.sum2 64 (s.data.toList.take k) = S2 at b2 e2
      have hm : k + 1 + m ≤ s.size := by rw [List.length_drop] at hld; simp at hld; omega
      have hcall' := hide hcall
      clear hcall hld
      by_cases hb : b % 16 = 0
      · have hR := hide (unhide hem hb (unhide hL))
        clear hem hsk hL
        by_cases hm16 : 16 < m + 1
        · rw [show min 15 m = 15 from by omega] at hR
          go_wp2_with (first | (go_at_call 19; refine (unhide hcall' _).mono ?_; rintro e w1 ⟨rfl, q, hq⟩; subst hq) | (at_builtin; refine wp_append_byte rfl (.tmp 37) (.tmp 47) rfl _ w.heap.size _ l (Pt.runByte 15 s[k]) _ rfl (hown.drewN _) rfl ?_ ?_ ?_ ?_))
          · rw [runByte_int 15 _ (by omega) hc15]; omega
          · omega
          · simpa using hsz
          · intro v' w1 hown' hbel'
            have hbel2 : Below w.heap.size w w1 := (below_drewN hbel _).trans hbel'
            clear hown hbel hbel' hcall'
            go_wp2
            go_roundw
            case rel => exact ⟨k + 1, _, by omega, by go_num, by rw [unhide e1]; go_num, by rw [unhide e2], by simp; omega, hR, hown', hbel2⟩
            case measure => simp [intOf]; omega
        · rw [show min 15 m = m from by omega] at hR
          go_wp2_with (first | (go_at_call 19; refine (unhide hcall' _).mono ?_; rintro e w1 ⟨rfl, q, hq⟩; subst hq) | (at_builtin; refine wp_append_byte rfl (.tmp 37) (.tmp 47) rfl _ w.heap.size _ l (Pt.runByte m s[k]) _ rfl (hown.drewN _) rfl ?_ ?_ ?_ ?_))
          · rw [runByte_int m _ (by omega) hc15]; omega
          · omega
          · simpa using hsz
          · intro v' w1 hown' hbel'
            have hbel2 : Below w.heap.size w w1 := (below_drewN hbel _).trans hbel'
            clear hown hbel hbel' hcall'
            go_wp2
            go_roundw
            case rel => exact ⟨k + 1, _, by omega, by go_num, by rw [unhide e1]; go_num, by rw [unhide e2], by simp; omega, hR, hown', hbel2⟩
            case measure => simp [intOf]; omega
      · have hR := hide (unhide hsk hb (unhide hL))
        clear hem hsk hL
        go_wp2_with (go_at_call 19; refine (unhide hcall' _).mono ?_; rintro e w1 ⟨rfl, q, hq⟩; subst hq)
        go_roundw
        case rel => exact ⟨k + 1, _, by omega, by go_num, by rw [unhide e1]; go_num, by rw [unhide e2], by omega, hR, hown.drewN _, below_drewN hbel _⟩
        case measure => simp [intOf]; omega
    · have hE := hide (refSo_end s k (by omega) l (unhide hL))
      have ek : s.data.toList.take k = s.data.toList := List.take_of_length_le (by simp; omega)
      rw [ek] at b1 b2
      have c1 := hide (ch1_int s.data.toList)
      have c2 := hide (ch2_int s.data.toList)
      rw [ek]
      generalize Pt.sum1 s.data.toList = S1 at b1 c1
      generalize Pt.sum2 64 s.data.toList = S2 at b2 c2
      clear hL ek
      go_wp2_with (at_builtin; refine wp_append_byte rfl (.tmp 64) (.tmp 69) rfl _ w.heap.size _ l (Pt.ch1 s.data.toList) _ rfl hown rfl ?_ ?_ ?_ ?_)
      · exact (unhide c1).symm
      · omega
      · exact hsz
      · intro v1 w1 hown1 hbel1
        have hbelA : Below w.heap.size w w1 := hbel.trans hbel1
        have hszA := hbelA.size
        clear hown hbel hbel1
        go_wp2_with (at_builtin; refine wp_append_byte rfl (.tmp 71) (.tmp 76) rfl _ w.heap.size _ (l ++ [Pt.ch1 s.data.toList]) (Pt.ch2 s.data.toList) _ rfl hown1 rfl ?_ ?_ ?_ ?_)
        · exact (unhide c2).symm
        · simp; omega
        · exact hszA
        · intro v2 w2 hown2 hbel2
          have hcv := hown2.str 0
          rw [World.drewN_zero] at hcv
          have hbelB : Below w.heap.size w w2 := hbelA.trans hbel2
          clear hown1 hbelA hbel2
          go_wp2
          go_ret2
          exact ⟨ret_str2 (by rw [unhide hE]; simp [Pt.body]), hbelB⟩
end Go.Proofs.Ytdpabfggajjapaa
