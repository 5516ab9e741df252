/-
  The texts Own, StA, StM, DwLeaf, PkParts, PkOwn, PkPack, PkUnpack, FgG, FhA, FgH, FgI, FhC, FhD, FkF.
-/
import Derived.Test.YtpopchckldbhdaaGreatDoorKase06
import Derived.Test.YtpopchckldbhdaaGreatDoorRows
import Derived.Laws.BytesArg
import Derived.Laws.IdiomStrings
import Derived.Deep.MidRow
import Derived.WalkSmall
import Derived.WalkKit
import Derived.WalkSpells
import Derived.WalkLawsBesides
import Derived.Deep.QuietTactic
import Derived.BigQuiet
import Derived.Lib.Strings
namespace Go.Proofs.YtpopchckldbhdaaGreatDoor
open Go.RowKit
set_option maxRecDepth 20000
theorem size_of_len (l : List UInt8) : (⟨l.toArray⟩ : ByteArray).size = l.length := rfl
theorem csAt_fs (W : World) (v : Value) (n : Nat) (fs : Nat -> Nat -> Int) : CsAt 24 W v n fs ↔ FsAt W v n fs := Iff.rfl
theorem tile_size (FL : List (Nat -> Int)) (l z x y : Int) : (tile FL l z x y).size = 64 := by unfold tile; rw [size_of_len, pic_len]
end Go.Proofs.YtpopchckldbhdaaGreatDoor
namespace Go.Proofs.YtpopchckldbhdaaGreatDoor.Dw
open Go.RowKit
set_option maxRecDepth 20000
theorem ret_str {a b : List UInt8} (h : a = b) : Ending.returned (.string ⟨a.toArray⟩) = .returned (.string ⟨b.toArray⟩) := by rw [h]
end Go.Proofs.YtpopchckldbhdaaGreatDoor.Dw
namespace Go.Proofs.YtpopchckldbhdaaGreatDoor.Pk
namespace Pt
def mid (b : List UInt8) : List UInt8 := (b.drop 1).take (b.length - 3)
theorem mid_mk (a c d : UInt8) (r : List UInt8) : mid (a :: (r ++ [c, d])) = r := by simp [mid]
def okBody (b : List UInt8) : Bool := decide (7 <= b.length /\ b.length <= 67) && (okPic (spread (mid b)) && decide (body (spread (mid b)) = b))
theorem okBody_iff (b : List UInt8) : okBody b = true ↔ (7 <= b.length /\ b.length <= 67) /\ okPic (spread (mid b)) = true /\ body (spread (mid b)) = b := by simp [okBody]
theorem mid_body (l : List UInt8) : mid (body l) = runs l := mid_mk _ _ _ _
theorem spread_mid_body (l : List UInt8) (h : okPic l = true) : spread (mid (body l)) = l := by
  rw [mid_body, spread_runs l ((okPic_iff l).1 h).2]
theorem okBody_body (l : List UInt8) (h : okPic l = true) : okBody (body l) = true := by
  rw [okBody_iff, spread_mid_body l h]
  exact ⟨body_len l h, h, rfl⟩
end Pt
end Go.Proofs.YtpopchckldbhdaaGreatDoor.Pk
namespace Go.Proofs.YtpopchckldbhdaaGreatDoor.Pk
open Go.RowKit
theorem ownB_none (w : World) (B : Nat) (hB : B <= w.heap.size) : OwnB (w.alloc (.cells #[] 5)) B (.slice (some ⟨w.heap.size, 0, none⟩) 0 0) [] :=
  World.ownsRow_lit w #[] 0 hB (Nat.zero_le _) rfl
theorem size_of_len (l : List UInt8) : (⟨l.toArray⟩ : ByteArray).size = l.length := rfl
theorem spread_snoc (s : ByteArray) (k : Nat) (h : k < s.size) : Pt.spread (s.data.toList.take (k + 1)) = Pt.spread (s.data.toList.take k) ++ List.replicate (s[k].toNat / 16 + 1) (s[k] % 16) := by
  rw [take_snoc s k h]; simp [Pt.spread, Pt.ofRun]
theorem spread_len (s : ByteArray) (k : Nat) (h : k <= s.size) : (Pt.spread (s.data.toList.take k)).length <= 16 * k := by
  have := (Pt.wt_le (s.data.toList.take k)).2
  have e : (s.data.toList.take k).length = k := by simp; omega
  rw [e] at this
  exact this
theorem rep_snoc (l : List UInt8) (j : Nat) (c : UInt8) : l ++ (List.replicate j c ++ [c]) = l ++ List.replicate (j + 1) c := by
  rw [List.replicate_succ']
theorem ret_str {a b : List UInt8} (h : a = b) : Ending.returned (.string ⟨a.toArray⟩) = .returned (.string ⟨b.toArray⟩) := by rw [h]
set_option maxHeartbeats 400000 in
theorem spread_any (s : ByteArray) (w : World) (hs : s.size <= 1000) :
    Calls Tryz.prog 50 #[.string s] w fun e w' => e = .returned (.string ⟨(Pt.spread s.data.toList).toArray⟩) /\ Below w.heap.size w w' := by
  go_enter Tryz.func50, Tryz.ntmps50
  go_wp2
  go_loopw [3, 4] (fun v i wr => ∃ k : Nat, k <= s.size /\ i = .int .i64 k /\ OwnB wr w.heap.size v (Pt.spread (s.data.toList.take k)) /\ Below w.heap.size w wr) (fun _ i _ => s.size - (intOf i).toNat)
  case atStart => exact ⟨0, Nat.zero_le _, rfl, ownB_none w _ (Nat.le_refl _), (Below.refl _ _).alloc (Nat.le_refl _) _⟩
  case round =>
    obtain ⟨k, hk, rfl, hown, hbel⟩ := hrel
    by_cases hlt : k < s.size
    . have hc : s[k].toNat < 256 := s[k].toNat_lt
      have hsn := hide (spread_snoc s k hlt)
      have hsl := spread_len s k hk
      generalize hl : Pt.spread (s.data.toList.take k) = l at hown hsl hsn
      clear hl
      go_wp2
      go_loopw [3, 6] (fun v i wr => ∃ j : Nat, j <= s[k].toNat / 16 + 1 /\ i = .int .i64 j /\ OwnB wr w.heap.size v (l ++ List.replicate j (s[k] % 16)) /\ Below w.heap.size w wr) (fun _ i _ => 17 - (intOf i).toNat)
      case atStart => exact ⟨0, Nat.zero_le _, rfl, by simpa using hown, hbel⟩
      case round =>
        clear hown hbel
        obtain ⟨j, hj, rfl, hown, hbel⟩ := hrel
        have hsz := hbel.size
        have hlen : (l ++ List.replicate j (s[k] % 16)).length <= 1000000 := by simp; omega
        by_cases hjl : j < s[k].toNat / 16 + 1
        . go_wp2_with (at_builtin; refine wp_append_byte rfl (.tmp 25) (.tmp 30) rfl _ w.heap.size _ (l ++ List.replicate j (s[k] % 16)) (s[k] % 16) _ rfl hown rfl ?_ hlen hsz ?_)
          . simp
          . intro v' w1 hown' hbel'
            rw [rep_snoc] at hown'
            have hbel2 := hbel.trans hbel'
            clear hown hbel hbel'
            go_wp2
            go_roundw
            case rel => exact ⟨j + 1, by omega, by go_num, hown', hbel2⟩
            case measure => simp [intOf]; omega
        . go_wp2
          go_roundw
          case rel =>
            refine ⟨k + 1, by omega, by go_num, ?_, hbel⟩
            rw [unhide hsn, show s[k].toNat / 16 + 1 = j from by omega]
            exact hown
          case measure => simp [intOf]; omega
    . have hcv := hown.str 0
      rw [World.drewN_zero] at hcv
      go_wp2
      go_ret
      exact ⟨ret_str (by rw [List.take_of_length_le (by simp; omega)]), hbel⟩
set_option maxHeartbeats 400000 in
theorem pack_no (s : ByteArray) (w : World) (hs : s.size <= maxLen) (h : Pt.okPic s.data.toList = false) :
    Calls Tryz.prog 51 #[.string s] w fun e w' => e = .returned (.tuple #[.string ⟨#[]⟩, .int .i64 5]) /\ w = w' := by
  go_enter Tryz.func51, Tryz.ntmps51
  go_wp2_with (go_at_call 81; refine (isPicture_any s _ hs).mono ?_; rintro e w' ⟨rfl, rfl⟩)
  go_ret2
  exact ⟨rfl, rfl⟩
theorem mid_extract (s : ByteArray) (h : 3 <= s.size) : (s.extract 1 (s.size - 2)).data.toList = Pt.mid s.data.toList := by
  rw [Lib.extract_data]
  unfold Pt.mid
  rw [show s.data.toList.length = s.size from by simp, show s.size - 2 - 1 = s.size - 3 from by omega]
set_option maxHeartbeats 400000 in
theorem unpack_short (s : ByteArray) (w : World) (hs : s.size <= maxLen) (h : s.size < 7 \/ 67 < s.size) :
    Calls Tryz.prog 27 #[.string s] w fun e w' => e = .returned (.tuple #[.string ⟨#[]⟩, .int .i64 6]) /\ w = w' := by
  unfold maxLen at hs
  rcases h with h | h
  . go_enter Tryz.func27, Tryz.ntmps27
    go_wp2_with fail
    go_ret2
    exact ⟨rfl, rfl⟩
  . have h' : ¬ s.size < 7 := by omega
    go_enter Tryz.func27, Tryz.ntmps27
    go_wp2_with fail
    go_ret2
    exact ⟨rfl, rfl⟩
theorem okBody_no1 (l : List UInt8) (h : Pt.okPic (Pt.spread (Pt.mid l)) = false) : Pt.okBody l = false := by unfold Pt.okBody; rw [h]; simp
theorem okBody_no2 (l : List UInt8) (h : ¬ Pt.body (Pt.spread (Pt.mid l)) = l) : Pt.okBody l = false := by unfold Pt.okBody; simp [h]
theorem okBody_yes (l : List UInt8) (h : 7 <= l.length /\ l.length <= 67) (h1 : Pt.okPic (Pt.spread (Pt.mid l)) = true) (h2 : Pt.body (Pt.spread (Pt.mid l)) = l) : Pt.okBody l = true := (Pt.okBody_iff l).2 ⟨h, h1, h2⟩
theorem spread_cap (l : List UInt8) (h : l.length <= 67) : (Pt.spread (Pt.mid l)).length <= 1072 := by
  have := (Pt.wt_le (Pt.mid l)).2
  have e : (Pt.mid l).length <= 67 := by unfold Pt.mid; simp; omega
  unfold Pt.wt at this
  omega
set_option maxHeartbeats 400000 in
theorem unpack_mid (s : ByteArray) (w : World) (h7 : 7 <= s.size) (h67 : s.size <= 67) :
    Calls Tryz.prog 27 #[.string s] w fun e w' => (Pt.okBody s.data.toList = true /\ e = .returned (.tuple #[.string ⟨(Pt.spread (Pt.mid s.data.toList)).toArray⟩, .int .i64 0]) \/ Pt.okBody s.data.toList = false /\ e = .returned (.tuple #[.string ⟨#[]⟩, .int .i64 6])) /\ Below w.heap.size w w' := by
  have hm := hide (mid_extract s (by omega))
  have hcap := spread_cap s.data.toList (by simp; omega)
  have n1 := hide (okBody_no1 s.data.toList)
  have n2 := hide (okBody_no2 s.data.toList)
  have n3 := hide (okBody_yes s.data.toList (by simp; omega))
  have hsl : s.toList = s.data.toList := ByteArray.toList_eq s
  have hle : (s.extract 1 (s.size - 2)).size <= 1000 := by simp; omega
  go_enter Tryz.func27, Tryz.ntmps27
  go_wp2_with fail
  refine (spread_any _ _ hle).mono ?_
  rintro e w1 ⟨rfl, hb1⟩
  rw [unhide hm]
  generalize hM : Pt.spread (Pt.mid s.data.toList) = m at hcap n1 n2 n3
  have HM := hide hM
  clear hM hm hle
  have hms : (⟨m.toArray⟩ : ByteArray).size <= maxLen := by rw [size_of_len]; unfold maxLen; omega
  cases hp : Pt.okPic m with
  | false =>
    have hb : Pt.okBody s.data.toList = false := unhide n1 hp
    have HP := hide hp
    clear hp
    go_wp2_with fail
    refine (pack_no ⟨m.toArray⟩ _ hms (by simpa using unhide HP)).mono ?_
    rintro e w2 ⟨rfl, rfl⟩
    go_wp2_with fail
    go_ret2
    exact ⟨.inr ⟨hb, rfl⟩, hb1⟩
  | true =>
    have HP := hide hp
    clear hp
    go_wp2_with fail
    refine (pack_yes ⟨m.toArray⟩ _ (by simpa using unhide HP)).mono ?_
    rintro e w2 ⟨rfl, hb2⟩
    have hb3 := hb1.trans (hb2.mono hb1.size)
    clear hb1 hb2
    by_cases hq : Pt.body m = s.data.toList
    . have hB : Pt.okBody s.data.toList = true := unhide n3 (unhide HP) hq
      have hbe : (Pt.body m == s.data.toList) = true := by simp [hq]
      clear hq
      go_wp2_with fail
      go_ret2
      exact ⟨.inl ⟨hB, ret_str2 (unhide HM).symm⟩, hb3⟩
    . have hB : Pt.okBody s.data.toList = false := unhide n2 hq
      have hbe : (Pt.body m == s.data.toList) = false := by simp [hq]
      clear hq
      go_wp2_with fail
      go_ret2
      exact ⟨.inr ⟨hB, rfl⟩, hb3⟩
theorem okBody_short (l : List UInt8) (h : l.length < 7 \/ 67 < l.length) : Pt.okBody l = false := by
  rw [Bool.eq_false_iff]
  intro h'
  have := ((Pt.okBody_iff l).1 h').1
  omega
theorem unpack_any (s : ByteArray) (w : World) (hs : s.size <= maxLen) :
    Calls Tryz.prog 27 #[.string s] w fun e w' => (Pt.okBody s.data.toList = true /\ e = .returned (.tuple #[.string ⟨(Pt.spread (Pt.mid s.data.toList)).toArray⟩, .int .i64 0]) \/ Pt.okBody s.data.toList = false /\ e = .returned (.tuple #[.string ⟨#[]⟩, .int .i64 6])) /\ Below w.heap.size w w' := by
  by_cases h : 7 <= s.size /\ s.size <= 67
  . exact unpack_mid s w h.1 h.2
  . refine (unpack_short s w hs (by omega)).mono ?_
    rintro e w' ⟨rfl, rfl⟩
    exact ⟨.inr ⟨okBody_short _ (by simp; omega), rfl⟩, Below.refl _ _⟩
theorem unpack_yes (s : ByteArray) (w : World) (hs : s.size <= maxLen) (h : Pt.okBody s.data.toList = true) :
    Calls Tryz.prog 27 #[.string s] w fun e w' => e = .returned (.tuple #[.string ⟨(Pt.spread (Pt.mid s.data.toList)).toArray⟩, .int .i64 0]) /\ Below w.heap.size w w' := by
  refine (unpack_any s w hs).mono ?_
  rintro e w' ⟨⟨_, rfl⟩ | ⟨h', _⟩, hb⟩
  . exact ⟨rfl, hb⟩
  . rw [h] at h'; cases h'
end Go.Proofs.YtpopchckldbhdaaGreatDoor.Pk
namespace Go.Proofs.YtpopchckldbhdaaGreatDoor
open Go.RowKit
set_option maxRecDepth 20000
theorem tagB_ne (k : K4) (s : Int) : tagB k s ≠ ⟨#[]⟩ := by
  intro h
  have := congrArg (fun b : ByteArray => b.data.toList) h
  simp [tagB] at this
theorem prs0 : prs (⟨#[47, 108, 97, 110, 100, 47, 48, 47, 48, 47, 48, 46, 116, 105, 108, 101]⟩ : ByteArray) = (⟨0, 0, 0, 0⟩, 0) := by kernel_rfl
abbrev oneP (p : FM × BM) : FM × BM := arrB Oz p ⟨0, 0, 0, 0⟩ 0 ⟨#[]⟩
abbrev servP (p : FM × BM) : FM × BM := calmP Oz (oneP p)
theorem kok0 : KOk ⟨0, 0, 0, 0⟩ := ⟨by decide, by decide, by decide, by decide⟩
structure Srv (p q : FM × BM) : Prop where
  on : On (O := Oz) (oneP p) q
  rest : Rest q.1
  last : ∃ a s, q.2.reqs[p.2.reqs.length]? = some a /\ 0 <= a.said /\ a.e = 0 /\ q.2.says[a.said.toNat]? = some s /\ s.r.st = 200
  len : q.2.reqs.length = p.2.reqs.length + 1
  says : ∃ x, q.2.says = p.2.says ++ x /\ ∀ s ∈ x, s.r.st = 200
theorem served_math {p : FM × BM} (h : Inv Oz p.1 p.2) (hr : Rest p.1) : Srv p (servP p) := by
  have h1 : Inv Oz (oneP p).1 (oneP p).2 := h.arrB (Or.inl ⟨rfl, kok0⟩) ⟨#[]⟩
  obtain ⟨ho, hrest⟩ := calm_rest (oneP p) h1
  obtain ⟨⟨a, s, q1, q2, q3, _, q5, q6, _⟩, q9, q10⟩ := last_fine h (arr_plain h hr.waiting (tag := ⟨#[]⟩) (k := ⟨0, 0, 0, 0⟩) (fun e => tagB_ne _ _ e.symm)) ho hrest.waiting
  exact ⟨ho, hrest, ⟨a, s, q1, q2, q3, q5, q6⟩, q9, q10⟩
set_option maxHeartbeats 12800000 in
theorem served_any (n : Nat) (w0 : Bas) (bb fb : Nat) (F : FM) (M : BM) (w : World) (h : StE w0 w bb fb F M) (hi : Inv Oz F M) (hbd : Bd n F M) (hn : n <= 1410000000000) (hr : Rest F) :
    Calls Tryz.prog 10 #[.pointer (some ⟨bb, 0, none⟩)] w fun e w' => e = .returned (.bool true) /\ StE w0 w' bb fb (servP (F, M)).1 (servP (F, M)).2 := by
  have AR := arrive_any n w0 bb fb F M (⟨#[47, 108, 97, 110, 100, 47, 48, 47, 48, 47, 48, 46, 116, 105, 108, 101]⟩ : ByteArray) ⟨#[]⟩ w h hi hbd (by omega) (by unfold maxLen; decide)
  rw [prs0] at AR
  dsimp only at AR
  have hi1 : Inv Oz (oneP (F, M)).1 (oneP (F, M)).2 := Inv.arrB (p := (F, M)) hi (Or.inl ⟨rfl, kok0⟩) ⟨#[]⟩
  have hbd1 : Bd (n + 1) (oneP (F, M)).1 (oneP (F, M)).2 := Bd.arrB (p := (F, M)) hbd ⟨0, 0, 0, 0⟩ 0 ⟨#[]⟩
  have hsv := served_math (p := (F, M)) hi hr
  have HI1 := hide hi1
  have HBD1 := hide hbd1
  have hsz := (hsv.on.bd hbd1).said hsv.on.inv
  have HSV := hide hsv
  clear h hi hbd hr hi1 hbd1 hsv
  obtain ⟨z1, z2, _⟩ := hsz
  go_enter Tryz.func10, Tryz.ntmps10
  go_wp2_with fail
  refine AR.mono ?_
  rintro e w1 ⟨rfl, h1⟩
  have CA := calm_any (n + 1) w0 bb fb (oneP (F, M)).1 (oneP (F, M)).2 w1 h1 (unhide HI1) (unhide HBD1) (by omega)
  clear h1 AR HI1 HBD1
  go_wp2_with fail
  refine CA.mono ?_
  rintro e w2 ⟨rfl, h2⟩
  change StE w0 w2 bb fb (servP (F, M)).1 (servP (F, M)).2 at h2
  have HST := hide h2
  obtain ⟨a, s, q1, q2, q3, q4, q5⟩ := (unhide HSV).last
  have hlen := (unhide HSV).len
  obtain ⟨Φ, Ψ, B, WS, hS⟩ := h2
  obtain ⟨P, hP⟩ : ∃ P, servP (F, M) = P := ⟨_, rfl⟩
  rw [hP] at q1 q4 hlen hS z1 z2
  obtain ⟨m, hm⟩ : ∃ m, M.reqs.length = m := ⟨_, rfl⟩
  dsimp only at q1 hlen
  rw [hm] at q1 hlen
  obtain ⟨at_, ak, ae, av, an, aw, as'⟩ := a
  dsimp only at q2 q3 q4
  obtain ⟨sn, rfl⟩ : ∃ sn : Nat, as' = sn := ⟨as'.toNat, by omega⟩
  rw [Int.toNat_natCast] at q4
  subst q3
  obtain ⟨⟨who, st, bd, tg⟩, sv, sm, sb⟩ := s
  dsimp only at q5
  subst q5
  have hsl : sn < P.2.says.length := (List.getElem?_eq_some_iff.1 q4).1
  have hsi : (sn : Int) < (P.2.says.length : Int) := by omega
  have hmI : (m : Int) < (m : Int) + 1 := by omega
  obtain ⟨g8, off8, cap8, e8, hrg8, _⟩ := hS.bk.mem.req.spot q1
  obtain ⟨g9, off9, cap9, e9, hrg9, _⟩ := hS.bk.mem.say.spot q4
  rw [hlen] at e8
  have c8 : w2.cell? ⟨bb, 8, none⟩ = some (.slice (some ⟨g8, off8, none⟩) (m + 1) cap8) := by rw [<- e8]; exact hS.bk.blk.cells 8
  have c9 : w2.cell? ⟨bb, 9, none⟩ = some (.slice (some ⟨g9, off9, none⟩) P.2.says.length cap9) := by rw [<- e9]; exact hS.bk.blk.cells 9
  have c12 : w2.cell? ⟨bb, 12, none⟩ = some (.bool false) := hS.bk.blk.cells 12
  have ce : w2.cell? ⟨g8, off8 + m * 10 + 5, none⟩ = some (.int .i64 0) := hrg8 5 _ rfl
  have cs : w2.cell? ⟨g8, off8 + m * 10 + 9, none⟩ = some (.int .i64 sn) := hrg8 9 _ rfl
  have cst : w2.cell? ⟨g9, off9 + sn * 7 + 1, none⟩ = some (.int .i64 200) := hrg9 1 _ rfl
  have hm5 : m <= 1420000000000 := by omega
  have d0 : decide ((m : Int) < 0) = false := decide_eq_false (by omega)
  have d1 : ((sn : Int) == -1) = false := by simp
  have hov : IntKind.i64.wrap (m : Int) = (m : Int) := i64_of _ (by omega)
  clear hS hrg8 hrg9 e8 e9 CA q1 q2 q4 hm hlen z1 z2 HSV hsl hP
  go_wp2_with fail
  go_quiet (fail)
  have HSE := hide ((unhide HST).on (dnB w2 nq))
  go_wp2_with fail
  go_ret
  exact ⟨rfl, unhide HSE⟩
theorem ScAt.on {w w' : World} {oa : Option Addr} {cap : Nat} {L : List Stp} (h : ScAt w oa cap L) (hb : Below w.heap.size w w') : ScAt w' oa cap L := by
  refine ⟨h.len, fun hl => ?_, fun i s hi => ?_⟩
  . obtain ⟨b, off, e, hlt, hc⟩ := h.at_ hl
    exact ⟨b, off, e, Nat.lt_of_lt_of_le hlt hb.size, fun i s hi => rng_in (hc i s hi) hb hlt⟩
  . obtain ⟨k1, k2, k3, k4, k5, k6, k7⟩ := h.ok i s hi
    exact ⟨k1, k2, k3, k4, k5, k6.on hb, k7⟩
theorem str_ne {a b : ByteArray} (h : a ≠ b) : (a.toList == b.toList) = false := by
  rw [beq_eq_false_iff_ne]
  exact fun q => h (bytes_eq q)
theorem unp_tile {A : List Ft} (hA : ∀ i, i < A.length -> Rt (gf A i)) (k : K4) : (⟨(Pk.Pt.spread (Pk.Pt.mid (bodyB A k).data.toList)).toArray⟩ : ByteArray) = tile A k.l k.z k.x k.y := by
  have e : (bodyB A k).data.toList = Pk.Pt.body (tile A k.l k.z k.x k.y).data.toList := by unfold bodyB; rfl
  rw [e, Pk.Pt.spread_mid_body _ (okTile hA k.l k.z k.x k.y)]
theorem OwnR.sli {w : World} {v : Value} {WS : List Sli} (h : OwnR rSli 69 w v WS) {i : Nat} {s : Sli} (hi : WS[i]? = some s) : ∃ g off cap, v = .slice (some ⟨g, off, none⟩) WS.length cap /\ w.cell? ⟨g, off + i, none⟩ = some (.slice s.at_ s.n s.cap) /\ g < w.heap.size := by
  obtain ⟨g, off, cap, e, hrg, _⟩ := h.spot hi
  refine ⟨g, off, cap, e, ?_, h.lt (by rw [e]; rfl)⟩
  have := hrg 0 _ rfl
  rwa [show off + i * rSli.wid + 0 = off + i by simp [rSli]] at this
set_option maxHeartbeats 12800000 in
theorem is_any (w0 : Bas) (bb fb : Nat) (F : FM) (M : BM) (A : List Ft) (l z x y : Int) (v : Nat) (w : World) (h : StE w0 w bb fb F M) (hA : ∀ i, i < A.length -> Rt (gf A i)) (hk : KOk ⟨l, z, x, y⟩) (hv : v <= F.ver) :
    Calls Tryz.prog 11 #[.pointer (some ⟨bb, 0, none⟩), .string (bodyB A ⟨l, z, x, y⟩), .agg #[.int .i64 l, .int .i64 z, .int .i64 x, .int .i64 y], .int .i64 v] w fun e w' => e = .returned (.bool (decide (tile A l z x y = tile (F.FLs v) l z x y))) /\ Below w.heap.size w w' := by
  obtain ⟨Φ, Ψ, B, WS, hS⟩ := h
  obtain ⟨w1, hw1⟩ : ∃ w1, w.alloc (.cells #[.int .i64 l, .int .i64 z, .int .i64 x, .int .i64 y] 39) = w1 := ⟨_, rfl⟩
  have hb1 : Below w.heap.size w w1 := hw1 ▸ (Below.refl w.heap.size w).alloc (Nat.le_refl _) (.cells #[.int .i64 l, .int .i64 z, .int .i64 x, .int .i64 y] 39)
  have hA1 : w1.heap[w.heap.size]? = some (.cells #[.int .i64 l, .int .i64 z, .int .i64 x, .int .i64 y] 39 (0, 0)) := hw1 ▸ heap_alloc_new w (.cells #[.int .i64 l, .int .i64 z, .int .i64 x, .int .i64 y] 39 (0, 0))
  have HBX := hide (show ∀ (W : World) (ev : Operand -> Value) (o : Oper) (p : Operand), o.op = .box 39 p -> ev p = .agg #[.int .i64 l, .int .i64 z, .int .i64 x, .int .i64 y] -> W = w -> (execOp ev o).run Tryz.prog W = .ok (.value (.pointer (some ⟨w.heap.size, 0, none⟩))) w1 from fun W ev o p q1 q2 e => by
    subst e
    rw [<- hw1]
    unfold execOp
    simp only [q1, q2]
    kernel_rfl)
  have hsz := bodyB_size hA ⟨l, z, x, y⟩
  have hok : Pk.Pt.okBody (bodyB A ⟨l, z, x, y⟩).data.toList = true := by
    have e : (bodyB A ⟨l, z, x, y⟩).data.toList = Pk.Pt.body (tile A l z x y).data.toList := by unfold bodyB; rfl
    rw [e]
    exact Pk.Pt.okBody_body _ (okTile hA l z x y)
  have UN := Pk.unpack_yes (bodyB A ⟨l, z, x, y⟩) w1 (by unfold maxLen; omega) hok
  rw [unp_tile hA ⟨l, z, x, y⟩] at UN
  dsimp only at UN
  have hSver : RelV v F.LS (F.FLs v) := by
    obtain ⟨X, sl, pv, W, hf, _⟩ := hS.fro
    exact (hf.ver.rel v hv).1
  have HR := hide hSver
  have hS1 := hS.on hb1
  have H1 := hide (show St w0 w1 bb fb Φ Ψ B WS F M /\ Below w.heap.size w w1 /\ w1.heap[w.heap.size]? = some (.cells #[.int .i64 l, .int .i64 z, .int .i64 x, .int .i64 y] 39 (0, 0)) from ⟨hS1, hb1, hA1⟩)
  have hsA := tile_size A l z x y
  have hke := hk.err
  dsimp only at hke
  have HKE := hide hke
  clear hS hw1 hb1 hA1 hsz hok hSver hS1 hA hk hke
  go_enter Tryz.func11, Tryz.ntmps11
  go_wp2_with (refine wlV _ _ (unhide HBX _ _ _ _ rfl rfl rfl) rfl ?_)
  refine UN.mono ?_
  rintro e w2 ⟨rfl, hb2⟩
  obtain ⟨hS1, hb1, hA1⟩ := unhide H1
  have hS2 := hS1.on hb2
  have hA2 := blk_on hA1 hb2
  have hB2 := hb1.trans (hb2.mono hb1.size)
  obtain ⟨⟨so, sn, sc⟩, hWv⟩ : ∃ s, WS[v]? = some s := ⟨_, List.getElem?_eq_getElem (by rw [hS2.bk.mem.len]; omega)⟩
  obtain ⟨gW, oW, cW, eW, hcW, hgW⟩ := hS2.bk.mem.was.sli hWv
  rw [hS2.bk.mem.len] at eW
  dsimp only at hcW
  have hfea : OwnR rF 86 w2 (.slice so sn sc) (F.FLs v) := hS2.bk.mem.fea v _ hWv
  have hvI : (v : Int) < (F.ver : Int) + 1 := by omega
  have hltb : bb < w2.heap.size := blk_lt hS2.bk.blk
  have c6 : w2.cell? ⟨bb, 6, none⟩ = some (.slice (some ⟨gW, oW, none⟩) (F.ver + 1) cW) := by rw [<- eW]; exact hS2.bk.blk.cells 6
  have hF : ∀ W, Below w2.heap.size w2 W -> W.cell? ⟨bb, 6, none⟩ = some (.slice (some ⟨gW, oW, none⟩) (F.ver + 1) cW) /\ W.cell? ⟨gW, oW + v, none⟩ = some (.slice so sn sc) /\ W.rangeAt w.heap.size 0 (#[.int .i64 l, .int .i64 z, .int .i64 x, .int .i64 y] : Array Value).toList := fun W hW => ⟨(hW.cell (p := ⟨bb, 6, none⟩) hltb).trans c6, (hW.cell (p := ⟨gW, oW + v, none⟩) hgW).trans hcW, rng_blk (blk_on hA2 hW)⟩
  have hP : ∀ W, Below w2.heap.size w2 W -> Calls Tryz.prog 28 #[.slice so sn sc, .agg #[.int .i64 l, .int .i64 z, .int .i64 x, .int .i64 y]] W fun e w' => e = .returned (.tuple #[.string (tile (F.FLs v) l z x y), .int .i64 0]) /\ Below W.heap.size W w' := fun W hW => paint_tile (unhide HKE) (unhide HR).le40 (unhide HR).rt (.slice so sn sc) W ((csAt_fs _ _ _ _).1 (hfea.on hW).at.fs)
  have HB2 := hide hB2
  clear UN H1 hS1 hb1 hA1 hS2 hA2 hB2 hb2 hWv eW hcW hgW hfea hltb c6 HBX HR HKE
  go_wp2_with fail
  refine region_bq (by kernel_rfl) (by kernel_rfl) ?_
  refine q_move rfl _ rfl (.pointer (some ⟨bb, 0, none⟩)) rfl ?_
  simp only [Act.put, qA, qB, qC]
  refine q_val rfl (.pointer (some ⟨bb, 0, none⟩)) (fun w' hw' => by simp [go_sem]) ?_
  simp only [Act.put, qA, qB, qC]
  refine q_val rfl (.pointer (some ⟨bb, 6, none⟩)) (fun w' hw' => by simp [go_sem]) ?_
  simp only [Act.put, qA, qB, qC]
  refine q_val rfl (.slice (some ⟨gW, oW, none⟩) (F.ver + 1) cW) (fun w' hw' => by simp [go_sem, (hF w' hw').1]) ?_
  simp only [Act.put, qA, qB, qC]
  refine q_move rfl _ rfl (.int .i64 v) rfl ?_
  simp only [Act.put, qA, qB, qC]
  refine q_val rfl (.pointer (some ⟨gW, oW + v, none⟩)) (fun w' hw' => by simp [go_sem, hvI]) ?_
  simp only [Act.put, qA, qB, qC]
  refine q_val rfl (.slice so sn sc) (fun w' hw' => by simp [go_sem, (hF w' hw').2.1]) ?_
  simp only [Act.put, qA, qB, qC]
  refine q_load rfl 39 _ rfl (w.heap.size) (0) rfl (#[.int .i64 l, .int .i64 z, .int .i64 x, .int .i64 y]) _ Tryz.underlying39 rfl (sz39 _ _ _ _) (fun W h => (hF W h).2.2) ?_
  simp only [Act.put, qA, qB, qC]
  refine q_callC rfl 28 (#[.slice so sn sc, .agg #[.int .i64 l, .int .i64 z, .int .i64 x, .int .i64 y]]) (fun _ => by simp [go_sem]) (.tuple #[.string (tile (F.FLs v) l z x y), .int .i64 0]) (hP) ?_
  simp only [Act.put, qA, qB, qC]
  refine q_move rfl _ rfl (.tuple #[.string (tile (F.FLs v) l z x y), .int .i64 0]) rfl ?_
  simp only [Act.put, qA, qB, qC]
  refine q_val rfl (.string (tile (F.FLs v) l z x y)) (fun w' hw' => by simp [go_sem]) ?_
  simp only [Act.put, qA, qB, qC]
  refine q_val rfl (.int .i64 0) (fun w' hw' => by simp [go_sem]) ?_
  simp only [Act.put, qA, qB, qC]
  refine q_assign rfl _ rfl (.string (tile (F.FLs v) l z x y)) rfl ?_
  simp only [Act.put, qA, qB, qC]
  refine q_assign rfl _ rfl (.int .i64 0) rfl ?_
  simp only [Act.put, qA, qB, qC]
  refine wpQuiet_nil ?_
  intro w3 hw3
  have HB3 := hide ((unhide HB2).trans (hw3.mono (unhide HB2).size))
  clear hF hP hw3
  obtain ⟨tA, htA⟩ : ∃ tA, tile A l z x y = tA := ⟨_, rfl⟩
  obtain ⟨tB, htB⟩ : ∃ tB, tile (F.FLs v) l z x y = tB := ⟨_, rfl⟩
  rw [htA] at hsA
  by_cases he : tA = tB
  . have HQ : Hid (decide (tile A l z x y = tile (F.FLs v) l z x y) = true) := hide (by rw [htA, htB]; exact decide_eq_true he)
    simp only [htA, htB]
    clear htA htB
    subst he
    go_wp2_with fail
    go_ret
    exact ⟨ret_bool (unhide HQ).symm, unhide HB3⟩
  . have HQ : Hid (decide (tile A l z x y = tile (F.FLs v) l z x y) = false) := hide (by rw [htA, htB]; exact decide_eq_false he)
    have hd : (tA.toList == tB.toList) = false := str_ne he
    simp only [htA, htB]
    clear htA htB
    go_wp2_with fail
    go_ret
    exact ⟨ret_bool (unhide HQ).symm, unhide HB3⟩
theorem al42 (ev : Operand -> Value) (o : Oper) (ho : o.op = .alloc 42) (w w1 : World) (h1 : w.alloc (.cells #[.string ⟨#[]⟩, .int .i64 0, .int .i64 0, .int .i64 0, .int .i64 0, .int .i64 0, .int .i64 0, .int .i64 0, .int .i64 0, .int .i64 0] 42) = w1) : (execOp ev o).run Tryz.prog w = .ok (.value (.pointer (some ⟨w.heap.size, 0, none⟩))) w1 := by
  rw [<- h1]
  unfold execOp
  simp only [ho]
  kernel_rfl
theorem sz42 (t : ByteArray) (a b c d e f g h i : Int) : (Tryz.prog.info? 42).map (·.size) = some (#[.string t, .int .i64 a, .int .i64 b, .int .i64 c, .int .i64 d, .int .i64 e, .int .i64 f, .int .i64 g, .int .i64 h, .int .i64 i] : Array Value).size := by kernel_rfl
theorem ask_one (t : ByteArray) (a b c d e f g h i : Int) : (#[.string t, .int .i64 a, .int .i64 b, .int .i64 c, .int .i64 d, .int .i64 e, .int .i64 f, .int .i64 g, .int .i64 h, .int .i64 i] : Array Value).all (·.oneCell') = true := by simp [Value.oneCell']
theorem sz37 (a b : Int) (s t : ByteArray) (c d e : Int) : (Tryz.prog.info? 37).map (·.size) = some (#[.int .i64 a, .int .i64 b, .string s, .string t, .int .i64 c, .int .i64 d, .int .i64 e] : Array Value).size := by kernel_rfl
theorem al37 (ev : Operand -> Value) (o : Oper) (ho : o.op = .alloc 37) (w w1 : World) (h1 : w.alloc (.cells #[.int .i64 0, .int .i64 0, .string ⟨#[]⟩, .string ⟨#[]⟩, .int .i64 0, .int .i64 0, .int .i64 0] 37) = w1) : (execOp ev o).run Tryz.prog w = .ok (.value (.pointer (some ⟨w.heap.size, 0, none⟩))) w1 := by
  rw [<- h1]
  unfold execOp
  simp only [ho]
  kernel_rfl
theorem say_one (a b : Int) (s t : ByteArray) (c d e : Int) : (#[.int .i64 a, .int .i64 b, .string s, .string t, .int .i64 c, .int .i64 d, .int .i64 e] : Array Value).all (·.oneCell') = true := by simp [Value.oneCell']
set_option maxHeartbeats 12800000 in
theorem fresh_any (q wk wt ca ch : Int) (oa : Option Addr) (cap : Nat) (L : List Stp) (w : World) (rq : -9223372036854775808 <= q /\ q <= 9223372036854775807) (rwk : -9223372036854775808 <= wk /\ wk <= 9223372036854775807) (rwt : -9223372036854775808 <= wt /\ wt <= 9223372036854775807) (rca : -9223372036854775808 <= ca /\ ca <= 9223372036854775807) (rch : -9223372036854775808 <= ch /\ ch <= 9223372036854775807) (hg : Glb w) (hs : ScAt w oa cap L) :
    Calls Tryz.prog 3 #[.agg #[.int .i64 q, .int .i64 wk, .int .i64 wt, .int .i64 ca, .int .i64 ch], .slice oa L.length cap] w fun e w' => e = .returned (.bool true) /\ Below w.heap.size w w' := by
  obtain ⟨w1, hw1⟩ : ∃ w1, w.alloc (.cells #[.int .i64 q, .int .i64 wk, .int .i64 wt, .int .i64 ca, .int .i64 ch] 23) = w1 := ⟨_, rfl⟩
  have hA : w1.heap[w.heap.size]? = some (.cells #[.int .i64 q, .int .i64 wk, .int .i64 wt, .int .i64 ca, .int .i64 ch] 23 (0, 0)) := hw1 ▸ heap_alloc_new w (.cells #[.int .i64 q, .int .i64 wk, .int .i64 wt, .int .i64 ca, .int .i64 ch] 23 (0, 0))
  have hb1 : Below w.heap.size w w1 := hw1 ▸ (Below.refl w.heap.size w).alloc (Nat.le_refl _) (.cells #[.int .i64 q, .int .i64 wk, .int .i64 wt, .int .i64 ca, .int .i64 ch] 23)
  have HBX := hide (show ∀ (W : World) (ev : Operand -> Value) (o : Oper) (p : Operand), o.op = .box 23 p -> ev p = .agg #[.int .i64 q, .int .i64 wk, .int .i64 wt, .int .i64 ca, .int .i64 ch] -> W = w -> (execOp ev o).run Tryz.prog W = .ok (.value (.pointer (some ⟨w.heap.size, 0, none⟩))) w1 from fun W ev o p q1 q2 e => by
    subst e
    rw [<- hw1]
    unfold execOp
    simp only [q1, q2]
    kernel_rfl)
  have hrg1 : w1.rangeAt w.heap.size 0 (#[.int .i64 q, .int .i64 wk, .int .i64 wt, .int .i64 ca, .int .i64 ch] : Array Value).toList := rng_blk hA
  have PL := play_any q wk wt ca ch oa cap L false (fun h => nomatch h) w1 rq rwk rwt rca rch (hg.on hb1) (hs.on hb1)
  have hln := hs.len
  have HB1 := hide hb1
  clear hw1 hA hb1 hg hs rq rwk rwt rca rch
  go_enter Tryz.func3, Tryz.ntmps3
  go_wp2_with (first | refine wlV _ _ (unhide HBX _ _ _ _ rfl rfl rfl) rfl ?_ | refine ldG 23 #[.int .i64 q, .int .i64 wk, .int .i64 wt, .int .i64 ca, .int .i64 ch] Tryz.underlying23 rfl (sz23 _ _ _ _ _) w.heap.size 0 hrg1 rfl _ rfl rfl ?_)
  refine PL.mono ?_
  rintro e w2 ⟨w0, bb, fb, F, M, rfl, hb0, hst, hi, hbd⟩
  have HB0 := hide (BelB.pre (unhide HB1) hb0)
  clear PL hb0 hrg1 HBX HB1
  have hn : L.length <= 1400000000000 := hln
  have CA := calm_any L.length w0 bb fb F M w2 hst hi hbd (by omega)
  obtain ⟨hon, hrest⟩ := calm_rest (F, M) hi
  have hbd1 := hon.bd hbd
  have HP := hide (show On (O := Oz) (F, M) (calmP Oz (F, M)) /\ Rest (calmP Oz (F, M)).1 /\ Bd L.length (calmP Oz (F, M)).1 (calmP Oz (F, M)).2 from ⟨hon, hrest, hbd1⟩)
  clear hst hi hbd hon hrest hbd1 hln
  go_wp2_with fail
  refine CA.mono ?_
  rintro e w3 ⟨rfl, h3⟩
  obtain ⟨hon, hrest, hbd1⟩ := unhide HP
  have SV := served_any L.length w0 bb fb (calmP Oz (F, M)).1 (calmP Oz (F, M)).2 w3 h3 hon.inv hbd1 (by omega) hrest
  have hsv := served_math (p := calmP Oz (F, M)) hon.inv hrest
  have hbo : Bd (L.length + 1) (oneP (calmP Oz (F, M))).1 (oneP (calmP Oz (F, M))).2 := hbd1.arrB ⟨0, 0, 0, 0⟩ 0 ⟨#[]⟩
  have hbd2 := hsv.on.bd hbo
  have HSV := hide hsv
  have HBD2 := hide hbd2
  have HON := hide hon
  clear CA h3 hon hrest hbd1 hsv hbo hbd2 HP
  go_wp2_with fail
  refine SV.mono ?_
  rintro e w4 ⟨rfl, h4⟩
  change StE w0 w4 bb fb (servP (calmP Oz (F, M))).1 (servP (calmP Oz (F, M))).2 at h4
  obtain ⟨P, hP⟩ : ∃ P, servP (calmP Oz (F, M)) = P := ⟨_, rfl⟩
  rw [hP] at h4 HSV HBD2
  have hsz := (unhide HBD2).said (unhide HSV).on.inv
  have hpl : P.2.says.length <= 1420000000000 := by omega
  have hpr : P.2.reqs.length <= 1420000000000 := by omega
  have hv100 := (unhide HSV).on.inv.ok.v100
  have hw0 : P.2.waiting = 0 := by rw [(unhide HSV).on.inv.cnt, (unhide HSV).rest.waiting]; rfl
  have HW0 := hide hw0
  have H4 := hide h4
  clear SV h4 hP HON hsz hw0
  go_wp2_with fail
  go_loopw [7, 8, 9, 10, 11] (fun i _ _ _ _ wr => ∃ k : Nat, k <= P.2.says.length /\ i = .int .i64 k /\ Hid (StE w0 wr bb fb P.1 P.2)) (fun i _ _ _ _ _ => P.2.says.length - (intOf i).toNat)
  case atStart => exact ⟨0, by omega, rfl, hide (unhide H4)⟩
  case round =>
    obtain ⟨k, hk, rfl, hst⟩ := hrel
    obtain ⟨_, _, B, _, hS⟩ := unhide hst
    have c12 := hS.cs.2.2.2.2.2.2.2.2
    by_cases hlt : k < P.2.says.length
    . have hkn : (k : Int) < P.2.says.length := by omega
      obtain ⟨⟨⟨who, st, bd, tg⟩, sv, sm, sb⟩, hsk⟩ : ∃ s, P.2.says[k]? = some s := ⟨_, List.getElem?_eq_getElem hlt⟩
      obtain ⟨hw0, _, hsv, a, ha, hsd, hok⟩ := (unhide HSV).on.inv.bi.say k _ hsk
      clear hsd
      dsimp only at hw0 hsv ha
      obtain ⟨wn, rfl⟩ : ∃ wn : Nat, who = wn := ⟨who.toNat, by omega⟩
      rw [Int.toNat_natCast] at ha
      obtain ⟨g9, off9, cap9, e9, hrg9, _⟩ := hS.bk.mem.say.spot hsk
      have c9 : wr.cell? ⟨bb, 9, none⟩ = some (.slice (some ⟨g9, off9, none⟩) P.2.says.length cap9) := by rw [<- e9]; exact hS.bk.blk.cells 9
      have hrg : wr.rangeAt g9 (off9 + k * 7) (#[.int .i64 (wn : Int), .int .i64 st, .string bd, .string tg, .int .i64 sv, .int .i64 sm, .int .i64 sb] : Array Value).toList := hrg9
      obtain ⟨w4, hw4⟩ : ∃ W', wr.alloc (.cells #[.int .i64 0, .int .i64 0, .string ⟨#[]⟩, .string ⟨#[]⟩, .int .i64 0, .int .i64 0, .int .i64 0] 37) = W' := ⟨_, rfl⟩
      have hAw4 : w4.heap[wr.heap.size]? = some (.cells #[.int .i64 0, .int .i64 0, .string ⟨#[]⟩, .string ⟨#[]⟩, .int .i64 0, .int .i64 0, .int .i64 0] 37 (0, 0)) := hw4 ▸ heap_alloc_new wr (.cells #[.int .i64 0, .int .i64 0, .string ⟨#[]⟩, .string ⟨#[]⟩, .int .i64 0, .int .i64 0, .int .i64 0] 37 (0, 0))
      have hbw4 : Below wr.heap.size wr w4 := hw4 ▸ (Below.refl wr.heap.size wr).alloc (Nat.le_refl _) (.cells #[.int .i64 0, .int .i64 0, .string ⟨#[]⟩, .string ⟨#[]⟩, .int .i64 0, .int .i64 0, .int .i64 0] 37)
      obtain ⟨gS, hggS⟩ : ∃ g1, wr.heap.size = g1 := ⟨_, rfl⟩
      have HALgS := hide (show ∀ (W : World) (ev : Operand -> Value) (o : Oper), o.op = .alloc 37 -> W = wr -> (execOp ev o).run Tryz.prog W = .ok (.value (.pointer (some ⟨gS, 0, none⟩))) w4 from fun W ev o q e => by subst e; exact hggS ▸ al37 ev o q W w4 hw4)
      rw [hggS] at hAw4
      obtain ⟨w5, hw5⟩ : ∃ W', w4.setRow gS #[.int .i64 (wn : Int), .int .i64 st, .string bd, .string tg, .int .i64 sv, .int .i64 sm, .int .i64 sb] = W' := ⟨_, rfl⟩
      have hAw5 : w5.heap[gS]? = some (.cells #[.int .i64 (wn : Int), .int .i64 st, .string bd, .string tg, .int .i64 sv, .int .i64 sm, .int .i64 sb] 37 (0, 0)) := hw5 ▸ setRow_heap _ _ _ #[.int .i64 (wn : Int), .int .i64 st, .string bd, .string tg, .int .i64 sv, .int .i64 sm, .int .i64 sb] _ _ hAw4
      have hbw5 : Below wr.heap.size wr w5 := hw5 ▸ below_setRow hbw4 (by omega) #[.int .i64 (wn : Int), .int .i64 st, .string bd, .string tg, .int .i64 sv, .int .i64 sm, .int .i64 sb]
      have HSTgS := hide (show ∀ (W : World) (ev : Operand -> Value) (o : Oper) (s t : Operand), o.op = .store 37 s t -> ev s = .pointer (some ⟨gS, 0, none⟩) -> ev t = .agg #[.int .i64 (wn : Int), .int .i64 st, .string bd, .string tg, .int .i64 sv, .int .i64 sm, .int .i64 sb] -> W = w4 -> (execOp ev o).run Tryz.prog W = .ok .skip w5 from fun W ev o s t q q1 q2 e => by subst e; exact hw5 ▸ stR ev o s t 37 q #[.int .i64 (wn : Int), .int .i64 st, .string bd, .string tg, .int .i64 sv, .int .i64 sm, .int .i64 sb] #[.int .i64 0, .int .i64 0, .string ⟨#[]⟩, .string ⟨#[]⟩, .int .i64 0, .int .i64 0, .int .i64 0] (sz37 _ _ _ _ _ _ _) (say_one _ _ _ _ _ _ _) rfl gS q1 q2 W hAw4)
      have h5 := (unhide hst).on hbw5
      have H5 := hide h5
      have HAS := hide hAw5
      have k1 : w5.cell? ⟨gS, 1, none⟩ = some (.int .i64 st) := blk_cells hAw5 1
      clear hS e9 hrg9 hw4 hAw4 hbw4 hw5 hAw5 hbw5 hggS hsk
      by_cases h200 : st = 200
      . subst h200
        have hok3 : a.e = 0 /\ ∃ v0 : Nat, a.ver <= v0 /\ (v0 : Int) <= sv /\ v0 <= P.1.ver /\ bd = bodyB (P.1.FLs v0) a.k := by
          rcases hok with g | g | g | g | g
          . have h1 := g.2.2.1
            dsimp only at h1
            split at h1 <;> omega
          . have := g.2.2.1; dsimp only at this; omega
          . obtain ⟨g1, _, _, _, v, g5, g6, g7, g8, _⟩ := g
            exact ⟨g1, v, g5, g6, g7, g8⟩
          . have := g.2.2.1; dsimp only at this; omega
          . have := g.2.2.1; dsimp only at this; omega
        obtain ⟨ga, v0, g5, g6, g7, g8'⟩ := hok3
        obtain ⟨a0, _, _, _, hkk, _⟩ := (unhide HSV).on.inv.asks wn a ha
        have hK := hkk ga
        obtain ⟨Φ5, Ψ5, B5, WS5, hS5⟩ := h5
        have hA0 : ∀ i, i < (P.1.FLs v0).length -> Rt (gf (P.1.FLs v0) i) := by
          obtain ⟨X, sl, pv, W, hf, _⟩ := hS5.fro
          exact (hf.ver.rel v0 g7).1.rt
        have hwl : wn < P.2.reqs.length := (List.getElem?_eq_some_iff.1 ha).1
        have hwi : (wn : Int) < (P.2.reqs.length : Int) := by omega
        obtain ⟨g8, off8, cap8, e8, hrg8, _⟩ := hS5.bk.mem.req.spot ha
        have c8 : w5.cell? ⟨bb, 8, none⟩ = some (.slice (some ⟨g8, off8, none⟩) P.2.reqs.length cap8) := by rw [<- e8]; exact hS5.bk.blk.cells 8
        have hlt8 : g8 < w5.heap.size := hS5.bk.mem.req.lt (by rw [e8]; rfl)
        have hltb : bb < w5.heap.size := blk_lt hS5.bk.blk
        obtain ⟨at_, ⟨al, az, ax, ay⟩, ae, av, an, aw, as_⟩ := a
        dsimp only at ga g5 a0 hK g8'
        subst ga g8'
        obtain ⟨av, rfl⟩ : ∃ n : Nat, av = n := ⟨av.toNat, by omega⟩
        have HALL := hide (show ∀ w', Below w5.heap.size w5 w' -> w'.cell? ⟨bb, 8, none⟩ = some (.slice (some ⟨g8, off8, none⟩) P.2.reqs.length cap8) /\ w'.cell? ⟨gS, 0, none⟩ = some (.int .i64 wn) /\ w'.rangeAt g8 (off8 + wn * 10) (#[.string at_, .int .i64 al, .int .i64 az, .int .i64 ax, .int .i64 ay, .int .i64 0, .int .i64 (av : Int), .int .i64 an, .int .i64 aw, .int .i64 as_] : Array Value).toList from fun w' h => ⟨(h.cell (p := ⟨bb, 8, none⟩) hltb).trans c8, blk_cells (blk_on (unhide HAS) h) 0, rng_in hrg8 h hlt8⟩)
        have HKK := hide hK
        have HA0 := hide hA0
        clear hS5 e8 hrg8 c8 hlt8 hltb ha hok hkk hK hA0 hwl hw0
        go_wp2_with (first | refine ldG 37 #[.int .i64 (wn : Int), .int .i64 200, .string (bodyB (P.1.FLs v0) ⟨al, az, ax, ay⟩), .string tg, .int .i64 sv, .int .i64 sm, .int .i64 sb] Tryz.underlying37 rfl (sz37 _ _ _ _ _ _ _) g9 (off9 + k * 7) hrg rfl _ rfl rfl ?_ | refine wlV _ _ (unhide HALgS _ _ _ rfl rfl) rfl ?_ | refine wlSk _ (unhide HSTgS _ _ _ _ _ rfl rfl rfl rfl) rfl ?_)
        refine wp_region_held (S := fun w' => w'.cell? ⟨bb, 8, none⟩ = some (.slice (some ⟨g8, off8, none⟩) P.2.reqs.length cap8) /\ w'.cell? ⟨gS, 0, none⟩ = some (.int .i64 wn) /\ w'.rangeAt g8 (off8 + wn * 10) (#[.string at_, .int .i64 al, .int .i64 az, .int .i64 ax, .int .i64 ay, .int .i64 0, .int .i64 (av : Int), .int .i64 an, .int .i64 aw, .int .i64 as_] : Array Value).toList) (by kernel_rfl) ?_
        change wpAnyH _ _ _ _ _ _ _ _ (World.drew _)
        have hbD := (Below.refl w5.heap.size w5).drew
        generalize World.drew w5 = w6 at hbD ⊢
        have hS6 := unhide HALL w6 hbD
        obtain ⟨w7, hw7⟩ : ∃ W', w6.alloc (.cells #[.string ⟨#[]⟩, .int .i64 0, .int .i64 0, .int .i64 0, .int .i64 0, .int .i64 0, .int .i64 0, .int .i64 0, .int .i64 0, .int .i64 0] 42) = W' := ⟨_, rfl⟩
        have hAw7 : w7.heap[w6.heap.size]? = some (.cells #[.string ⟨#[]⟩, .int .i64 0, .int .i64 0, .int .i64 0, .int .i64 0, .int .i64 0, .int .i64 0, .int .i64 0, .int .i64 0, .int .i64 0] 42 (0, 0)) := hw7 ▸ heap_alloc_new w6 (.cells #[.string ⟨#[]⟩, .int .i64 0, .int .i64 0, .int .i64 0, .int .i64 0, .int .i64 0, .int .i64 0, .int .i64 0, .int .i64 0, .int .i64 0] 42 (0, 0))
        have hbw7 : Below w6.heap.size w6 w7 := hw7 ▸ (Below.refl w6.heap.size w6).alloc (Nat.le_refl _) (.cells #[.string ⟨#[]⟩, .int .i64 0, .int .i64 0, .int .i64 0, .int .i64 0, .int .i64 0, .int .i64 0, .int .i64 0, .int .i64 0, .int .i64 0] 42)
        obtain ⟨gQ, hggQ⟩ : ∃ g1, w6.heap.size = g1 := ⟨_, rfl⟩
        have HALgQ := hide (show ∀ (W : World) (ev : Operand -> Value) (o : Oper), o.op = .alloc 42 -> W = w6 -> (execOp ev o).run Tryz.prog W = .ok (.value (.pointer (some ⟨gQ, 0, none⟩))) w7 from fun W ev o q e => by subst e; exact hggQ ▸ al42 ev o q W w7 hw7)
        rw [hggQ] at hAw7
        obtain ⟨w8, hw8⟩ : ∃ W', w7.setRow gQ #[.string at_, .int .i64 al, .int .i64 az, .int .i64 ax, .int .i64 ay, .int .i64 0, .int .i64 (av : Int), .int .i64 an, .int .i64 aw, .int .i64 as_] = W' := ⟨_, rfl⟩
        have hAw8 : w8.heap[gQ]? = some (.cells #[.string at_, .int .i64 al, .int .i64 az, .int .i64 ax, .int .i64 ay, .int .i64 0, .int .i64 (av : Int), .int .i64 an, .int .i64 aw, .int .i64 as_] 42 (0, 0)) := hw8 ▸ setRow_heap _ _ _ #[.string at_, .int .i64 al, .int .i64 az, .int .i64 ax, .int .i64 ay, .int .i64 0, .int .i64 (av : Int), .int .i64 an, .int .i64 aw, .int .i64 as_] _ _ hAw7
        have hbw8 : Below w6.heap.size w6 w8 := hw8 ▸ below_setRow hbw7 (by omega) #[.string at_, .int .i64 al, .int .i64 az, .int .i64 ax, .int .i64 ay, .int .i64 0, .int .i64 (av : Int), .int .i64 an, .int .i64 aw, .int .i64 as_]
        have HSTgQ := hide (show ∀ (W : World) (ev : Operand -> Value) (o : Oper) (s t : Operand), o.op = .store 42 s t -> ev s = .pointer (some ⟨gQ, 0, none⟩) -> ev t = .agg #[.string at_, .int .i64 al, .int .i64 az, .int .i64 ax, .int .i64 ay, .int .i64 0, .int .i64 (av : Int), .int .i64 an, .int .i64 aw, .int .i64 as_] -> W = w7 -> (execOp ev o).run Tryz.prog W = .ok .skip w8 from fun W ev o s t q q1 q2 e => by subst e; exact hw8 ▸ stR ev o s t 42 q #[.string at_, .int .i64 al, .int .i64 az, .int .i64 ax, .int .i64 ay, .int .i64 0, .int .i64 (av : Int), .int .i64 an, .int .i64 aw, .int .i64 as_] #[.string ⟨#[]⟩, .int .i64 0, .int .i64 0, .int .i64 0, .int .i64 0, .int .i64 0, .int .i64 0, .int .i64 0, .int .i64 0, .int .i64 0] (sz42 _ _ _ _ _ _ _ _ _ _) (ask_one _ _ _ _ _ _ _ _ _ _) rfl gQ q1 q2 W hAw7)
        have hS7 := unhide HALL w7 (hbD.trans (hbw7.mono hbD.size))
        have hb58 := hbD.trans (hbw8.mono hbD.size)
        have hS8 := unhide HALL w8 hb58
        have H8 := hide (show Below w5.heap.size w5 w8 /\ w8.heap[gQ]? = some (.cells #[.string at_, .int .i64 al, .int .i64 az, .int .i64 ax, .int .i64 ay, .int .i64 0, .int .i64 (av : Int), .int .i64 an, .int .i64 aw, .int .i64 as_] 42 (0, 0)) from ⟨hb58, hAw8⟩)
        clear hbw7 hAw7 hw8 hw7 hbw8 hAw8 hb58 hbD hggQ
        refine t_tk 0 rfl (.pointer (some ⟨bb, 0, none⟩)) (by kernel_rfl) (fun _ _ _ h => h) rfl (fun w' hw' => by simp [go_sem]) hS6 ?_
        simp only [Act.put, qA, qB, qC]
        refine t_tk 1 rfl (.pointer (some ⟨bb, 0, none⟩)) (by kernel_rfl) (fun _ _ _ h => h) rfl (fun w' hw' => by simp [go_sem]) hS6 ?_
        simp only [Act.put, qA, qB, qC]
        refine t_tk 2 rfl (.pointer (some ⟨bb, 8, none⟩)) (by kernel_rfl) (fun _ _ _ h => h) rfl (fun w' hw' => by simp [go_sem]) hS6 ?_
        simp only [Act.put, qA, qB, qC]
        refine t_tk 3 rfl (.slice (some ⟨g8, off8, none⟩) P.2.reqs.length cap8) (by kernel_rfl) (fun _ _ _ h => h) rfl (fun w' hw' => by simp [go_sem, hw'.1]) hS6 ?_
        simp only [Act.put, qA, qB, qC]
        refine t_tk 4 rfl (.pointer (some ⟨gS, 0, none⟩)) (by kernel_rfl) (fun _ _ _ h => h) rfl (fun w' hw' => by simp [go_sem]) hS6 ?_
        simp only [Act.put, qA, qB, qC]
        refine t_tk 5 rfl (.pointer (some ⟨gS, 0, none⟩)) (by kernel_rfl) (fun _ _ _ h => h) rfl (fun w' hw' => by simp [go_sem]) hS6 ?_
        simp only [Act.put, qA, qB, qC]
        refine t_tk 6 rfl (.int .i64 wn) (by kernel_rfl) (fun _ _ _ h => h) rfl (fun w' hw' => by simp [go_sem, hw'.2.1]) hS6 ?_
        simp only [Act.put, qA, qB, qC]
        refine t_tk 7 rfl (.pointer (some ⟨g8, off8 + wn * 10, none⟩)) (by kernel_rfl) (fun _ _ _ h => h) rfl (fun w' hw' => by simp [go_sem, hwi]) hS6 ?_
        simp only [Act.put, qA, qB, qC]
        refine t_tk 8 rfl (.agg #[.string at_, .int .i64 al, .int .i64 az, .int .i64 ax, .int .i64 ay, .int .i64 0, .int .i64 (av : Int), .int .i64 an, .int .i64 aw, .int .i64 as_]) (by kernel_rfl) (fun _ _ _ h => h) rfl (fun w' hw' => ldcR _ _ _ 42 rfl _ rfl _ Tryz.underlying42 rfl (sz42 _ _ _ _ _ _ _ _ _ _) g8 (off8 + wn * 10) rfl _ hw'.2.2) hS6 ?_
        simp only [Act.put, qA, qB, qC]
        refine wpAnyH_all (rs := [9]) (by kernel_rfl) (by simp) ?_
        intro i hi
        simp only [List.mem_singleton] at hi
        subst hi
        refine t_op 9 rfl rfl (.pointer (some ⟨gQ, 0, none⟩)) (w7) (unhide HALgQ _ _ _ rfl rfl) (hS7) ?_
        simp only [Act.put, qA, qB, qC]
        refine wpAnyH_all (rs := [10]) (by kernel_rfl) (by simp) ?_
        intro i hi
        simp only [List.mem_singleton] at hi
        subst hi
        refine t_skip 10 rfl rfl (w8) (unhide HSTgQ _ _ _ _ _ rfl rfl rfl rfl) (hS8) ?_
        simp only [Act.put]
        refine wpAnyH_done (by kernel_rfl) ?_ _
        clear HALgQ HSTgQ HALgS HSTgS hS6 hS7 hS8 HALL k1 hrg c9 c12
        obtain ⟨hb58, hA8⟩ := unhide H8
        have HI8 := hide (show StE w0 w8 bb fb P.1 P.2 /\ w8.heap[gS]? = some (.cells #[.int .i64 (wn : Int), .int .i64 200, .string (bodyB (P.1.FLs v0) ⟨al, az, ax, ay⟩), .string tg, .int .i64 sv, .int .i64 sm, .int .i64 sb] 37 (0, 0)) /\ w8.heap[gQ]? = some (.cells #[.string at_, .int .i64 al, .int .i64 az, .int .i64 ax, .int .i64 ay, .int .i64 0, .int .i64 (av : Int), .int .i64 an, .int .i64 aw, .int .i64 as_] 42 (0, 0)) from ⟨(unhide H5).on hb58, blk_on (unhide HAS) hb58, hA8⟩)
        have m6 : w8.cell? ⟨gQ, 6, none⟩ = some (.int .i64 av) := blk_cells hA8 6
        clear hb58 hA8 H8
        go_wp2_with fail
        clear m6
        go_loopw [10, 11] (fun f v wx => ∃ (vv : Nat) (fd : Bool), (fd = false -> vv <= v0) /\ vv <= v0 + 1 /\ v = .int .i64 vv /\ f = .bool fd /\ Hid (StE w0 wx bb fb P.1 P.2 /\ wx.heap[gS]? = some (.cells #[.int .i64 (wn : Int), .int .i64 200, .string (bodyB (P.1.FLs v0) ⟨al, az, ax, ay⟩), .string tg, .int .i64 sv, .int .i64 sm, .int .i64 sb] 37 (0, 0)) /\ wx.heap[gQ]? = some (.cells #[.string at_, .int .i64 al, .int .i64 az, .int .i64 ax, .int .i64 ay, .int .i64 0, .int .i64 (av : Int), .int .i64 an, .int .i64 aw, .int .i64 as_] 42 (0, 0)))) (fun _ v _ => v0 + 1 - (intOf v).toNat)
        case atStart => exact ⟨av, false, fun _ => by omega, by omega, rfl, rfl, hide (unhide HI8)⟩
        case round =>
          obtain ⟨vv, fd, hfd, hvv, rfl, rfl, hx⟩ := hrel
          obtain ⟨hsx, hSx, hQx⟩ := unhide hx
          have k4 : wr.cell? ⟨gS, 4, none⟩ = some (.int .i64 sv) := blk_cells hSx 4
          cases fd with
          | false =>
            have hle := hfd rfl
            have dl : decide ((vv : Int) <= sv) = true := decide_eq_true (by omega)
            have k2 : wr.cell? ⟨gS, 2, none⟩ = some (.string (bodyB (P.1.FLs v0) ⟨al, az, ax, ay⟩)) := blk_cells hSx 2
            have hrgK : wr.rangeAt gQ 1 (#[.int .i64 al, .int .i64 az, .int .i64 ax, .int .i64 ay] : Array Value).toList := rngP (C := [.int .i64 0, .int .i64 (av : Int), .int .i64 an, .int .i64 aw, .int .i64 as_]) (rngT (rng_blk hQx))
            have IS := is_any w0 bb fb P.1 P.2 (P.1.FLs v0) al az ax ay vv wr hsx (unhide HA0) (unhide HKK) (by omega)
            obtain ⟨bo, hbo⟩ : ∃ bo, decide (tile (P.1.FLs v0) al az ax ay = tile (P.1.FLs vv) al az ax ay) = bo := ⟨_, rfl⟩
            have hnx : bo = false -> vv + 1 <= v0 := fun e => by
              rcases Nat.lt_or_ge vv v0 with q | q
              . omega
              . have : vv = v0 := by omega
                subst this
                rw [<- hbo] at e
                simp at e
            rw [hbo] at IS
            have HNX := hide hnx
            clear hsx hSx hQx hbo hnx hfd
            go_wp2_with (refine ldG 39 #[.int .i64 al, .int .i64 az, .int .i64 ax, .int .i64 ay] Tryz.underlying39 rfl (sz39 _ _ _ _) gQ 1 hrgK rfl _ rfl rfl ?_)
            refine IS.mono ?_
            rintro e w9 ⟨rfl, hb9⟩
            obtain ⟨y1, y2, y3⟩ := unhide hx
            have HN := hide (show StE w0 w9 bb fb P.1 P.2 /\ w9.heap[gS]? = some (.cells #[.int .i64 (wn : Int), .int .i64 200, .string (bodyB (P.1.FLs v0) ⟨al, az, ax, ay⟩), .string tg, .int .i64 sv, .int .i64 sm, .int .i64 sb] 37 (0, 0)) /\ w9.heap[gQ]? = some (.cells #[.string at_, .int .i64 al, .int .i64 az, .int .i64 ax, .int .i64 ay, .int .i64 0, .int .i64 (av : Int), .int .i64 an, .int .i64 aw, .int .i64 as_] 42 (0, 0)) from ⟨y1.on hb9, blk_on y2 hb9, blk_on y3 hb9⟩)
            clear IS hb9 y1 y2 y3 k2 k4 hrgK
            go_wp2_with fail
            go_roundw
            case rel => exact ⟨vv + 1, bo, unhide HNX, by omega, by go_num, rfl, hide (unhide HN)⟩
            case measure => simp [intOf]; omega
          | true =>
            have m5 : wr.cell? ⟨gQ, 5, none⟩ = some (.int .i64 0) := blk_cells hQx 5
            have HN := hide hsx
            clear hsx hSx hQx hx hfd
            by_cases hle : (vv : Int) <= sv
            . have dl : decide ((vv : Int) <= sv) = true := decide_eq_true hle
              go_wp2_with fail
              go_roundw
              case rel => exact ⟨k + 1, by omega, by go_num, hide (unhide HN)⟩
              case measure => simp [intOf]; omega
            . have dl : decide ((vv : Int) <= sv) = false := decide_eq_false hle
              go_wp2_with fail
              go_roundw
              case rel => exact ⟨k + 1, by omega, by go_num, hide (unhide HN)⟩
              case measure => simp [intOf]; omega
      . have d2 : (st == 200) = false := by simpa using h200
        have HN := hide h5
        clear h5 hok ha h200
        go_wp2_with (first | refine ldG 37 #[.int .i64 (wn : Int), .int .i64 st, .string bd, .string tg, .int .i64 sv, .int .i64 sm, .int .i64 sb] Tryz.underlying37 rfl (sz37 _ _ _ _ _ _ _) g9 (off9 + k * 7) hrg rfl _ rfl rfl ?_ | refine wlV _ _ (unhide HALgS _ _ _ rfl rfl) rfl ?_ | refine wlSk _ (unhide HSTgS _ _ _ _ _ rfl rfl rfl rfl) rfl ?_)
        go_roundw
        case rel => exact ⟨k + 1, by omega, by go_num, hide (unhide HN)⟩
        case measure => simp [intOf]; omega
    . have hkl : k = P.2.says.length := by omega
      obtain ⟨oa9, cap9, e9, _⟩ := hS.bk.mem.say.at
      have c9 : wr.cell? ⟨bb, 9, none⟩ = some (.slice oa9 P.2.says.length cap9) := by rw [<- e9]; exact hS.bk.blk.cells 9
      have c10 := hS.cs.2.2.2.2.2.2.1
      rw [unhide HW0] at c10
      have HBE := hide ((unhide hst).below (unhide HB0))
      subst hkl
      clear hS e9 hst H4
      go_wp2_with fail
      go_ret
      exact ⟨rfl, unhide HBE⟩
end Go.Proofs.YtpopchckldbhdaaGreatDoor
namespace Go.Proofs.YtpopchckldbhdaaGreatDoor
set_option maxRecDepth 20000
open Go.ChangeShapes Go.WideShapes Go.ChangeAt Go.RowKit Go.Joins
open Go.ChangeMaps (open_string shut_string)
theorem fresh_contract (H : Type) (enc : TypeId × Value -> H) (W : World) (base : Nat) (args : Array Value) (ds gs : List (DataW H)) (before : List MemPlace)
    (hval : ∀ (j : Nat) t v, Tryz.f3.params[j]? = some t -> args[j]? = some v -> Value.okWide Tryz.prog W .any base t v)
    (hW : DataW.Whole enc Tryz.prog Tryz.f3.params.toList Rows.freshSpec.vars false W args.toList ds gs before) (hsz : (DataW.weightsEach Tryz.prog (Tryz.f3.params.toList ++ (OpenSpec.ofChange Rows.freshSpec).bare.plain.varTypes Tryz.prog) (ds ++ gs)).all (· <= reachBytes) = true) (hL : laidMetH Tryz.prog Rows.freshRow.laid W) :
    Calls Tryz.prog 3 args W fun e W' => ∃ v, e = .returned v /\ Rows.freshSpec.post enc Tryz.prog Tryz.f3 false true false false W args v W' := by
  have hW' := hW
  obtain ⟨p, q, hA0, hV, rfl, hfz, hnd⟩ := hW
  have hA : DataW.TrodAll enc Tryz.prog W 0 (fun _ => true) true Tryz.f3.params.toList args.toList ds p := hA0
  rw [Tryz.params3] at hA hval
  obtain ⟨v0, v1, d0, d1, p0, p1, rfl, rfl, rfl, h0, h1⟩ := trodAll_two hA
  obtain ⟨rfl, rfl⟩ := trodVars_none hV
  clear hA0
  obtain ⟨cq, wk, wt, ca, ch, rfl, r1, r2, r3, r4, r5⟩ := open_config (hval 0 23 v0 rfl rfl) h0
  have hb : ∀ elems spare, d1 = .slice elems spare -> (elems.length + spare.length) * 104 <= 140737488351232 := fun elems spare e => by
    subst e
    have := sized_slice hsz (j := 1) rfl rfl Tryz.underlying24
    rw [bytes63] at this
    unfold reachBytes at this
    omega
  obtain ⟨oa, cap, L, rfl, hs⟩ := open_scriptS (hval 1 24 v1 rfl rfl) h1 hb
  refine (fresh_any cq wk wt ca ch oa cap L W r1 r2 r3 r4 r5 (glb_of (show laidMetH Tryz.prog Rows.freshUptoRow.laid W from hL)) hs).mono fun e W' ⟨he, bel⟩ => ?_
  subst he
  exact ⟨_, rfl, law_post hW' rfl rfl (by kernel_rfl) (fun gs' e => by subst e; rfl) bel⟩
theorem fresh_met (os : Os) : laidMet Tryz.prog Rows.freshRow.laid ((World.doorLaid Tryz.prog 29 os).forCall (fun _ _ => 0) ⟨#[], #[.agg #[.int .i64 0, .int .i64 0, .int .i64 0, .int .i64 0, .int .i64 0], .slice none 0 0], []⟩).memory :=
  laidMet_of_run' 8 (by kernel_rfl) (by kernel_rfl)
theorem fresh_reads (os : Os) {H : Type} (enc : TypeId × Value -> H) : ∃ places, DataW.whole enc Tryz.prog ((World.doorLaid Tryz.prog 29 os).forCall (fun _ _ => 0) ⟨#[], #[.agg #[.int .i64 0, .int .i64 0, .int .i64 0, .int .i64 0, .int .i64 0], .slice none 0 0], []⟩).memory Tryz.f3.params.toList Rows.freshSpec.vars false
    #[.agg #[.int .i64 0, .int .i64 0, .int .i64 0, .int .i64 0, .int .i64 0], .slice none 0 0].toList 8 = some ([.agg [.lit (.int .i64 0), .lit (.int .i64 0), .lit (.int .i64 0), .lit (.int .i64 0), .lit (.int .i64 0)], .nil], [], places) :=
  ⟨[], by kernel_rfl⟩
set_option maxRecDepth 100000 in
theorem fresh_lifted (os : Os) (started : os.Started) (H : Type) (enc : TypeId × Value -> H) (F : Stop.Interp) :
    ReturnsInHanded {} Tryz.checked os 3 .any ((OpenSpec.ofChange Rows.freshSpec).preRow enc Tryz.prog Tryz.f3 Rows.freshRow.domain false Rows.freshRow.laid) (((OpenSpec.ofChange Rows.freshSpec).at F).post enc Tryz.prog Tryz.f3 false true false false) := by
  obtain ⟨places, hx⟩ := fresh_reads os enc
  refine returnsInHanded_of_row (C := Tryz.checked) (s := OpenSpec.ofChange Rows.freshSpec) Tryz.own started (by kernel_rfl) Tryz.func3
    (witness_row_at (enc := enc) (C := Tryz.checked) false (World.doorLaid Tryz.prog 29 os) #[.agg #[.int .i64 0, .int .i64 0, .int .i64 0, .int .i64 0, .int .i64 0], .slice none 0 0] rfl (by kernel_rfl) (by kernel_rfl) (by kernel_rfl)
      (OpenSpec.preRow_of_cond 8 hx (by kernel_rfl) (fun k hk => by cases hk) (by kernel_rfl) (fresh_met os))) ?_
  intro W base args ds gs before hval hW _ _ hsz hL _ _
  exact fresh_contract H enc W base args ds gs before hval hW hsz hL
theorem fresh_said : Rows.FreshSaid :=
  OpenClaim.holds_of_cond 3 Tryz.f3 rfl rfl rfl rfl rfl rfl rfl ⟨rfl, rfl, rfl, rfl, rfl⟩ rfl rfl rfl rfl rfl (by kernel_rfl) Tryz.func3 (by kernel_rfl)
    (of_decide_eq_true (by kernel_rfl)) (by unfold Func.isWrapper; first | (rw [if_pos (by decide +kernel)]; kernel_rfl) | (rw [if_neg (by decide +kernel)]; exact ⟨rfl, rfl⟩))
    (fun os started H enc _ F => by rw [OpenClaim.pre_eq_preRow]; exact fresh_lifted os started H enc F)
theorem fresh_plain (f : FuncId) (fn : Func) (hf : Tryz.pinned.checked.prog.funcNamed "atlas/atlaskeep.Fresh" = some f) (hfn : Tryz.pinned.checked.prog.funcs[f]? = some fn) :
    false = Tryz.pinned.checked.prog.looks [] /\ ∀ (j : Nat) t, fn.params[j]? = some t -> Tryz.pinned.checked.prog.wantsStandIn t = false := by
  obtain rfl : f = 3 := Option.some.inj ((show Tryz.prog.funcNamed "atlas/atlaskeep.Fresh" = some 3 by kernel_rfl).symm.trans hf) |>.symm
  obtain rfl : fn = Tryz.f3 := (Option.some.inj (Tryz.func3.symm.trans hfn)).symm
  refine ⟨by kernel_rfl, fun j t ht => ?_⟩
  rw [Tryz.params3] at ht
  have hm : t ∈ [23, 24] := by simpa using Array.mem_of_getElem? ht
  have hall : ([23, 24].all fun u => !Tryz.prog.wantsStandIn u) = true := by kernel_rfl
  exact (show Tryz.prog.wantsStandIn t = false by simpa using List.all_eq_true.1 hall t hm)
theorem fresh_card : Rows.FreshCardSaid :=
  Claim7.holds_tied_plain_at .later [] _ _ _ _ fresh_said (fun _ h => by cases h) (by kernel_rfl) (fun _ h => by cases h) fresh_row_tie rfl ⟨rfl, rfl⟩ (by kernel_rfl) rfl fresh_plain (by kernel_rfl)
end Go.Proofs.YtpopchckldbhdaaGreatDoor
