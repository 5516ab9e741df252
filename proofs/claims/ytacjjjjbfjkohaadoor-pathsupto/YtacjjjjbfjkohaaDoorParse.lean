/-
  wire.split, wire.Parse: what they answer.
-/
import Derived.Test.YtacjjjjbfjkohaaDoorLeafD
namespace Go.Proofs.YtacjjjjbfjkohaaDoor
open Go.RowKit

theorem empty_of (A : ByteArray) (l : List UInt8) (h : A.data.toList = l) : A.toList.isEmpty = l.isEmpty := by rw [ByteArray.toList_eq, h]
theorem below_dn {B : Nat} {a w : World} (h : Below B a w) (n : Nat) : Below B a (w.drewN n) := h.trans ⟨rfl, rfl, rfl, Nat.le_refl _, fun _ _ => rfl⟩

theorem split_no1 (p : List UInt8) (h : (Pp.cutL 47 p).1.isEmpty = false) : Pp.splitL p = none := by
  unfold Pp.splitL
  have h' : ¬ (Pp.cutL 47 p).1 = [] := fun e => by rw [e] at h; cases h
  simp [Pp.splitOk, h']
theorem split_eq (p a r0 n r1 z r2 x r3 y r4 : List UInt8) (h1 : a = (Pp.cutL 47 p).1) (h2 : r0 = (Pp.cutL 47 p).2) (h3 : n = (Pp.cutL 47 r0).1) (h4 : r1 = (Pp.cutL 47 r0).2)
    (h5 : z = (Pp.cutL 47 r1).1) (h6 : r2 = (Pp.cutL 47 r1).2) (h7 : x = (Pp.cutL 47 r2).1) (h8 : r3 = (Pp.cutL 47 r2).2) (h9 : y = (Pp.cutL 46 r3).1) (h10 : r4 = (Pp.cutL 46 r3).2) :
    Pp.splitL p = if (decide (a = [] ∧ r4 = Pp.tile) && (Pp.nameB n && (Pp.numB z && (Pp.numB x && Pp.numB y)))) = true then some (n, z, x, y) else none := by
  subst h1 h2 h3 h4 h5 h6 h7 h8 h9 h10
  rfl

theorem below4 (w : World) (o : Obj) (q : Nat) (a b c d : Value) : Below w.heap.size w ((((((w.alloc o).drewN q).setCell ⟨w.heap.size, 0, none⟩ a).setCell ⟨w.heap.size, 1, none⟩ b).setCell ⟨w.heap.size, 2, none⟩ c).setCell ⟨w.heap.size, 3, none⟩ d) :=
  ((((below_dn ((Below.refl _ _).alloc (Nat.le_refl _) _) _).setCell (Nat.le_refl _) _).setCell (Nat.le_refl _) _).setCell (Nat.le_refl _) _).setCell (Nat.le_refl _) _
set_option maxHeartbeats 1600000 in
theorem split_any (s : ByteArray) (w : World) (hs : s.size ≤ maxLen) :
    Calls Tryd.prog 12 #[.string s] w fun e w' =>
      ((Pp.splitL s.data.toList = none ∧ e = .returned (.tuple #[.agg #[.string ⟨#[]⟩, .string ⟨#[]⟩, .string ⟨#[]⟩, .string ⟨#[]⟩], .bool false])) ∨
       (∃ N Z X Y : ByteArray, Pp.splitL s.data.toList = some (N.data.toList, Z.data.toList, X.data.toList, Y.data.toList) ∧ e = .returned (.tuple #[.agg #[.string N, .string Z, .string X, .string Y], .bool true]))) ∧ Below w.heap.size w w' := by
  go_enter Tryd.func12, Tryd.ntmps12
  go_wp2_with fail
  refine (cut_any s 47 _ _ hs rfl).mono ?_
  rintro e w1 ⟨A, R0, rfl, hA, hR0, -, sR0, q0, rfl⟩
  have HA := hide hA
  have HR0 := hide hR0
  have hE := empty_of A _ hA
  clear hA hR0
  cases hAe : (Pp.cutL 47 s.data.toList).1.isEmpty with
  | false =>
    rw [hAe] at hE
    have hno := hide (split_no1 _ hAe)
    clear hAe
    go_wp2_with fail
    exact bodyPost_ret (v := .tuple #[.agg #[.string ⟨#[]⟩, .string ⟨#[]⟩, .string ⟨#[]⟩, .string ⟨#[]⟩], .bool false]) (by simp [results, Tryd.results12, go_sem]) rfl ⟨Or.inl ⟨unhide hno, rfl⟩, below4 _ _ _ _ _ _ _⟩
  | true =>
    rw [hAe] at hE
    have hA0 : Hid (A.data.toList = []) := by
      show A.data.toList = []
      rw [unhide HA]; exact List.isEmpty_iff.1 hAe
    clear hAe
    go_wp2_with fail
    refine (cut_any R0 47 _ _ (Nat.le_trans sR0 hs) rfl).mono ?_
    rintro e w1 ⟨N, R1, rfl, hN, hR1, sN, sR1, q1, rfl⟩
    have HN := hide hN
    have HR1 := hide hR1
    clear hN hR1
    have mN : N.size ≤ maxLen := Nat.le_trans (Nat.le_trans sN sR0) hs
    have m1 : R1.size ≤ maxLen := Nat.le_trans (Nat.le_trans sR1 sR0) hs
    clear sN sR1 sR0
    go_wp2_with fail
    refine (cut_any R1 47 _ _ m1 rfl).mono ?_
    rintro e w1 ⟨Z, R2, rfl, hZ, hR2, sZ, sR2, q2, rfl⟩
    have HZ := hide hZ
    have HR2 := hide hR2
    clear hZ hR2
    have mZ : Z.size ≤ maxLen := Nat.le_trans sZ m1
    have m2 : R2.size ≤ maxLen := Nat.le_trans sR2 m1
    clear sZ sR2 m1
    go_wp2_with fail
    refine (cut_any R2 47 _ _ m2 rfl).mono ?_
    rintro e w1 ⟨X, R3, rfl, hX, hR3, sX, sR3, q3, rfl⟩
    have HX := hide hX
    have HR3 := hide hR3
    clear hX hR3
    have mX : X.size ≤ maxLen := Nat.le_trans sX m2
    have m3 : R3.size ≤ maxLen := Nat.le_trans sR3 m2
    clear sX sR3 m2
    go_wp2_with fail
    refine (cut_any R3 46 _ _ m3 rfl).mono ?_
    rintro e w1 ⟨Y, R4, rfl, hY, hR4, sY, -, q4, rfl⟩
    have HS := hide (split_eq _ _ _ _ _ _ _ _ _ _ _ (unhide HA) (unhide HR0) (unhide HN) (unhide HR1) (unhide HZ) (unhide HR2) (unhide HX) (unhide HR3) hY hR4)
    clear HA HR0 HN HR1 HZ HR2 HX HR3 hY hR4
    have mY : Y.size ≤ maxLen := Nat.le_trans sY m3
    clear sY m3
    have hRl : R4.toList = R4.data.toList := ByteArray.toList_eq R4
    rw [unhide hA0] at HS
    by_cases ht : R4.data.toList = Pp.tile
    · have gt : (R4.data.toList == [116, 105, 108, 101]) = true := by rw [ht]; rfl
      rw [ht] at HS
      clear ht
      cases hn : Pp.nameB N.data.toList with
      | false =>
        have hno : Hid (Pp.splitL s.data.toList = none) := by
          show Pp.splitL s.data.toList = none
          rw [unhide HS]; simp [hn]
        have Hn := hide hn
        clear hn HS
        go_wp2_with (go_at_call 24; refine (isName_any N _ mN).mono ?_; rintro e w' ⟨rfl, rfl⟩; rw [unhide Hn])
        exact bodyPost_ret (v := .tuple #[.agg #[.string ⟨#[]⟩, .string ⟨#[]⟩, .string ⟨#[]⟩, .string ⟨#[]⟩], .bool false]) (by simp [results, Tryd.results12, go_sem]) rfl ⟨Or.inl ⟨unhide hno, rfl⟩, below4 _ _ _ _ _ _ _⟩
      | true =>
        cases hz : Pp.numB Z.data.toList with
        | false =>
          have hno : Hid (Pp.splitL s.data.toList = none) := by
            show Pp.splitL s.data.toList = none
            rw [unhide HS]; simp [hn, hz]
          have Hn := hide hn
          have Hz := hide hz
          clear hn hz HS
          go_wp2_with (first | (go_at_call 24; refine (isName_any N _ mN).mono ?_; rintro e w' ⟨rfl, rfl⟩; rw [unhide Hn]) | (go_at_call 25; refine (isNumber_any Z _ mZ).mono ?_; rintro e w' ⟨rfl, rfl⟩; rw [unhide Hz]))
          exact bodyPost_ret (v := .tuple #[.agg #[.string ⟨#[]⟩, .string ⟨#[]⟩, .string ⟨#[]⟩, .string ⟨#[]⟩], .bool false]) (by simp [results, Tryd.results12, go_sem]) rfl ⟨Or.inl ⟨unhide hno, rfl⟩, below4 _ _ _ _ _ _ _⟩
        | true =>
          cases hx : Pp.numB X.data.toList with
          | false =>
            have hno : Hid (Pp.splitL s.data.toList = none) := by
              show Pp.splitL s.data.toList = none
              rw [unhide HS]; simp [hn, hz, hx]
            have Hn := hide hn
            have Hz := hide hz
            have Hx := hide hx
            clear hn hz hx HS
            go_wp2_with fail
            refine (isName_any N _ mN).mono ?_
            rintro e w' ⟨rfl, rfl⟩
            rw [unhide Hn]
            go_wp2_with fail
            refine (isNumber_any Z _ mZ).mono ?_
            rintro e w' ⟨rfl, rfl⟩
            rw [unhide Hz]
            go_wp2_with fail
            refine (isNumber_any X _ mX).mono ?_
            rintro e w' ⟨rfl, rfl⟩
            rw [unhide Hx]
            go_wp2_with fail
            exact bodyPost_ret (v := .tuple #[.agg #[.string ⟨#[]⟩, .string ⟨#[]⟩, .string ⟨#[]⟩, .string ⟨#[]⟩], .bool false]) (by simp [results, Tryd.results12, go_sem]) rfl ⟨Or.inl ⟨unhide hno, rfl⟩, below4 _ _ _ _ _ _ _⟩
          | true =>
            cases hy : Pp.numB Y.data.toList with
            | false =>
              have hno : Hid (Pp.splitL s.data.toList = none) := by
                show Pp.splitL s.data.toList = none
                rw [unhide HS]; simp [hn, hz, hx, hy]
              have Hn := hide hn
              have Hz := hide hz
              have Hx := hide hx
              have Hy := hide hy
              clear hn hz hx hy HS
              go_wp2_with fail
              refine (isName_any N _ mN).mono ?_
              rintro e w' ⟨rfl, rfl⟩
              rw [unhide Hn]
              go_wp2_with fail
              refine (isNumber_any Z _ mZ).mono ?_
              rintro e w' ⟨rfl, rfl⟩
              rw [unhide Hz]
              go_wp2_with fail
              refine (isNumber_any X _ mX).mono ?_
              rintro e w' ⟨rfl, rfl⟩
              rw [unhide Hx]
              go_wp2_with fail
              refine (isNumber_any Y _ mY).mono ?_
              rintro e w' ⟨rfl, rfl⟩
              rw [unhide Hy]
              go_wp2_with fail
              exact bodyPost_ret (v := .tuple #[.agg #[.string ⟨#[]⟩, .string ⟨#[]⟩, .string ⟨#[]⟩, .string ⟨#[]⟩], .bool false]) (by simp [results, Tryd.results12, go_sem]) rfl ⟨Or.inl ⟨unhide hno, rfl⟩, below4 _ _ _ _ _ _ _⟩
            | true =>
              have hyes : Hid (Pp.splitL s.data.toList = some (N.data.toList, Z.data.toList, X.data.toList, Y.data.toList)) := by
                show Pp.splitL s.data.toList = _
                rw [unhide HS]; simp [hn, hz, hx, hy]
              have Hn := hide hn
              have Hz := hide hz
              have Hx := hide hx
              have Hy := hide hy
              clear hn hz hx hy HS
              go_wp2_with fail
              refine (isName_any N _ mN).mono ?_
              rintro e w' ⟨rfl, rfl⟩
              rw [unhide Hn]
              go_wp2_with fail
              refine (isNumber_any Z _ mZ).mono ?_
              rintro e w' ⟨rfl, rfl⟩
              rw [unhide Hz]
              go_wp2_with fail
              refine (isNumber_any X _ mX).mono ?_
              rintro e w' ⟨rfl, rfl⟩
              rw [unhide Hx]
              go_wp2_with fail
              refine (isNumber_any Y _ mY).mono ?_
              rintro e w' ⟨rfl, rfl⟩
              rw [unhide Hy]
              go_wp2_with fail
              exact bodyPost_ret (v := .tuple #[.agg #[.string N, .string Z, .string X, .string Y], .bool true]) (by simp [results, Tryd.results12, go_sem]) rfl ⟨Or.inr ⟨N, Z, X, Y, unhide hyes, rfl⟩, below4 _ _ _ _ _ _ _⟩
    · have gt : (R4.data.toList == [116, 105, 108, 101]) = false := by
        rw [beq_eq_false_iff_ne]; exact ht
      have hno : Hid (Pp.splitL s.data.toList = none) := by
        show Pp.splitL s.data.toList = none
        rw [unhide HS]; simp [ht]
      clear ht HS
      go_wp2_with fail
      exact bodyPost_ret (v := .tuple #[.agg #[.string ⟨#[]⟩, .string ⟨#[]⟩, .string ⟨#[]⟩, .string ⟨#[]⟩], .bool false]) (by simp [results, Tryd.results12, go_sem]) rfl ⟨Or.inl ⟨unhide hno, rfl⟩, below4 _ _ _ _ _ _ _⟩
end Go.Proofs.YtacjjjjbfjkohaaDoor
