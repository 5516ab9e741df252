/-
  THE LEAVES of the document's own answer: digits, parts.
-/
import Derived.Test.YtacjjjjbfjkohaaDoorLeafC
namespace Go.Proofs.YtacjjjjbfjkohaaDoor
open Go.RowKit

theorem str_one (v : UInt8) (W : World) (g : Nat) (h : W.cell? ⟨g, 0, none⟩ = some (.int .u8 (v.toNat : Int))) : (convert 48 9 (.slice (some ⟨g, 0, none⟩) 1 1)).run Tryd.prog W = .ok (.string ⟨#[v]⟩) W := by
  refine run_convert_bytes_back W 48 9 5 ⟨g, 0, none⟩ 1 [v] Tryd.underlying48 Tryd.underlying5 Tryd.underlying9 ?_
  intro j hj
  have : j = 0 := by simpa using hj
  subst this
  simpa [Addr.add] using h
theorem dec_len (u : Nat) : (Lib.decDigits u).length ≤ u + 1 := by
  induction u using Nat.strongRecOn with
  | _ u ih =>
    rw [Lib.decDigits]
    split
    · simp
    · have := ih (u / 10) (by omega)
      simp
      omega
/-- At the head of the round: m is still to be written ahead of acc. -/
def DigSo (N m : Nat) (acc : List UInt8) : Prop := Lib.decDigits m ++ acc = Lib.decDigits N
theorem digSo_end (N m : Nat) (acc : List UInt8) (h : m < 10) (hd : DigSo N m acc) : UInt8.ofNat (48 + m % 10) :: acc = Lib.decDigits N := by
  unfold DigSo at hd
  rw [← hd, Lib.decDigits_one h, Nat.mod_eq_of_lt h]
  rfl
theorem digSo_more (N m : Nat) (acc : List UInt8) (h : ¬ m < 10) (hd : DigSo N m acc) : DigSo N (m / 10) (UInt8.ofNat (48 + m % 10) :: acc) := by
  unfold DigSo at hd ⊢
  rw [← hd, Lib.decDigits.eq_def m, dif_neg h]
  simp
theorem digSo_len (N m : Nat) (acc : List UInt8) (hN : N ≤ 1000000000) (hd : DigSo N m acc) : acc.length ≤ 1000000001 := by
  unfold DigSo at hd
  have h1 := congrArg List.length hd
  rw [List.length_append] at h1
  have := dec_len N
  omega
theorem cons_str (v : UInt8) (acc : List UInt8) : (⟨#[v]⟩ : ByteArray) ++ ⟨acc.toArray⟩ = ⟨(v :: acc).toArray⟩ := by
  apply ByteArray.ext
  simp

set_option maxHeartbeats 800000 in
theorem digits_any (N : Nat) (w : World) (hN : N ≤ 1000000000) :
    Calls Tryd.prog 22 #[.int .i64 N] w fun e w' => e = .returned (.string ⟨(Lib.decDigits N).toArray⟩) ∧ Below w.heap.size w w' := by
  go_enter Tryd.func22, Tryd.ntmps22
  go_wp2
  go_loopw [0, 3] (fun n s wr => ∃ (m : Nat) (acc : List UInt8), m ≤ N ∧ n = .int .i64 m ∧ s = .string ⟨acc.toArray⟩ ∧ Hid (DigSo N m acc) ∧ Below w.heap.size w wr) (fun n _ _ => (intOf n).toNat)
  case atStart => exact ⟨N, [], Nat.le_refl _, rfl, rfl, hide (by simp [DigSo]), Below.refl _ _⟩
  case round =>
    obtain ⟨m, acc, hm, rfl, rfl, hd, hbel⟩ := hrel
    have hlen := digSo_len N m acc hN (unhide hd)
    obtain ⟨v, hv, hvv⟩ : ∃ v : UInt8, (48 + (m : Int) % 10) = (v.toNat : Int) ∧ v = UInt8.ofNat (48 + m % 10) := ⟨UInt8.ofNat (48 + m % 10), by rw [UInt8.toNat_ofNat']; omega, rfl⟩
    have HV := hide hvv
    clear hvv
    have hcv := fun W => str_one v W wr.heap.size
    have hsz : (⟨acc.toArray⟩ : ByteArray).size = acc.length := rfl
    have hjn := cons_str v acc
    by_cases h10 : m < 10
    · have hE : Hid (v :: acc = Lib.decDigits N) := by
        show v :: acc = _
        rw [unhide HV]; exact digSo_end N m acc h10 (unhide hd)
      have hz : ((m : Int) / 10 == 0) = true := by
        rw [beq_iff_eq]; omega
      go_wp2
      go_ret
      exact ⟨ret_str (unhide hE), hbel.alloc hbel.size _⟩
    · have hE : Hid (DigSo N (m / 10) (v :: acc)) := by
        show DigSo N (m / 10) (v :: acc)
        rw [unhide HV]; exact digSo_more N m acc h10 (unhide hd)
      have hz : ((m : Int) / 10 == 0) = false := by
        rw [beq_eq_false_iff_ne]; omega
      go_wp2
      go_roundw
      case rel => exact ⟨m / 10, v :: acc, by omega, by go_num, rfl, hE, hbel.alloc hbel.size _⟩
      case measure => simp [intOf]; omega

theorem Tryd.info9 : (Tryd.prog.info? 9).map (fun i => (i.zero, i.size, i.bytes)) = some (some (.string ⟨#[]⟩), 1, 16) := by kernel_rfl
/-- The slice v holds the strings l, in memory from block B on. -/
def OwnS (w : World) (B : Nat) (v : Value) (l : List ByteArray) : Prop := w.ownsRow B 9 1 v l.length (l.map Value.string)
theorem ownS_nil (w : World) (B : Nat) : OwnS w B (.slice none 0 0) [] := World.ownsRow_nil _ _ _ _

theorem wp_append_str {ops : Array Oper} {rest : List Oper} {o : Oper} {a : Act} {Q : Exit → Act → World → Prop} (hgd : o.guard = none) (s x : Operand)
    (ho : o.op = .call { callee := .builtin .append, args := #[s, x], argTypes := #[39, 39] })
    (W : World) (B : Nat) (v : Value) (l : List ByteArray) (b : ByteArray) (hs : a.eval s = v) (hown : OwnS W B v l) (hx : a.eval x = .slice (some ⟨W.heap.size, 0, none⟩) 1 1)
    (hlen : l.length ≤ 2000000) (hB : B ≤ W.heap.size)
    (h : ∀ v' w', OwnS w' B v' (l ++ [b]) → Below B W w' → wpList Tryd.prog ops Q rest (a.put o.dst v') w') :
    wpList Tryd.prog ops Q (o :: rest) a (W.alloc (.cells #[.string b] 9)) := by
  obtain ⟨i0, hi, hz0, hz1, hz2⟩ := info_parts Tryd.info9
  refine wpList_append_own _ hgd s x 39 ho B 9 i0 (.string ⟨#[]⟩) 1 16 Tryd.underlying39 hi hz0 hz1 hz2 rfl (by decide) v l.length (l.map Value.string) hs (World.ownsRow.alloc hown _) ⟨W.heap.size, 0, none⟩ 1 1 [.string b] hx rfl (cell_one_new _ _ _) ?_ ?_ ?_ ?_ ?_
  · intro u hu; simp at hu; subst hu; rfl
  · unfold maxLen; omega
  · omega
  · simp; omega
  · intro v' w1 hown' hgrow _
    refine h v' w1 ?_ ?_
    · unfold OwnS
      simpa using hown'
    · exact ((Below.refl B W).alloc hB _).grown hgrow (by simp; omega) (fun k hk => (World.ownsRow.lt hown k hk).1)

/-- At the head of the round: what has been gathered, from where on, and that no slash stands between. -/
def PartSo (s : ByteArray) (f i : Nat) (l : List ByteArray) : Prop :=
  l.map (fun b => b.data.toList) ++ Pp.pieces (s.data.toList.drop f) = Pp.pieces s.data.toList ∧ (47 : UInt8) ∉ (s.data.toList.drop f).take (i - f)
theorem partSo_start (s : ByteArray) : PartSo s 0 0 [] := ⟨rfl, by simp⟩
theorem mid_split (s : ByteArray) (f i : Nat) (h : f ≤ i) (hi : i < s.size) : s.data.toList.drop f = (s.data.toList.drop f).take (i - f) ++ s[i] :: s.data.toList.drop (i + 1) := by
  have e := List.take_append_drop (i - f) (s.data.toList.drop f)
  rw [List.drop_drop, show f + (i - f) = i from by omega, drop_cons s i hi] at e
  exact e.symm
theorem partSo_hit (s : ByteArray) (f i : Nat) (l : List ByteArray) (h : f ≤ i) (hi : i < s.size) (hc : s[i] = 47) (hp : PartSo s f i l) : PartSo s (i + 1) (i + 1) (l ++ [s.extract f i]) := by
  obtain ⟨h1, h2⟩ := hp
  refine ⟨?_, by simp⟩
  rw [mid_split s f i h hi, hc, Pp.pieces_found _ _ h2] at h1
  rw [List.map_append, List.append_assoc, ← h1]
  simp
theorem partSo_miss (s : ByteArray) (f i : Nat) (l : List ByteArray) (h : f ≤ i) (hi : i < s.size) (hc : ¬ s[i] = 47) (hp : PartSo s f i l) : PartSo s f (i + 1) l := by
  obtain ⟨h1, h2⟩ := hp
  refine ⟨h1, ?_⟩
  have e : (s.data.toList.drop f).take (i + 1 - f) = (s.data.toList.drop f).take (i - f) ++ [s[i]] := by
    rw [show i + 1 - f = (i - f) + 1 from by omega, List.take_succ_eq_append_getElem (by simp; omega)]
    simp [show f + (i - f) = i from by omega]
    rfl
  rw [e]
  intro hm
  rcases List.mem_append.1 hm with hm | hm
  · exact h2 hm
  · exact hc (List.mem_singleton.1 hm).symm
theorem partSo_last (s : ByteArray) (f i : Nat) (l : List ByteArray) (h : f ≤ i) (hi : i = s.size) (hp : PartSo s f i l) : (l ++ [s.extract f i]).map (fun b => b.data.toList) = Pp.pieces s.data.toList := by
  obtain ⟨h1, h2⟩ := hp
  subst hi
  have e : (s.data.toList.drop f).take (s.size - f) = s.data.toList.drop f := List.take_of_length_le (by simp)
  rw [e] at h2
  rw [Pp.pieces_none _ h2] at h1
  rw [List.map_append, ← h1]
  simp [e]

def PartR (s : ByteArray) (F k : Nat) (l : List ByteArray) : Prop := (k ≤ s.size ∧ F ≤ k ∧ PartSo s F k l) ∨ (k = s.size + 1 ∧ l.map (fun b => b.data.toList) = Pp.pieces s.data.toList)
theorem sizes_snoc (s : ByteArray) (l : List ByteArray) (f i : Nat) (hs : s.size ≤ 1048576) (h : ∀ b ∈ l, b.size ≤ maxLen) : ∀ b ∈ l ++ [s.extract f i], b.size ≤ maxLen := by
  intro b hb
  rcases List.mem_append.1 hb with hb | hb
  · exact h b hb
  · rw [List.mem_singleton.1 hb]
    unfold maxLen
    simp
    omega

set_option maxHeartbeats 800000 in
theorem parts_any (s : ByteArray) (w : World) (hs : s.size ≤ 1048576) :
    Calls Tryd.prog 16 #[.string s] w fun e w' => ∃ (v : Value) (l : List ByteArray), e = .returned v ∧ OwnS w' w.heap.size v l ∧ l.map (fun b => b.data.toList) = Pp.pieces s.data.toList ∧ (∀ b ∈ l, b.size ≤ maxLen) ∧ Below w.heap.size w w' := by
  go_enter Tryd.func16, Tryd.ntmps16
  go_wp2
  go_loopw [3, 4, 5] (fun v f i wr => ∃ (F k : Nat) (l : List ByteArray), f = .int .i64 F ∧ i = .int .i64 k ∧ l.length ≤ k ∧ Hid (PartR s F k l) ∧ Hid (∀ b ∈ l, b.size ≤ maxLen) ∧ OwnS wr w.heap.size v l ∧ Below w.heap.size w wr) (fun _ _ i _ => s.size + 2 - (intOf i).toNat)
  case atStart => exact ⟨0, 0, [], rfl, rfl, Nat.le_refl _, hide (Or.inl ⟨Nat.zero_le _, Nat.le_refl _, partSo_start s⟩), hide (by simp), ownS_nil _ _, Below.refl _ _⟩
  case round =>
    obtain ⟨F, k, l, rfl, rfl, hlen, hR, hA, hown, hbel⟩ := hrel
    have hsz := hbel.size
    rcases unhide hR with ⟨hk, hF, hP⟩ | ⟨hk, hfin⟩
    · have HP := hide hP
      clear hP hR
      have hA2 := hide (sizes_snoc s l F k hs (unhide hA))
      by_cases hlt : k < s.size
      · have g0 : ((k : Int) == (s.size : Int)) = false := by rw [beq_eq_false_iff_ne]; omega
        by_cases hc : s[k] = 47
        · have g1 : ((s[k].toNat : Int) == 47) = true := by rw [hc]; rfl
          have hN := hide (partSo_hit s F k l hF hlt hc (unhide HP))
          clear hc HP
          go_wp2_with (at_builtin; refine wp_append_str rfl (.tmp 22) (.tmp 27) rfl _ w.heap.size _ l _ rfl hown rfl ?_ ?_ ?_)
          · omega
          · exact hsz
          · intro v' w1 hown' hbel'
            have hb2 := hbel.trans hbel'
            clear hown hbel hbel'
            go_wp2
            go_roundw
            case rel => exact ⟨k + 1, k + 1, l ++ [s.extract F k], by go_num, by go_num, by simp; omega, hide (Or.inl ⟨by omega, Nat.le_refl _, unhide hN⟩), hA2, hown', hb2⟩
            case measure => simp [intOf]; omega
        · have g1 : ((s[k].toNat : Int) == 47) = false := by
            rw [beq_eq_false_iff_ne]
            intro h
            apply hc
            apply UInt8.toNat_inj.1
            have : (47 : UInt8).toNat = 47 := rfl
            omega
          have hN := hide (partSo_miss s F k l hF hlt hc (unhide HP))
          clear hc HP
          go_wp2
          go_roundw
          case rel => exact ⟨F, k + 1, l, rfl, by go_num, by omega, hide (Or.inl ⟨by omega, by omega, unhide hN⟩), hA, hown, hbel⟩
          case measure => simp [intOf]; omega
      · have g0 : ((k : Int) == (s.size : Int)) = true := by rw [beq_iff_eq]; omega
        have hN := hide (partSo_last s F k l hF (by omega) (unhide HP))
        clear HP
        go_wp2_with (at_builtin; refine wp_append_str rfl (.tmp 22) (.tmp 27) rfl _ w.heap.size _ l _ rfl hown rfl ?_ ?_ ?_)
        · omega
        · exact hsz
        · intro v' w1 hown' hbel'
          have hb2 := hbel.trans hbel'
          clear hown hbel hbel'
          go_wp2
          go_roundw
          case rel => exact ⟨k + 1, k + 1, l ++ [s.extract F k], by go_num, by go_num, by simp; omega, hide (Or.inr ⟨by omega, unhide hN⟩), hA2, hown', hb2⟩
          case measure => simp [intOf]; omega
    · have HF := hide hfin
      clear hfin hR
      have hk' : s.size < k := by omega
      clear hk
      go_wp2
      go_ret
      exact ⟨_, l, rfl, hown, unhide HF, unhide hA, hbel⟩
end Go.Proofs.YtacjjjjbfjkohaaDoor
