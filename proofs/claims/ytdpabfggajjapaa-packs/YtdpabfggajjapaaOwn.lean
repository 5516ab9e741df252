/-
  BYTES THAT A CALL ITSELF GATHERS: a slice of bytes of its own, one appended, two appended, made into a string.
-/
import Derived.Test.YtdpabfggajjapaaLeafB
import Derived.Laws.BytesArg
import Derived.Laws.IdiomStrings
namespace Go.Proofs.Ytdpabfggajjapaa
open Go.RowKit

theorem Try.info5 : (Try.prog.info? 5).map (fun i => (i.zero, i.size, i.bytes)) = some (some (.int .u8 0), 1, 1) := by kernel_rfl

/-- A byte as a value. -/
def bv (b : UInt8) : Value := .int .u8 b.toNat
/-- The slice v holds the bytes l, in memory from block B on. -/
def OwnB (w : World) (B : Nat) (v : Value) (l : List UInt8) : Prop := w.ownsRow B 5 1 v l.length (l.map bv)

theorem ownB_nil (w : World) (B : Nat) : OwnB w B (.slice none 0 0) [] := World.ownsRow_nil _ _ _ _
theorem ownB_none (w : World) (B : Nat) (hB : B ≤ w.heap.size) : OwnB (w.alloc (.cells #[] 5)) B (.slice (some ⟨w.heap.size, 0, none⟩) 0 0) [] :=
  World.ownsRow_lit w #[] 0 hB (Nat.zero_le _) rfl
theorem ownB_one (w : World) (B : Nat) (hB : B ≤ w.heap.size) (b : UInt8) (n : Int) (hn : n = b.toNat) : OwnB (w.alloc (.cells #[.int .u8 n] 5)) B (.slice (some ⟨w.heap.size, 0, none⟩) 1 1) [b] := by
  subst hn
  exact World.ownsRow_lit w #[bv b] 1 hB (by decide) rfl
theorem OwnB.alloc {w : World} {B : Nat} {v : Value} {l : List UInt8} (h : OwnB w B v l) (o : Obj) : OwnB (w.alloc o) B v l := World.ownsRow.alloc h o
theorem OwnB.drewN {w : World} {B : Nat} {v : Value} {l : List UInt8} (h : OwnB w B v l) (q : Nat) : OwnB (w.drewN q) B v l := h
theorem OwnB.back {w : World} {B : Nat} {v : Value} {l : List UInt8} {q : Nat} (h : OwnB (w.drewN q) B v l) : OwnB w B v l := h

theorem OwnB.str {w : World} {B : Nat} {v : Value} {l : List UInt8} (h : OwnB w B v l) (q : Nat) : (convert 29 9 v).run Try.prog (w.drewN q) = .ok (.string ⟨l.toArray⟩) (w.drewN q) := by
  have h0 := h
  rcases h.2 with ⟨rfl, hn⟩ | ⟨g, cap, cur, rfl, _, hg, _, _, _, htake⟩
  · have : l = [] := List.length_eq_zero_iff.1 hn
    subst this
    exact run_convert_bytes_nil (P := Try.prog) (w.drewN q) 29 5 Try.underlying29 Try.underlying5 0 0 9 Try.underlying9
  · refine run_convert_bytes_back (w.drewN q) 29 9 5 ⟨g, 0, none⟩ cap l Try.underlying29 Try.underlying5 Try.underlying9 ?_
    intro j hj
    have := World.ownsRow.cellAt h0 j (by simpa using hj)
    rw [World.cell?_drewN]
    have e : (⟨g, 0, none⟩ : Addr).add j = ⟨g, j, none⟩ := by simp [Addr.add]; exact fun h => h.symm
    rw [e, this]
    simp [hj, bv]

theorem wp_append_byte {ops : Array Oper} {rest : List Oper} {o : Oper} {a : Act} {Q : Exit → Act → World → Prop} (hgd : o.guard = none) (s x : Operand)
    (ho : o.op = .call { callee := .builtin .append, args := #[s, x], argTypes := #[29, 29] })
    (W : World) (B : Nat) (v : Value) (l : List UInt8) (b : UInt8) (n : Int) (hs : a.eval s = v) (hown : OwnB W B v l) (hx : a.eval x = .slice (some ⟨W.heap.size, 0, none⟩) 1 1)
    (hb : n = b.toNat) (hlen : l.length ≤ 1000000) (hB : B ≤ W.heap.size)
    (h : ∀ v' w', OwnB w' B v' (l ++ [b]) → Below B W w' → wpList Try.prog ops Q rest (a.put o.dst v') w') :
    wpList Try.prog ops Q (o :: rest) a (W.alloc (.cells #[.int .u8 n] 5)) := by
  subst hb
  obtain ⟨i0, hi, hz0, hz1, hz2⟩ := info_parts Try.info5
  refine wpList_append_own _ hgd s x 29 ho B 5 i0 (.int .u8 0) 1 1 Try.underlying29 hi hz0 hz1 hz2 rfl (by decide) v l.length (l.map bv) hs (hown.alloc _) ⟨W.heap.size, 0, none⟩ 1 1 [bv b] hx rfl (cell_one_new _ _ _) ?_ ?_ ?_ ?_ ?_
  · intro u hu; simp at hu; subst hu; rfl
  · unfold maxLen; omega
  · omega
  · simp; omega
  · intro v' w1 hown' hgrow _
    refine h v' w1 ?_ ?_
    · unfold OwnB
      simpa using hown'
    · exact ((Below.refl B W).alloc hB _).grown hgrow (by simp; omega) (fun k hk => (World.ownsRow.lt hown k hk).1)

theorem cell_two (w : World) (x y : Value) (t : TypeId) : ∀ j u, [x, y][j]? = some u → (w.alloc (.cells #[x, y] t)).cell? ((⟨w.heap.size, 0, none⟩ : Addr).add j) = some u := by
  intro j u hj
  match j, hj with
  | 0, hj => simp at hj; subst hj; simp [Addr.add]
  | 1, hj => simp at hj; subst hj; simp [Addr.add]

theorem wp_append_two {ops : Array Oper} {rest : List Oper} {o : Oper} {a : Act} {Q : Exit → Act → World → Prop} (hgd : o.guard = none) (s x : Operand)
    (ho : o.op = .call { callee := .builtin .append, args := #[s, x], argTypes := #[29, 29] })
    (W : World) (B : Nat) (v : Value) (l : List UInt8) (b c : UInt8) (hs : a.eval s = v) (hown : OwnB W B v l) (hx : a.eval x = .slice (some ⟨W.heap.size, 0, none⟩) 2 2)
    (hlen : l.length ≤ 1000000) (hB : B ≤ W.heap.size)
    (h : ∀ v' w', OwnB w' B v' (l ++ [b, c]) → Below B W w' → wpList Try.prog ops Q rest (a.put o.dst v') w') :
    wpList Try.prog ops Q (o :: rest) a (W.alloc (.cells #[.int .u8 b.toNat, .int .u8 c.toNat] 5)) := by
  obtain ⟨i0, hi, hz0, hz1, hz2⟩ := info_parts Try.info5
  refine wpList_append_own _ hgd s x 29 ho B 5 i0 (.int .u8 0) 1 1 Try.underlying29 hi hz0 hz1 hz2 rfl (by decide) v l.length (l.map bv) hs (hown.alloc _) ⟨W.heap.size, 0, none⟩ 2 2 [bv b, bv c] hx rfl (cell_two _ _ _ _) ?_ ?_ ?_ ?_ ?_
  · intro u hu; simp at hu; rcases hu with rfl | rfl <;> rfl
  · unfold maxLen; omega
  · omega
  · simp; omega
  · intro v' w1 hown' hgrow _
    refine h v' w1 ?_ ?_
    · unfold OwnB
      simpa using hown'
    · exact ((Below.refl B W).alloc hB _).grown hgrow (by simp; omega) (fun k hk => (World.ownsRow.lt hown k hk).1)

theorem size_of_len (l : List UInt8) : (⟨l.toArray⟩ : ByteArray).size = l.length := rfl

theorem spread_snoc (s : ByteArray) (k : Nat) (h : k < s.size) : Pt.spread (s.data.toList.take (k + 1)) = Pt.spread (s.data.toList.take k) ++ List.replicate (s[k].toNat / 16 + 1) (s[k] % 16) := by
  rw [take_snoc s k h]; simp [Pt.spread, Pt.ofRun]
theorem spread_len (s : ByteArray) (k : Nat) (h : k ≤ s.size) : (Pt.spread (s.data.toList.take k)).length ≤ 16 * k := by
  have := (Pt.wt_le (s.data.toList.take k)).2
  have e : (s.data.toList.take k).length = k := by simp; omega
  rw [e] at this
  exact this
theorem rep_snoc (l : List UInt8) (j : Nat) (c : UInt8) : l ++ (List.replicate j c ++ [c]) = l ++ List.replicate (j + 1) c := by
  rw [List.replicate_succ']
theorem ret_str {a b : List UInt8} (h : a = b) : Ending.returned (.string ⟨a.toArray⟩) = .returned (.string ⟨b.toArray⟩) := by rw [h]

set_option maxHeartbeats 400000 in
theorem spread_any (s : ByteArray) (w : World) (hs : s.size ≤ 1000) :
    Calls Try.prog 17 #[.string s] w fun e w' => e = .returned (.string ⟨(Pt.spread s.data.toList).toArray⟩) ∧ Below w.heap.size w w' := by
  go_enter Try.func17, Try.ntmps17
  go_wp2
  go_loopw [3, 4] (fun v i wr => ∃ k : Nat, k ≤ s.size ∧ i = .int .i64 k ∧ OwnB wr w.heap.size v (Pt.spread (s.data.toList.take k)) ∧ Below w.heap.size w wr) (fun _ i _ => s.size - (intOf i).toNat)
  case atStart => exact ⟨0, Nat.zero_le _, rfl, ownB_none w _ (Nat.le_refl _), (Below.refl _ _).alloc (Nat.le_refl _) _⟩
  case round =>
    obtain ⟨k, hk, rfl, hown, hbel⟩ := hrel
    by_cases hlt : k < s.size
    · have hc : s[k].toNat < 256 := s[k].toNat_lt
      have hsn := hide (spread_snoc s k hlt)
      have hsl := spread_len s k hk
      generalize hl : Pt.spread (s.data.toList.take k) = l at hown hsl hsn
      clear hl
      go_wp2
      go_loopw [3, 6] (fun v i wr => ∃ j : Nat, j ≤ s[k].toNat / 16 + 1 ∧ i = .int .i64 j ∧ OwnB wr w.heap.size v (l ++ List.replicate j (s[k] % 16)) ∧ Below w.heap.size w wr) (fun _ i _ => 17 - (intOf i).toNat)
      case atStart => exact ⟨0, Nat.zero_le _, rfl, by simpa using hown, hbel⟩
      case round =>
        clear hown hbel
        obtain ⟨j, hj, rfl, hown, hbel⟩ := hrel
        have hsz := hbel.size
        have hlen : (l ++ List.replicate j (s[k] % 16)).length ≤ 1000000 := by simp; omega
        by_cases hjl : j < s[k].toNat / 16 + 1
        · go_wp2_with (at_builtin; refine wp_append_byte rfl (.tmp 25) (.tmp 30) rfl _ w.heap.size _ (l ++ List.replicate j (s[k] % 16)) (s[k] % 16) _ rfl hown rfl ?_ hlen hsz ?_)
          · simp
          · intro v' w1 hown' hbel'
            rw [rep_snoc] at hown'
            have hbel2 := hbel.trans hbel'
            clear hown hbel hbel'
            go_wp2
            go_roundw
            case rel => exact ⟨j + 1, by omega, by go_num, hown', hbel2⟩
            case measure => simp [intOf]; omega
        · go_wp2
          go_roundw
          case rel =>
            refine ⟨k + 1, by omega, by go_num, ?_, hbel⟩
            rw [unhide hsn, show s[k].toNat / 16 + 1 = j from by omega]
            exact hown
          case measure => simp [intOf]; omega
    · have hcv := hown.str 0
      rw [World.drewN_zero] at hcv
      go_wp2
      go_ret
      exact ⟨ret_str (by rw [List.take_of_length_le (by simp; omega)]), hbel⟩
end Go.Proofs.Ytdpabfggajjapaa
