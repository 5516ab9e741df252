/-
  LISTS OF FEATURES THAT A CALL ITSELF GATHERS; atlaskeep.rights, place, has.
-/
import Derived.Test.YtppcpbhnpdjfpabLocM
namespace Go.Proofs.Ytppcpbhnpdjfpab
open Go.RowKit

theorem Try.info26' : (Try.prog.info? 54).map (fun i => (i.zero, i.size, i.bytes)) = some (some (.agg (fc zf)), 24, 192) := by kernel_rfl
theorem run_bs34 (ev : Operand → Value) (o : Oper) (x : Operand) (ho : o.op = .buildSlice 43 1 #[(0, x)]) (f : Nat → Int) (hx : ev x = .agg (fc f)) (w : World) : (execOp ev o).run Try.prog w = .ok (.value (.slice (some ⟨w.heap.size, 0, none⟩) 1 1)) (w.alloc (.cells (fc f) 54)) := by
  unfold execOp
  simp only [ho]
  simp only [List.map_toArray, List.map_cons, List.map_nil, hx]
  kernel_rfl
theorem bs34 {ops : Array Oper} {rest : List Oper} {o : Oper} {a : Act} {w : World} {Q : Exit → Act → World → Prop} (hgd : o.guard = none) (x : Operand) (ho : o.op = .buildSlice 43 1 #[(0, x)]) (f : Nat → Int) (hx : a.eval x = .agg (fc f)) (n : Nat) (hn : w.heap.size = n)
    (h : wpList Try.prog ops Q rest (a.put o.dst (.slice (some ⟨n, 0, none⟩) 1 1)) (w.alloc (.cells (fc f) 54))) : wpList Try.prog ops Q (o :: rest) a w :=
  wpList_plain hgd fun _ hK => by
    unfold Oper.wp
    rw [run_bs34 _ _ x ho f hx, hn]
    exact hK _ _ h
/-- The cells of features, one behind the other. -/
def ff (l : List (Nat → Int)) : List Value := l.flatMap fun f => (fc f).toList
theorem ff_cons (f : Nat → Int) (l : List (Nat → Int)) : ff (f :: l) = (fc f).toList ++ ff l := rfl
theorem ff_snoc (l : List (Nat → Int)) (f : Nat → Int) : ff (l ++ [f]) = ff l ++ (fc f).toList := by simp [ff]
theorem fcl_len (f : Nat → Int) : (fc f).toList.length = 24 := by rw [Array.length_toList, fc_size]
theorem ff_len : ∀ l : List (Nat → Int), (ff l).length = l.length * 24
  | [] => rfl
  | f :: l => by rw [ff_cons, List.length_append, ff_len l, fcl_len, List.length_cons]; omega
/-- The i-th feature of a list. -/
def gf (l : List (Nat → Int)) (i : Nat) : Nat → Int := (l[i]?).getD zf
theorem gf_cons (f : Nat → Int) (l : List (Nat → Int)) (i : Nat) : gf (f :: l) (i + 1) = gf l i := by simp [gf]
theorem ff_at : ∀ (l : List (Nat → Int)) (i j : Nat), i < l.length → j < 24 → (ff l)[i * 24 + j]? = some (.int .i64 (gf l i j))
  | [], i, _, h, _ => by simp at h
  | f :: l, 0, j, _, hj => by
    rw [ff_cons, List.getElem?_append_left (by rw [fcl_len]; omega), Nat.zero_mul, Nat.zero_add, Array.getElem?_toList, fc_at f j hj]; rfl
  | f :: l, i + 1, j, hi, hj => by
    rw [ff_cons, List.getElem?_append_right (by rw [fcl_len]; omega), fcl_len, gf_cons, show (i + 1) * 24 + j - 24 = i * 24 + j by omega]
    exact ff_at l i j (by simpa using hi) hj
theorem gf_left {l : List (Nat → Int)} {f : Nat → Int} {i : Nat} (h : i < l.length) : gf (l ++ [f]) i = gf l i := by unfold gf; rw [List.getElem?_append_left h]
theorem gf_last (l : List (Nat → Int)) (f : Nat → Int) : gf (l ++ [f]) l.length = f := by simp [gf]
def OwnF (w : World) (B : Nat) (v : Value) (l : List (Nat → Int)) : Prop := w.ownsRow B 54 24 v l.length (ff l)
theorem ownF_nil (w : World) (B : Nat) : OwnF w B (.slice none 0 0) [] := World.ownsRow_nil _ _ _ _
theorem OwnF.kept {w w' : World} {B : Nat} {v : Value} {l : List (Nat → Int)} {row : Option Nat} (h : OwnF w B v l) (hg : w.grownBy w' row) (hne : ∀ g, v.ownBlock = some g → row ≠ some g) : OwnF w' B v l := by
  obtain ⟨h1, h2⟩ := h
  refine ⟨h1, ?_⟩
  rcases h2 with h2 | ⟨g, cap, cur, hv, hg', hh, r⟩
  · exact Or.inl h2
  · refine Or.inr ⟨g, cap, cur, hv, hg', ?_, r⟩
    have hlt : g < w.heap.size := (Array.getElem?_eq_some_iff.1 hh).1
    rw [hg.block g hlt (fun e => hne g (by rw [hv]; rfl) e.symm)]
    exact hh
theorem OwnF.on {w w' : World} {B : Nat} {v : Value} {l : List (Nat → Int)} (h : OwnF w B v l) (hb : Below w.heap.size w w') : OwnF w' B v l := by
  obtain ⟨h1, h2⟩ := h
  refine ⟨h1, ?_⟩
  rcases h2 with h2 | ⟨g, cap, cur, hv, hg, hh, r⟩
  · exact Or.inl h2
  · exact Or.inr ⟨g, cap, cur, hv, hg, blk_on hh hb, r⟩
theorem OwnF.alloc {w : World} {B : Nat} {v : Value} {l : List (Nat → Int)} (h : OwnF w B v l) (o : Obj) : OwnF (w.alloc o) B v l := World.ownsRow.alloc h o
theorem OwnF.lt {w : World} {B : Nat} {v : Value} {l : List (Nat → Int)} (h : OwnF w B v l) : ∀ k, v.ownBlock = some k → B ≤ k ∧ k < w.heap.size := World.ownsRow.lt h
theorem OwnF.at {w : World} {B : Nat} {v : Value} {l : List (Nat → Int)} (h : OwnF w B v l) (hl : l.length ≤ 1000) : FsAt w v l.length (gf l) := by
  have h0 := h
  rcases h.2 with ⟨rfl, hn⟩ | ⟨g, cap, cur, rfl, _, hg, _⟩
  · rw [hn]; exact ⟨none, 0, rfl, Nat.zero_le _, fun h => absurd h (by omega)⟩
  · refine ⟨_, cap, rfl, by unfold maxLen; omega, fun _ => ⟨g, 0, rfl, (Array.getElem?_eq_some_iff.1 hg).1, fun i hi j hj => ?_⟩⟩
    rw [Nat.zero_add, World.ownsRow.cellAt h0 (i * 24 + j) (by omega), ff_at l i j hi hj]
theorem ap_feat {ops : Array Oper} {rest : List Oper} {o : Oper} {a : Act} {Q : Exit → Act → World → Prop} (hgd : o.guard = none) (s x : Operand)
    (ho : o.op = .call { callee := .builtin .append, args := #[s, x], argTypes := #[43, 43] })
    (W : World) (B : Nat) (v : Value) (l : List (Nat → Int)) (b : Nat → Int) (hs : a.eval s = v) (hown : OwnF W B v l) (hx : a.eval x = .slice (some ⟨W.heap.size, 0, none⟩) 1 1)
    (hlen : l.length ≤ 1000) (hB : B ≤ W.heap.size)
    (h : ∀ v' w', OwnF w' B v' (l ++ [b]) → (W.alloc (.cells (fc b) 54)).grownBy w' v.ownBlock → (v'.ownBlock = v.ownBlock ∨ ∀ g, v'.ownBlock = some g → W.heap.size < g) → wpList Try.prog ops Q rest (a.put o.dst v') w') :
    wpList Try.prog ops Q (o :: rest) a (W.alloc (.cells (fc b) 54)) := by
  obtain ⟨i0, hi, hz0, hz1, hz2⟩ := info_parts Try.info26'
  refine ap_own _ hgd s x 43 ho B 54 i0 (.agg (fc zf)) 24 192 Try.underlying43 hi hz0 hz1 hz2 (fc_size zf) (by decide) v l.length (ff l) hs (World.ownsRow.alloc hown _) ⟨W.heap.size, 0, none⟩ 1 (fc b).toList hx (fcl_len b) ?_ ?_ ?_ ?_ ?_ ?_
  · intro j u hj
    rw [Addr.add_mid, Nat.zero_add, blk_cells (heap_alloc_new W (.cells (fc b) 54 (0, 0)))]
    simpa using hj
  · intro u hu
    have := fc_one b
    rw [Array.all_eq_true_iff_forall_mem] at this
    exact this u (by simpa using hu)
  · omega
  · omega
  · simp; omega
  · intro v' w' r1 r2 r3
    refine h v' w' ?_ r2 ?_
    · unfold OwnF
      rw [ff_snoc]
      simpa using r1
    · rcases r3 with r3 | r3
      · exact Or.inl r3
      · right
        intro g hg
        have := r3 g hg
        simp at this
        omega
/-- The first k features, made right. -/
def mks (fs : Nat → Nat → Int) (k : Nat) : List (Nat → Int) := (List.range k).map fun i => mk (fs i)
theorem mks_succ (fs : Nat → Nat → Int) (k : Nat) : mks fs (k + 1) = mks fs k ++ [mk (fs k)] := by simp [mks, List.range_succ]
theorem mks_len (fs : Nat → Nat → Int) (k : Nat) : (mks fs k).length = k := by simp [mks]
theorem gf_mks (fs : Nat → Nat → Int) (k i : Nat) (h : i < k) : gf (mks fs k) i = mk (fs i) := by simp [gf, mks, h]

set_option maxHeartbeats 1600000 in
theorem has_any (v : Value) (n : Nat) (fs : Nat → Nat → Int) (id : Int) (w : World) (hv : FsAt w v n fs) :
    Calls Try.prog 30 #[v, .int .i64 id] w fun e w' => (∃ r : Int, e = .returned (.int .i64 r) ∧ ((r = -1 ∧ ∀ i, i < n → fs i 0 ≠ id) ∨ ∃ m : Nat, r = m ∧ m < n ∧ fs m 0 = id ∧ ∀ i, i < m → fs i 0 ≠ id)) ∧ w = w' := by
  obtain ⟨oa, cap, rfl, hm, hc⟩ := hv
  have HC := hide hc
  unfold maxLen at hm
  clear hc
  go_enter Try.func30, Try.ntmps30
  go_wp2_with fail
  go_loop [5] (fun i => ∃ k : Nat, k ≤ n ∧ i = .int .i64 k ∧ Hid (∀ i, i < k → fs i 0 ≠ id)) (fun i => n - (intOf i).toNat)
  case atStart => exact ⟨0, by omega, rfl, hide (fun i hi => absurd hi (by omega))⟩
  case round =>
    obtain ⟨k, hk, rfl, hno⟩ := hrel
    by_cases hlt : k < n
    · have hkn : (k : Int) < n := by omega
      obtain ⟨b, off, rfl, hbl, hc0⟩ := unhide HC (by omega)
      have hc1 := hc0 k hlt 0 (by omega)
      simp only [Nat.add_zero] at hc1
      clear hc0
      obtain ⟨I, hI⟩ : ∃ I, fs k 0 = I := ⟨_, rfl⟩
      rw [hI] at hc1
      by_cases he : I = id
      · subst he
        go_wp2_with fail
        go_ret
        exact ⟨⟨k, rfl, Or.inr ⟨k, rfl, hlt, hI, unhide hno⟩⟩, rfl⟩
      · go_wp2_with fail
        go_round
        case rel => exact ⟨k + 1, by omega, by go_num, hide (fun i hi => by
          by_cases e : i = k
          · subst e; rw [hI]; exact he
          · exact unhide hno i (by omega))⟩
        case measure => simp [intOf]; omega
    · have hkn : k = n := by omega
      subst hkn
      go_wp2_with fail
      go_ret
      exact ⟨⟨-1, rfl, Or.inl ⟨rfl, unhide hno⟩⟩, rfl⟩
end Go.Proofs.Ytppcpbhnpdjfpab
