/-
  The law Paints.
-/
import Derived.Test.YtacjjjjbfjkohaaInkE
import Derived.OwnWalk
import Derived.Lib.SliceRun
import Derived.Laws.CopyRow
namespace Go.Proofs.Ytacjjjjbfjkohaa
open Go.RowKit

theorem fsAt_nil (W : World) (fs : Nat → Nat → Int) : FsAt W (.slice none 0 0) 0 fs := ⟨none, 0, rfl, Nat.zero_le _, fun h => absurd h (by omega)⟩
theorem str_beq (l : List UInt8) : ((⟨l.toArray⟩ : ByteArray).toList == (⟨l.toArray⟩ : ByteArray).toList) = true := by simp

set_option maxHeartbeats 1600000 in
theorem paints_nil (l z x y : Int) (w : World) :
    Calls Try.prog 5 #[.slice none 0 0, .agg #[.int .i64 l, .int .i64 z, .int .i64 x, .int .i64 y]] w fun e w' => e = .returned (.bool true) ∧ Below w.heap.size w w' := by
  have hg0 := heap_alloc_new w (.cells #[.int .i64 l, .int .i64 z, .int .i64 x, .int .i64 y] 28 (0, 0))
  have hnil := fun W => Lib.run_eql_slice_nil (P := Try.prog) W 34 26 none 0 0 0 0 Try.underlying34
  have P1 := fun W => Paint_any (.slice none 0 0) 0 (fun _ _ => 0) l z x y W (fsAt_nil _ _)
  have P2 := fun W => refPaint_any (.slice none 0 0) 0 (fun _ _ => 0) l z x y W (fsAt_nil _ _)
  generalize pPic (fun _ _ => 0) 0 l z x y = L at P1 P2
  generalize pErr (fun _ _ => 0) 0 l z x y = E at P1 P2
  have hbq := str_beq L
  go_enter Try.func5, Try.ntmps5
  go_wp2_with fail
  refine (P1 _).mono ?_
  rintro e w1 ⟨rfl, hb1⟩
  have hg1 := blk_on hg0 hb1
  have hc1 := blk_cells hg1
  have HB := hide ((below_one _ _).trans (hb1.mono (by simp)))
  clear hb1
  go_wp2_with fail
  refine (P2 _).mono ?_
  rintro e w2 ⟨rfl, hb2⟩
  have HB2 := hide ((unhide HB).trans (hb2.mono (unhide HB).size))
  clear hb2 hg1 hc1
  go_wp2_with fail
  go_ret
  exact ⟨rfl, unhide HB2⟩

theorem Try.info26 : (Try.prog.info? 26).map (fun i => (i.zero, i.size, i.bytes)) = some (some (.agg (fc zf)), 24, 192) := by kernel_rfl
theorem mk34 {ops : Array Oper} {rest : List Oper} {o : Oper} {a : Act} {w : World} {Q : Exit → Act → World → Prop} (hgd : o.guard = none) (lo c : Operand) (hop : o.op = .makeSlice 34 lo c) (n : Nat) (L : Int)
    (hl : a.eval lo = .int .i64 L) (hc : a.eval c = .int .i64 L) (hL : L = (n : Int)) (hb : 192 * n ≤ 281474976710656) (N : Nat) (hN : w.heap.size = N)
    (hK : ∀ w' cur, w'.heap[N]? = some (.cells cur 26 (0, 0)) → cur.size = n * 24 → Below N w w' → wpList Try.prog ops Q rest (a.put o.dst (.slice (some ⟨N, 0, none⟩) n n)) w') :
    wpList Try.prog ops Q (o :: rest) a w := by
  obtain ⟨i0, hi, hz0, hz1, hz2⟩ := info_parts Try.info26
  subst hN
  refine wpList_make_full w hgd lo c 34 hop w.heap.size 26 i0 (.agg (fc zf)) 24 Try.underlying34 hi hz0 hz1 .i64 .i64 L L n hl hc hL hL (by rw [hz2]; exact hb) (by unfold maxLen; omega) (Nat.le_refl _) ?_
  intro w' hown hgr
  rcases hown.2 with ⟨h, _⟩ | ⟨g, cap, cur, hv, hg, hh, _, _, hsz, _⟩
  · cases h
  · simp only [Value.slice.injEq, Option.some.injEq, Addr.mk.injEq, and_true, true_and] at hv
    obtain ⟨rfl, rfl⟩ := hv
    exact hK w' cur hh hsz ((Below.refl _ _).grown hgr (Nat.le_refl _) (fun k hk => by cases hk))

theorem run_copy_S {P : Program} (w : World) (dT sT ty elem : TypeId) (g o dLen dCap : Nat) (a : Addr) (sLen sCap size : Nat) (cur : Array Value) (t : TypeId) (cs : List Value)
    (hu : P.underlying dT = some (.slice elem)) (hs : (P.info? elem).map (·.size) = some size)
    (hg : w.heap[g]? = some (.cells cur t (0, 0))) (hn : cs.length = Nat.min sLen dLen * size)
    (hsrc : ∀ j v, cs[j]? = some v → w.cell? (a.add j) = some v) (hfit : o + cs.length ≤ cur.size) (h1 : ∀ v ∈ cs, v.oneCell' = true) :
    (Builtin.copy_ #[dT, sT] ty #[.slice (some ⟨g, o, none⟩) dLen dCap, .slice (some a) sLen sCap]).run P w =
      .ok (goInt (Nat.min sLen dLen)) (w.setRow g (cur.toList.take o ++ cs ++ cur.toList.drop (o + cs.length)).toArray) := by
  have hl := run_loadCells_list (P := P) w a cs hsrc
  have hst := run_storeCells_at P g o t cs 0 cur w hg (by simpa using hfit) h1
  cases hq : P.info? elem with
  | none => simp [hq] at hs
  | some i =>
    have hi : i.size = size := by simpa [hq] using hs
    have hn' : cs.length = Nat.min sLen dLen * i.size := by rw [hi]; exact hn
    simp [Builtin.copy_, run_underlying hu, Builtin.lenOf, Builtin.firstCells, sizeOf, typeInfo, hq, ← hn', hl, hst]

/-- The cells of n features, one behind the other. -/
def flat (fs : Nat → Nat → Int) (n : Nat) : List Value := (List.range (n * 24)).map fun m => .int .i64 (fs (m / 24) (m % 24))
theorem flat_len (fs : Nat → Nat → Int) (n : Nat) : (flat fs n).length = n * 24 := by simp [flat]
theorem flat_at (fs : Nat → Nat → Int) (n i j : Nat) (hi : i < n) (hj : j < 24) : (flat fs n)[i * 24 + j]? = some (.int .i64 (fs i j)) := by
  have h : i * 24 + j < n * 24 := by omega
  simp only [flat, List.getElem?_map, List.getElem?_range h, Option.map_some]
  rw [show (i * 24 + j) / 24 = i by omega, show (i * 24 + j) % 24 = j by omega]
theorem cp34 {ops : Array Oper} {rest : List Oper} {o : Oper} {a : Act} {w : World} {Q : Exit → Act → World → Prop} (hgd : o.guard = none) (d s : Operand)
    (ho : o.op = .call { callee := .builtin .copy, args := #[d, s], argTypes := #[34, 34] }) (g n cap : Nat) (ad : Addr) (fs : Nat → Nat → Int)
    (hd : a.eval d = .slice (some ⟨g, 0, none⟩) (n + 2) (n + 2)) (hs : a.eval s = .slice (some ad) n cap) (cur : Array Value) (hg : w.heap[g]? = some (.cells cur 26 (0, 0))) (hsz : cur.size = (n + 2) * 24)
    (hfs : 0 < n → ∃ b off, ad = ⟨b, off, none⟩ ∧ ∀ i, i < n → ∀ j, j < 24 → w.cell? ⟨b, off + i * 24 + j, none⟩ = some (.int .i64 (fs i j)))
    (hK : ∀ cur', cur'.size = (n + 2) * 24 → (∀ i, i < n → ∀ j, j < 24 → cur'[i * 24 + j]? = some (.int .i64 (fs i j))) → (w.setRow g cur').heap[g]? = some (.cells cur' 26 (0, 0)) → wpList Try.prog ops Q rest (a.put o.dst (goInt n)) (w.setRow g cur')) :
    wpList Try.prog ops Q (o :: rest) a w := by
  refine wpList_plain hgd fun K hK' => ?_
  have hmin : Nat.min n (n + 2) = n := Nat.min_eq_left (by omega)
  have hsrc : ∀ j v, (flat fs n)[j]? = some v → w.cell? (ad.add j) = some v := by
    intro j v hv
    have hj : j < n * 24 := by
      have := (List.getElem?_eq_some_iff.1 hv).1
      rwa [flat_len] at this
    obtain ⟨b, off, rfl, hc⟩ := hfs (by omega)
    rw [Addr.add_mid]
    have e := flat_at fs n (j / 24) (j % 24) (by omega) (by omega)
    rw [show j / 24 * 24 + j % 24 = j by omega, hv] at e
    rw [e, ← hc (j / 24) (by omega) (j % 24) (by omega)]
    congr 2
    omega
  have hrun := run_copy_S (P := Try.prog) w 34 34 o.type 26 g 0 (n + 2) (n + 2) ad n cap 24 cur 26 (flat fs n) Try.underlying34 (by kernel_rfl) hg (by rw [flat_len, hmin]) hsrc (by rw [flat_len, hsz]; omega)
    (fun v hv => by simp only [flat, List.mem_map] at hv; obtain ⟨m, _, rfl⟩ := hv; rfl)
  rw [hmin] at hrun
  have h := hK (cur.toList.take 0 ++ flat fs n ++ cur.toList.drop (0 + (flat fs n).length)).toArray (by simp [flat_len, hsz]; omega) ?_ (setRow_heap _ _ _ _ _ _ hg)
  · unfold Oper.wp
    simp only [execOp, ho, resolve, invoke, builtin]
    simp [hd, hs, hrun, Result.andThen]
    simp at h
    exact hK' _ _ h
  · intro i hi j hj
    have e := flat_at fs n i j hi hj
    have hl : i * 24 + j < (flat fs n).length := by rw [flat_len]; omega
    simp only [List.take_zero, List.nil_append, List.getElem?_toArray]
    rw [List.getElem?_append_left hl, e]
end Go.Proofs.Ytacjjjjbfjkohaa
