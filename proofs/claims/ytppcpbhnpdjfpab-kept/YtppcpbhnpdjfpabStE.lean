/-
  atlaskeep.edits, edits1.
-/
import Derived.Test.YtppcpbhnpdjfpabStD
namespace Go.Proofs.Ytppcpbhnpdjfpab
open Go.RowKit

/-- The feature of an edit; an edit. -/
def eF (e : Nat → Int) : Nat → Int := fun j => e (1 + j)
def editOf (o : Int) (f : Nat → Int) : Nat → Int := fun j => if j = 0 then o else f (j - 1)
/-- The right edit that is made out of e. -/
def mkE (e : Nat → Int) : Nat → Int := editOf (pk (e 0) 2) (mk (eF e))
def mkEs (es : Nat → Nat → Int) (k : Nat) : List (Nat → Int) := (List.range k).map fun i => mkE (es i)
theorem mkEs_succ (es : Nat → Nat → Int) (k : Nat) : mkEs es (k + 1) = mkEs es k ++ [mkE (es k)] := by simp [mkEs, List.range_succ]
theorem mkEs_len (es : Nat → Nat → Int) (k : Nat) : (mkEs es k).length = k := by simp [mkEs]
theorem gf_mkEs (es : Nat → Nat → Int) (k i : Nat) (h : i < k) : gf (mkEs es k) i = mkE (es i) := by simp [gf, mkEs, h]
theorem built56 (x : Int) (f : Nat → Int) : Try.prog.built 56 [(0, .int .i64 x), (1, .agg (fc f))] = some (cc 25 (editOf x f)) := by kernel_rfl
theorem run_build56 (f : Nat → Int) (z : Int) (A : Act) (o : Oper) (x y : Operand) (ho : o.op = .build 56 #[(0, x), (1, y)]) (hx : A.eval x = .int .i64 z) (hy : A.eval y = .agg (fc f)) (w : World) :
    (execOp A.eval o).run Try.prog w = .ok (.value (.agg (cc 25 (editOf z f)))) w := by
  have hb := run_build (P := Try.prog) w 56 #[(0, .int .i64 z), (1, .agg (fc f))] (cc 25 (editOf z f)) (built56 z f)
  unfold execOp
  simp [ho, hx, hy, hb]
theorem run_bsE (ev : Operand → Value) (o : Oper) (x : Operand) (ho : o.op = .buildSlice 34 1 #[(0, x)]) (f : Nat → Int) (hx : ev x = .agg (cc 25 f)) (w : World) : (execOp ev o).run Try.prog w = .ok (.value (.slice (some ⟨w.heap.size, 0, none⟩) 1 1)) (w.alloc (.cells (cc 25 f) 56)) := by
  unfold execOp
  simp only [ho]
  simp only [List.map_toArray, List.map_cons, List.map_nil, hx]
  kernel_rfl
theorem Try.info56 : (Try.prog.info? 56).map (fun i => (i.zero, i.size, i.bytes)) = some (some (.agg (cc 25 zf)), 25, 200) := by kernel_rfl
/-- Edits are appended. -/
theorem run_apE (w : World) (B : Nat) (v : Value) (l news : List (Nat → Int)) (hown : OwnC 56 25 w B v l) (b off c : Nat) (hnews : ∀ i, i < news.length → ∀ j, j < 25 → w.cell? ⟨b, off + i * 25 + j, none⟩ = some (.int .i64 (gf news i j)))
    (hlen : (l.length + news.length) * 200 ≤ 140737488355328) (hB : B ≤ w.heap.size) :
    ∃ v' w', (Builtin.append_ #[34, 34] 34 #[v, .slice (some ⟨b, off, none⟩) news.length c]).run Try.prog w = .ok v' w' ∧ OwnC 56 25 w' B v' (l ++ news) ∧ w.grownBy w' v.ownBlock := by
  obtain ⟨i0, hi, hz0, hz1, hz2⟩ := info_parts Try.info56
  obtain ⟨v', w', hrun, r1, r2, _⟩ := run_append_own (P := Try.prog) w B 34 34 56 i0 (.agg (cc 25 zf)) 25 200 Try.underlying34 hi hz0 hz1 hz2 (cc_size 25 zf) (by decide) v l.length (fl 25 l) hown ⟨b, off, none⟩ news.length c (fl 25 news) (fl_len 25 news)
    (fun j u hj => by
      have hlt : j < news.length * 25 := by
        have := (List.getElem?_eq_some_iff.1 hj).1
        rwa [fl_len] at this
      have h1 : j / 25 < news.length := by omega
      have e : j / 25 * 25 + j % 25 = j := by omega
      rw [← e, fl_at 25 news _ _ h1 (by omega)] at hj
      rw [Addr.add_mid, ← Option.some.inj hj, show off + j = off + j / 25 * 25 + j % 25 by omega]
      exact hnews _ h1 _ (by omega))
    (fl_one 25 news) (by unfold maxLen; omega) hlen hB
  refine ⟨v', w', hrun, ?_, r2⟩
  unfold OwnC
  rw [fl_app]
  simpa using r1
theorem ex_apE {w w' : World} {v x' v' : Value} (hr : (Builtin.append_ #[34, 34] 34 #[v, x']).run Try.prog w = .ok v' w') (a : Act) (o : Oper) (s x : Operand) (ho : o.op = .call { callee := .builtin .append, args := #[s, x], argTypes := #[34, 34] }) (ht : o.type = 34) (hs : a.eval s = v) (hx : a.eval x = x') : (execOp a.eval o).run Try.prog w = .ok (.value v') w' := by
  unfold execOp
  simp only [ho, resolve, invoke, builtin]
  simp [hs, hx, ht, hr, Result.andThen]
theorem wl_apE {ops : Array Oper} {rest : List Oper} {o : Oper} {a : Act} {Q : Exit → Act → World → Prop} {W w' : World} {v x' v' : Value} (hr : (Builtin.append_ #[34, 34] 34 #[v, x']).run Try.prog W = .ok v' w') (hgd : o.guard = none) (s x : Operand) (ho : o.op = .call { callee := .builtin .append, args := #[s, x], argTypes := #[34, 34] }) (ht : o.type = 34) (hs : a.eval s = v) (hx : a.eval x = x')
    (h : wpList Try.prog ops Q rest (a.put o.dst v') w') : wpList Try.prog ops Q (o :: rest) a W :=
  wpList_plain hgd fun _ hK => by
    unfold Oper.wp
    rw [ex_apE hr a o s x ho ht hs hx]
    exact hK _ _ h
theorem F64_eF {e : Nat → Int} (h : ∀ j, j < 25 → -9223372036854775808 ≤ e j ∧ e j ≤ 9223372036854775807) : F64 (eF e) := fun i hi => h (1 + i) (by omega)
theorem eF_rng {W : World} {b off n : Nat} {es : Nat → Nat → Int} (hc : ∀ i, i < n → ∀ j, j < 25 → W.cell? ⟨b, off + i * 25 + j, none⟩ = some (.int .i64 (es i j))) {k : Nat} (hk : k < n) : W.rangeAt b (off + k * 25 + 1) (fc (eF (es k))).toList := by
  intro j v hv
  have hj : j < 24 := by
    have := (List.getElem?_eq_some_iff.1 hv).1
    simpa [fc_size] using this
  have e : (fc (eF (es k)))[j]? = some v := by simpa using hv
  rw [fc_at _ j hj] at e
  have := hc k hk (1 + j) (by omega)
  rw [← Nat.add_assoc] at this
  rw [this, ← e]
  rfl

set_option maxHeartbeats 6400000 in
theorem edits_any (v : Value) (n : Nat) (es : Nat → Nat → Int) (w : World) (hv : CsAt 25 w v n es) (hF : ∀ i, i < n → ∀ j, j < 25 → -9223372036854775808 ≤ es i j ∧ es i j ≤ 9223372036854775807) :
    Calls Try.prog 18 #[v] w fun e w' => (∃ v', e = .returned v' ∧ OwnC 56 25 w' w.heap.size v' (mkEs es (min n 8))) ∧ Below w.heap.size w w' := by
  obtain ⟨oa, cap, rfl, hm, hc⟩ := hv
  have HC := hide hc
  have HF := hide hF
  clear hc hF
  go_enter Try.func18, Try.ntmps18
  go_wp2_with fail
  go_loopw [3, 4] (fun xv i wr => ∃ k : Nat, k ≤ min n 8 ∧ i = .int .i64 k ∧ OwnC 56 25 wr w.heap.size xv (mkEs es k) ∧ Below w.heap.size w wr) (fun _ i _ => 8 - (intOf i).toNat)
  case atStart => exact ⟨0, by omega, rfl, ownC_nil _ _ _ _, Below.refl _ _⟩
  case round =>
    obtain ⟨k, hk, rfl, hown, hb⟩ := hrel
    have hsz := hb.size
    by_cases hlt : k < n
    · have hkn : (k : Int) < n := by omega
      by_cases h40 : k < 8
      · have hk4 : (k : Int) < 8 := by omega
        obtain ⟨b, off, rfl, hbl, hc0⟩ := unhide HC (by omega)
        have hcs : ∀ i, i < n → ∀ j, j < 25 → wr.cell? ⟨b, off + i * 25 + j, none⟩ = some (.int .i64 (es i j)) := fun i hi j hj => (hb.cell (p := ⟨b, off + i * 25 + j, none⟩) hbl).trans (hc0 i hi j hj)
        have hrg := eF_rng hcs hlt
        have HOW := hide hown
        have HBr := hide hb
        have HC0 := hide hc0
        have PK := fun W => pick_any (es k 0) 2 W (unhide HF k hlt 0 (by omega)) (by omega)
        clear hc0 hcs hb hown
        go_wp2_with (refine ldm26 rfl _ rfl b (off + k * 25 + 1) rfl (eF (es k)) hrg ?_)
        refine (right_any (eF (es k)) _ (F64_eF (unhide HF k hlt))).mono ?_
        rintro e w2 ⟨rfl, hb2⟩
        have hA := heap_alloc_new w2 (.cells (fc zf) 54 (0, 0))
        have hA1 := setRow_heap _ _ _ (fc (mk (eF (es k)))) _ _ hA
        have ho2 := ((unhide HOW).on hb2).alloc (.cells (fc zf) 54)
        have hb3 := below_setRow (below_alloc ((unhide HBr).trans (hb2.mono (unhide HBr).size)) (Nat.le_refl _) (.cells (fc zf) 54)) (Nat.le_trans hsz hb2.size) (fc (mk (eF (es k))))
        have hne2 : ∀ g, u3.ownBlock = some g → g < w2.heap.size := fun g hg => (((unhide HOW).on hb2).lt g hg).2
        have ho3 : OwnC 56 25 ((w2.alloc (.cells (fc zf) 54)).setRow w2.heap.size (fc (mk (eF (es k))))) w.heap.size u3 (mkEs es k) :=
          ho2.same (fun g hg => setRow_other (by have := hne2 g hg; omega) _)
        have hs2 := Nat.le_trans hsz hb2.size
        clear hb2 ho2 hrg
        go_wp2_with (first | refine al26 rfl rfl w2.heap.size rfl ?_ | refine st26 rfl _ _ rfl w2.heap.size (mk (eF (es k))) rfl rfl zf hA ?_)
        refine wp_region_held (S := fun w' => w'.cell? ⟨b, off + k * 25, none⟩ = some (.int .i64 (es k 0)) ∧ w'.heap[w2.heap.size]? = some (.cells (fc (mk (eF (es k)))) 54 (0, 0))) (by kernel_rfl) ?_
        change wpAnyH _ _ _ _ _ _ _ _ (World.drew _)
        have hS : (World.drew ((w2.alloc (.cells (fc zf) 54)).setRow w2.heap.size (fc (mk (eF (es k)))))).cell? ⟨b, off + k * 25, none⟩ = some (.int .i64 (es k 0)) ∧ (World.drew ((w2.alloc (.cells (fc zf) 54)).setRow w2.heap.size (fc (mk (eF (es k)))))).heap[w2.heap.size]? = some (.cells (fc (mk (eF (es k)))) 54 (0, 0)) := ⟨(hb3.cell (p := ⟨b, off + k * 25, none⟩) hbl).trans (by simpa using unhide HC0 k hlt 0 (by omega)), hA1⟩
        have ho4 : OwnC 56 25 (World.drew ((w2.alloc (.cells (fc zf) 54)).setRow w2.heap.size (fc (mk (eF (es k)))))) w.heap.size u3 (mkEs es k) := ho3
        have hb4 : Below w.heap.size w (World.drew ((w2.alloc (.cells (fc zf) 54)).setRow w2.heap.size (fc (mk (eF (es k)))))) := Below.drew hb3
        have hz4 : w2.heap.size < (World.drew ((w2.alloc (.cells (fc zf) 54)).setRow w2.heap.size (fc (mk (eF (es k)))))).heap.size := (Array.getElem?_eq_some_iff.1 hS.2).1
        generalize World.drew ((w2.alloc (.cells (fc zf) 54)).setRow w2.heap.size (fc (mk (eF (es k))))) = w4 at hS ho4 hb4 hz4 ⊢
        clear hA hA1 hb3 ho3
        have hl4 : b < w4.heap.size := Nat.lt_of_lt_of_le hbl hb4.size
        have hA6 := heap_alloc_new w4 (.cells (cc 25 (mkE (es k))) 56 (0, 0))
        have hS6 : (w4.alloc (.cells (cc 25 (mkE (es k))) 56)).cell? ⟨b, off + k * 25, none⟩ = some (.int .i64 (es k 0)) ∧ (w4.alloc (.cells (cc 25 (mkE (es k))) 56)).heap[w2.heap.size]? = some (.cells (fc (mk (eF (es k)))) 54 (0, 0)) := ⟨(World.cell?_of_block (Below.heap_alloc _ _ _ hl4)).trans hS.1, (Below.heap_alloc _ _ _ hz4).trans hS.2⟩
        have hO6 := ho4.alloc (.cells (cc 25 (mkE (es k))) 56)
        have hB6 := hb4.alloc hb4.size (.cells (cc 25 (mkE (es k))) 56)
        obtain ⟨v7, w7, hr7, ho7, hg7⟩ := run_apE (w4.alloc (.cells (cc 25 (mkE (es k))) 56)) w.heap.size u3 (mkEs es k) [mkE (es k)] hO6 w4.heap.size 0 1 (fun i hi j hj => by
          obtain rfl : i = 0 := by simp at hi; omega
          rw [blk_cells hA6]
          simpa [gf] using cc_at 25 (mkE (es k)) j hj) (by rw [mkEs_len]; simp; omega) (by have := hb4.size; simp; omega)
        have hS7 : w7.cell? ⟨b, off + k * 25, none⟩ = some (.int .i64 (es k 0)) ∧ w7.heap[w2.heap.size]? = some (.cells (fc (mk (eF (es k)))) 54 (0, 0)) := ⟨hg7.cell hS6.1 (fun e => by have := (hO6.lt b e.symm).1; omega), (hg7.block w2.heap.size (Array.getElem?_eq_some_iff.1 hS6.2).1 (fun e => by have := hne2 _ e.symm; omega)).trans hS6.2⟩
        have hB7 := hB6.grown hg7 (by have := hb4.size; simp; omega) (fun q hq => (hO6.lt q hq).1)
        refine t_take 0 rfl (u3) (by kernel_rfl) (by kernel_rfl) (by kernel_rfl) (fun _ _ _ h => h) rfl (fun w' hw' => by simp [go_sem]) hS ?_
        simp only [Act.put, List.setIfInBounds_toArray, List.set_cons_succ, List.set_cons_zero]
        refine t_take 1 rfl (.slice (some ⟨b, off, none⟩) n cap) (by kernel_rfl) (by kernel_rfl) (by kernel_rfl) (fun _ _ _ h => h) rfl (fun w' hw' => by simp [go_sem]) hS ?_
        simp only [Act.put, List.setIfInBounds_toArray, List.set_cons_succ, List.set_cons_zero]
        refine t_take 2 rfl (.int .i64 k) (by kernel_rfl) (by kernel_rfl) (by kernel_rfl) (fun _ _ _ h => h) rfl (fun w' hw' => by simp [go_sem]) hS ?_
        simp only [Act.put, List.setIfInBounds_toArray, List.set_cons_succ, List.set_cons_zero]
        refine t_take 3 rfl (.pointer (some ⟨b, off + k * 25, none⟩)) (by kernel_rfl) (by kernel_rfl) (by kernel_rfl) (fun _ _ _ h => h) rfl (fun w' hw' => by simp [go_sem, hkn]) hS ?_
        simp only [Act.put, List.setIfInBounds_toArray, List.set_cons_succ, List.set_cons_zero]
        refine t_take 4 rfl (.pointer (some ⟨b, off + k * 25, none⟩)) (by kernel_rfl) (by kernel_rfl) (by kernel_rfl) (fun _ _ _ h => h) rfl (fun w' hw' => by simp [go_sem]) hS ?_
        simp only [Act.put, List.setIfInBounds_toArray, List.set_cons_succ, List.set_cons_zero]
        refine t_take 5 rfl (.int .i64 (es k 0)) (by kernel_rfl) (by kernel_rfl) (by kernel_rfl) (fun _ _ _ h => h) rfl (fun w' hw' => by simp [go_sem, hw'.1]) hS ?_
        simp only [Act.put, List.setIfInBounds_toArray, List.set_cons_succ, List.set_cons_zero]
        refine t_take 7 rfl (.agg (fc (mk (eF (es k))))) (by kernel_rfl) (by kernel_rfl) (by kernel_rfl) (fun _ _ _ h => h) rfl (fun w' hw' => run_ld54 _ _ _ rfl _ rfl _ hw'.2) hS ?_
        simp only [Act.put, List.setIfInBounds_toArray, List.set_cons_succ, List.set_cons_zero]
        refine wpAnyH_all (rs := [6]) (by kernel_rfl) (by simp) ?_
        intro i hi
        simp only [List.mem_singleton] at hi
        subst hi
        refine t_call 6 rfl rfl 5 #[.int .i64 (es k 0), .int .i64 2] (by simp [go_sem]) (.int .i64 (pk (es k 0) 2)) (PK _) hS ?_
        simp only [Act.put, List.setIfInBounds_toArray, List.set_cons_succ, List.set_cons_zero]
        refine t_take 8 rfl (.agg (cc 25 (mkE (es k)))) (by kernel_rfl) (by kernel_rfl) (by kernel_rfl) (fun _ _ _ h => h) rfl (fun w' hw' => run_build56 _ _ _ _ _ _ rfl rfl rfl w') hS ?_
        simp only [Act.put, List.setIfInBounds_toArray, List.set_cons_succ, List.set_cons_zero]
        refine wpAnyH_all (rs := [9]) (by kernel_rfl) (by simp) ?_
        intro i hi
        simp only [List.mem_singleton] at hi
        subst hi
        refine t_op 9 rfl rfl (.slice (some ⟨w4.heap.size, 0, none⟩) 1 1) _ (run_bsE _ _ _ rfl (mkE (es k)) rfl w4) hS6 ?_
        simp only [Act.put, List.setIfInBounds_toArray, List.set_cons_succ, List.set_cons_zero]
        refine wpAnyH_all (rs := [10]) (by kernel_rfl) (by simp) ?_
        intro i hi
        simp only [List.mem_singleton] at hi
        subst hi
        refine t_op 10 rfl rfl v7 w7 (ex_apE hr7 _ _ _ _ rfl rfl rfl rfl) hS7 ?_
        simp only [Act.put, List.setIfInBounds_toArray, List.set_cons_succ, List.set_cons_zero]
        have hS := hS7
        refine wpAnyH_all (rs := [11]) (by kernel_rfl) (by simp) ?_
        intro i hi
        simp only [List.mem_singleton] at hi
        subst hi
        refine t_op 11 rfl rfl v7 w7 (by simp [go_sem]) hS7 ?_
        simp only [Act.put, List.setIfInBounds_toArray, List.set_cons_succ, List.set_cons_zero]
        refine wpAnyH_done (by kernel_rfl) ?_ _
        clear hS hS7 hS6 hO6 hB6 hg7 hr7 ho4 hb4 hz4 hA6
        go_wp2_with fail
        go_roundw
        case rel => exact ⟨k + 1, by omega, by go_num, by rw [mkEs_succ]; exact ho7, hB7⟩
        case measure => simp [intOf]; omega
      · have hk4 : ¬ (k : Int) < 8 := by omega
        have e : k = min n 8 := by omega
        go_wp2_with fail
        go_ret
        exact ⟨⟨_, rfl, e ▸ hown⟩, hb⟩
    · have hkn : ¬ (k : Int) < n := by omega
      have e : k = min n 8 := by omega
      go_wp2_with fail
      go_ret
      exact ⟨⟨_, rfl, e ▸ hown⟩, hb⟩

set_option maxHeartbeats 3200000 in
theorem edits1_any (oa : Option Addr) (n cap : Nat) (es : Nat → Nat → Int) (w : World) (hcap : n ≤ cap) (hv : CsAt 25 w (.slice oa n cap) n es) (hF : ∀ i, i < n → ∀ j, j < 25 → -9223372036854775808 ≤ es i j ∧ es i j ≤ 9223372036854775807) (hn : n * 200 ≤ 140737488355328) :
    Calls Try.prog 12 #[.slice oa n cap] w fun e w' => (∃ v', e = .returned v' ∧ OwnC 56 25 w' w.heap.size v' (mkEs es n)) ∧ Below w.heap.size w w' := by
  obtain ⟨_, _, e, _, hc⟩ := hv
  simp only [Value.slice.injEq, true_and] at e
  obtain ⟨rfl, rfl⟩ := e
  have HC := hide hc
  have HF := hide hF
  clear hc hF
  go_enter Try.func12, Try.ntmps12
  go_wp2_with fail
  go_loopw [3, 4, 5] (fun xv i _ wr => ∃ k : Nat, k ≤ n ∧ i = .int .i64 k ∧ OwnC 56 25 wr w.heap.size xv (mkEs es k) ∧ Below w.heap.size w wr) (fun _ i _ _ => n - (intOf i).toNat)
  case atStart => exact ⟨0, by omega, rfl, ownC_nil _ _ _ _, Below.refl _ _⟩
  case round =>
    obtain ⟨k, hk, rfl, hown, hb⟩ := hrel
    have hsz := hb.size
    by_cases hlt : k < n
    · have hkn : (k : Int) < n := by omega
      obtain ⟨b, off, rfl, hbl, hc0⟩ := unhide HC (by omega)
      have hcs : CsAt 25 wr (.slice (some ⟨b, off + k * 25, none⟩) 1 (cap - k)) 1 (fun _ => es k) := ⟨_, _, rfl, by unfold maxLen; omega, fun _ => ⟨b, off + k * 25, rfl, Nat.lt_of_lt_of_le hbl hb.size, fun i hi j hj => by
        obtain rfl : i = 0 := by omega
        rw [Nat.zero_mul, Nat.add_zero]
        exact (hb.cell (p := ⟨b, off + k * 25 + j, none⟩) hbl).trans (hc0 k hlt j hj)⟩⟩
      have ED := edits_any _ 1 (fun _ => es k) wr hcs (fun i _ j hj => unhide HF k hlt j hj)
      have HED := hide ED
      have HOW := hide hown
      have HBr := hide hb
      have e1 : IntKind.i64.wrap ((k : Int) + 1) = (k : Int) + 1 := i64_in _ (by omega)
      have e2 : ((k : Int) + 1).toNat = k + 1 := by omega
      have hkc : (k : Int) + 1 ≤ cap := by omega
      clear hc0 hcs hb hown ED
      go_wp2_with fail
      refine (unhide HED).mono ?_
      rintro e w6 ⟨⟨v6, rfl, ho6⟩, hb6⟩
      have hl1 : mkEs (fun _ => es k) (min 1 8) = [mkE (es k)] := by simp [mkEs, List.range_succ]
      rw [hl1] at ho6
      obtain ⟨g6, c6, e6, hg6, hl6⟩ := ho6.form (by simp)
      simp only [List.length_singleton] at e6
      subst e6
      obtain ⟨_, _, e6, _, hc6⟩ := ho6.at (by unfold maxLen; simp)
      simp only [List.length_singleton, Value.slice.injEq, true_and] at e6
      obtain ⟨rfl, rfl⟩ := e6
      obtain ⟨b', off', e6, _, hc6⟩ := hc6 (by simp)
      simp only [Option.some.injEq, Addr.mk.injEq, and_true] at e6
      obtain ⟨rfl, rfl⟩ := e6
      have ho7 := (unhide HOW).on hb6
      have hb7 := (unhide HBr).trans (hb6.mono (unhide HBr).size)
      obtain ⟨v8, w8, hr8, ho8, hg8⟩ := run_apE w6 w.heap.size u3 (mkEs es k) [mkE (es k)] ho7 g6 0 c6 hc6 (by rw [mkEs_len]; simp; omega) hb7.size
      have hb8 := hb7.grown hg8 hb7.size (fun q hq => (ho7.lt q hq).1)
      have HB8 := hide hb8
      have HO8 := hide ho8
      clear hb6 ho6 hc6 ho7 hb7 hg8 hb8 ho8 HED
      go_wp2_with (at_builtin; refine wl_apE hr8 rfl (.tmp 18) (.tmp 19) rfl rfl rfl rfl ?_)
      go_roundw
      case rel => exact ⟨k + 1, by omega, by go_num, by rw [mkEs_succ]; exact unhide HO8, unhide HB8⟩
      case measure => simp [intOf]; omega
    · have hkn : k = n := by omega
      subst hkn
      go_wp2_with fail
      go_ret
      exact ⟨⟨_, rfl, hown⟩, hb⟩
end Go.Proofs.Ytppcpbhnpdjfpab
