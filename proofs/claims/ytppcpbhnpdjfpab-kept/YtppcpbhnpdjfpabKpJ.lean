/-
  The law Kept.
-/
import Derived.Test.YtppcpbhnpdjfpabKpI
namespace Go.Proofs.Ytppcpbhnpdjfpab
open Go.RowKit

theorem t_callG {l : List Oper} {Q : Exit → Act → World → Prop} {S : World → Prop} {listed : Array Bool} {a : Act} {w : World} {fuel : Nat} {o : Oper} {rest : List Oper} (i : Nat) (hd : l.drop i = o :: rest) (hw : Region.wanted o (yielded l.toArray a.tmps) = true) (f : FuncId) (args : Array Value) (h0 : (execOp a.eval o).run Try.prog w = .ok (.enter f args) w) (v : Value) (R : World → Prop)
    (hc : Calls Try.prog f args w fun e w' => e = .returned v ∧ R w') (h : ∀ w', R w' → S w' ∧ wpAnyH Try.prog .any l.toArray Q S fuel (listed.setIfInBounds i true) (a.put o.dst v) w') :
    wpOp Try.prog l.toArray Q i (fun a' w' => S w' ∧ wpAnyH Try.prog .any l.toArray Q S fuel (listed.setIfInBounds i true) a' w') a w := by
  unfold wpOp
  simp only [at_drop hd]
  rw [if_pos hw]
  left
  unfold Oper.wp
  rw [h0]
  exact hc.mono fun e w' ⟨e1, e2⟩ => by subst e1; exact h w' e2
/-- The turns of a script. -/
def TsAt (W : World) (v : Value) (N : Nat) (bv : Nat → Value) (P V : Nat → Int) (L : Nat → Bool) : Prop :=
  ∃ (oa : Option Addr) (cap : Nat), v = .slice oa N cap ∧ N ≤ maxLen ∧ (0 < N → ∃ b off, oa = some ⟨b, off, none⟩ ∧ b < W.heap.size ∧ ∀ i, i < N → W.cell? ⟨b, off + i * 4, none⟩ = some (bv i) ∧ W.cell? ⟨b, off + i * 4 + 1, none⟩ = some (.int .i64 (P i)) ∧ W.cell? ⟨b, off + i * 4 + 2, none⟩ = some (.int .i64 (V i)) ∧ W.cell? ⟨b, off + i * 4 + 3, none⟩ = some (.bool (L i)))

set_option maxRecDepth 10000 in
set_option maxHeartbeats 12800000 in
theorem kept_walk (kp : Int) (tv : Value) (N : Nat) (bv : Nat → Value) (P V : Nat → Int) (L : Nat → Bool) (w : World) (hr : -9223372036854775808 ≤ kp ∧ kp ≤ 9223372036854775807) (ht : TsAt w tv N bv P V L)
    (hB : ∀ i, i < N → ∃ m es, CsAt 25 w (bv i) m es ∧ ∀ q, q < m → ∀ j, j < 25 → -9223372036854775808 ≤ es q j ∧ es q j ≤ 9223372036854775807) (hV : ∀ i, i < N → -9223372036854775808 ≤ V i ∧ V i ≤ 9223372036854775807) :
    Calls Try.prog 3 #[.int .i64 kp, tv] w fun e w' => e = .returned (.bool true) ∧ Below w.heap.size w w' := by
  have PK := fun W => pick_any kp 5 W hr (by omega)
  have bk := pk_in kp (n := 5) (by omega)
  generalize pk kp 5 = K at PK bk
  obtain ⟨oa, cap, rfl, hm, hc⟩ := ht
  unfold maxLen at hm
  have HC := hide hc
  have HBV := hide hB
  have HV := hide hV
  clear hc hB hV
  go_enter Try.func3, Try.ntmps3
  go_wp2_with fail
  refine (PK _).mono ?_
  rintro e w9 ⟨rfl, rfl⟩
  go_wp2_with fail
  refine (New_any K w (by omega)).mono ?_
  rintro e w2 ⟨rfl, rfl⟩
  obtain ⟨t1, t2, t3⟩ := two_blocks w (.cells #[.int .i64 K, .int .i64 0, .slice none 0 0, .slice none 0 0] 62 (0, 0)) (.cells #[.slice none 0 0] 43 (0, 0))
  have hz2 : ((w.alloc (.cells #[.int .i64 K, .int .i64 0, .slice none 0 0, .slice none 0 0] 62)).alloc (.cells #[.slice none 0 0] 43)).heap.size = w.heap.size + 2 := by simp
  have b0 : (((w.alloc (.cells #[.int .i64 K, .int .i64 0, .slice none 0 0, .slice none 0 0] 62)).alloc (.cells #[.slice none 0 0] 43)).alloc (.cells #[.pointer (some ⟨w.heap.size, 0, none⟩), .int .i64 K, .slice (some ⟨w.heap.size + 1, 0, none⟩) 1 1, .slice none 0 0] 32)).heap[w.heap.size]? = some (.cells #[.int .i64 K, .int .i64 0, .slice none 0 0, .slice none 0 0] 62 (0, 0)) := (Below.heap_alloc _ _ _ (by omega)).trans t1
  have b1 : (((w.alloc (.cells #[.int .i64 K, .int .i64 0, .slice none 0 0, .slice none 0 0] 62)).alloc (.cells #[.slice none 0 0] 43)).alloc (.cells #[.pointer (some ⟨w.heap.size, 0, none⟩), .int .i64 K, .slice (some ⟨w.heap.size + 1, 0, none⟩) 1 1, .slice none 0 0] 32)).heap[w.heap.size + 1]? = some (.cells #[.slice none 0 0] 43 (0, 0)) := (Below.heap_alloc _ _ _ (by omega)).trans t2
  have b2 : (((w.alloc (.cells #[.int .i64 K, .int .i64 0, .slice none 0 0, .slice none 0 0] 62)).alloc (.cells #[.slice none 0 0] 43)).alloc (.cells #[.pointer (some ⟨w.heap.size, 0, none⟩), .int .i64 K, .slice (some ⟨w.heap.size + 1, 0, none⟩) 1 1, .slice none 0 0] 32)).heap[w.heap.size + 2]? = some (.cells #[.pointer (some ⟨w.heap.size, 0, none⟩), .int .i64 K, .slice (some ⟨w.heap.size + 1, 0, none⟩) 1 1, .slice none 0 0] 32 (0, 0)) := by rw [← hz2]; exact heap_alloc_new _ _
  have hbe : Below w.heap.size w (((w.alloc (.cells #[.int .i64 K, .int .i64 0, .slice none 0 0, .slice none 0 0] 62)).alloc (.cells #[.slice none 0 0] 43)).alloc (.cells #[.pointer (some ⟨w.heap.size, 0, none⟩), .int .i64 K, .slice (some ⟨w.heap.size + 1, 0, none⟩) 1 1, .slice none 0 0] 32)) := t3.alloc (by omega) _
  have HP0 : Hid (Past (((w.alloc (.cells #[.int .i64 K, .int .i64 0, .slice none 0 0, .slice none 0 0] 62)).alloc (.cells #[.slice none 0 0] 43)).alloc (.cells #[.pointer (some ⟨w.heap.size, 0, none⟩), .int .i64 K, .slice (some ⟨w.heap.size + 1, 0, none⟩) 1 1, .slice none 0 0] 32)) (w.heap.size + 2) w.heap.size K 0 (.slice (some ⟨w.heap.size + 1, 0, none⟩) 1 1) (.slice none 0 0) (.slice none 0 0) (.slice none 0 0) [.slice none 0 0] (fun _ => []) [] []) :=
    ⟨by omega, b2, ⟨b0, ownC_nil _ _ _ _, ownC_nil _ _ _ _⟩, ⟨rfl, Or.inr ⟨w.heap.size + 1, 1, _, rfl, Nat.le_refl _, b1, Nat.le_refl _, by unfold maxLen; omega, rfl, rfl⟩⟩, fun v hv => ⟨.slice none 0 0, by rw [show v = 0 by omega]; rfl, ownC_nil _ _ _ _⟩, ownC_nil _ _ _ _, fun g hg => by simp [Value.ownBlock] at hg, rel_nil, fun i hi => by simp at hi, fun v hv => by rw [show v = 0 by omega]; exact relV_nil, by simp, by omega, by simp, by omega⟩
  have HBE := hide hbe
  clear t1 t2 t3 b0 b1 b2 hbe
  have hlen0 : w.heap.size ≤ w.heap.size := Nat.le_refl _
  go_wp2_with fail
  go_loopw [9, 10] (fun i _ wr => ∃ k : Nat, k ≤ N ∧ i = .int .i64 k ∧ Hid (∃ n wv pp sl pv WV FLs LS PI, Past wr (w.heap.size + 2) w.heap.size K n wv pp sl pv WV FLs LS PI) ∧ Below w.heap.size w wr) (fun i _ _ => N - (intOf i).toNat)
  case atStart => exact ⟨0, by omega, rfl, hide ⟨_, _, _, _, _, _, _, _, _, unhide HP0⟩, unhide HBE⟩
  case round =>
    obtain ⟨k, hk, rfl, hP, hb⟩ := hrel
    by_cases hlt : k < N
    · have hkn : (k : Int) < N := by omega
      obtain ⟨b, off, rfl, hbl, hc0⟩ := unhide HC (by omega)
      have hcW : ∀ W, Below w.heap.size w W → W.cell? ⟨b, off + k * 4, none⟩ = some (bv k) ∧ W.cell? ⟨b, off + k * 4 + 1, none⟩ = some (.int .i64 (P k)) ∧ W.cell? ⟨b, off + k * 4 + 2, none⟩ = some (.int .i64 (V k)) ∧ W.cell? ⟨b, off + k * 4 + 3, none⟩ = some (.bool (L k)) := fun W h => by
        obtain ⟨q1, q2, q3, q4⟩ := hc0 k hlt
        exact ⟨(h.cell (p := ⟨b, off + k * 4, none⟩) hbl).trans q1, (h.cell (p := ⟨b, off + k * 4 + 1, none⟩) hbl).trans q2, (h.cell (p := ⟨b, off + k * 4 + 2, none⟩) hbl).trans q3, (h.cell (p := ⟨b, off + k * 4 + 3, none⟩) hbl).trans q4⟩
      have HCW := hide hcW
      obtain ⟨d0, _, _, _⟩ := hcW wr hb
      obtain ⟨m, es, hE, hEb⟩ := unhide HBV k hlt
      obtain ⟨n, wv, pp, sl, pv, WV, FLs, LS, PI, hPr⟩ := unhide hP
      have HBT := hide (batch_any _ _ K n wv pp sl pv WV FLs LS PI (bv k) m es wr hPr (hE.on hb) hEb)
      obtain ⟨ob, nb, cb, hbv⟩ : ∃ a b c, bv k = .slice a b c := by
        obtain ⟨a, c, e, _⟩ := hE
        exact ⟨_, _, _, e⟩
      rw [hbv] at d0 HBT
      have HBr := hide hb
      have hVk := unhide HV k hlt
      clear hc0 hcW hPr hP hb hE hEb
      go_wp2_with fail
      refine (unhide HBT).mono ?_
      rintro e w2 ⟨rfl, hb2, n2, wv2, sl2, WV2, FLs2, LS2, hP2⟩
      have hbw2 := (unhide HBr).trans hb2
      obtain ⟨_, d1, d2, d3⟩ := unhide HCW w2 hbw2
      have HP2 := hide hP2
      have HBW2 := hide hbw2
      clear hb2 hbw2 hP2 HBT d0
      by_cases hp0 : P k = 0
      · have hp0' : P k = 0 := hp0
        rw [hp0] at d1
        clear hp0 hp0'
        cases hL : L k with
        | false =>
          rw [hL] at d3
          go_wp2_with fail
          go_roundw
          case rel => exact ⟨k + 1, by omega, by go_num, hide ⟨_, _, _, _, _, _, _, _, _, unhide HP2⟩, unhide HBW2⟩
          case measure => simp [intOf]; omega
        | true =>
          rw [hL] at d3
          have HST := hide (stands_any _ _ K n2 _ _ _ _ _ _ _ _ w2 (unhide HP2))
          go_wp2_with fail
          refine (unhide HST).mono ?_
          rintro e w3 ⟨rfl, hb3⟩
          have HP3 := hide ((unhide HP2).on hb3)
          have HB3 := hide ((unhide HBW2).trans (hb3.mono (unhide HBW2).size))
          clear hb3 d1 d2 d3 HST
          go_wp2_with fail
          go_roundw
          case rel => exact ⟨k + 1, by omega, by go_num, hide ⟨_, _, _, _, _, _, _, _, _, unhide HP3⟩, unhide HB3⟩
          case measure => simp [intOf]; omega
      · obtain ⟨Pk, hPk⟩ : ∃ x, P k = x := ⟨_, rfl⟩
        obtain ⟨Vk, hVk'⟩ : ∃ x, V k = x := ⟨_, rfl⟩
        rw [hPk] at d1 hp0
        rw [hVk'] at d2 hVk
        have HPI := hide (pin_must _ _ K n2 _ _ _ _ _ _ _ _ Pk Vk (World.drew w2) ((unhide HP2).on (Below.drew (Below.refl _ _))) hVk)
        have hS : (World.drew w2).cell? ⟨b, off + k * 4 + 1, none⟩ = some (.int .i64 Pk) ∧ (World.drew w2).cell? ⟨b, off + k * 4 + 2, none⟩ = some (.int .i64 Vk) := ⟨d1, d2⟩
        have HCW' := hide (fun W h => unhide HCW W h)
        go_wp2
        refine wp_region_held (S := fun w' => w'.cell? ⟨b, off + k * 4 + 1, none⟩ = some (.int .i64 Pk) ∧ w'.cell? ⟨b, off + k * 4 + 2, none⟩ = some (.int .i64 Vk)) (by kernel_rfl) ?_
        change wpAnyH _ _ _ _ _ _ _ _ (World.drew _)
        refine t_take 0 rfl (.pointer (some ⟨w.heap.size + 2, 0, none⟩)) (by kernel_rfl) (by kernel_rfl) (by kernel_rfl) (fun _ _ _ h => h) rfl (fun w' hw' => by simp [go_sem]) hS ?_
        simp only [Act.put, List.setIfInBounds_toArray, List.set_cons_succ, List.set_cons_zero]
        refine t_take 1 rfl (.slice (some ⟨b, off, none⟩) N cap) (by kernel_rfl) (by kernel_rfl) (by kernel_rfl) (fun _ _ _ h => h) rfl (fun w' hw' => by simp [go_sem]) hS ?_
        simp only [Act.put, List.setIfInBounds_toArray, List.set_cons_succ, List.set_cons_zero]
        refine t_take 2 rfl (.int .i64 k) (by kernel_rfl) (by kernel_rfl) (by kernel_rfl) (fun _ _ _ h => h) rfl (fun w' hw' => by simp [go_sem]) hS ?_
        simp only [Act.put, List.setIfInBounds_toArray, List.set_cons_succ, List.set_cons_zero]
        refine t_take 3 rfl (.pointer (some ⟨b, off + k * 4, none⟩)) (by kernel_rfl) (by kernel_rfl) (by kernel_rfl) (fun _ _ _ h => h) rfl (fun w' hw' => by simp [go_sem, hkn]) hS ?_
        simp only [Act.put, List.setIfInBounds_toArray, List.set_cons_succ, List.set_cons_zero]
        refine t_take 4 rfl (.pointer (some ⟨b, off + k * 4 + 1, none⟩)) (by kernel_rfl) (by kernel_rfl) (by kernel_rfl) (fun _ _ _ h => h) rfl (fun w' hw' => by simp [go_sem]) hS ?_
        simp only [Act.put, List.setIfInBounds_toArray, List.set_cons_succ, List.set_cons_zero]
        refine t_take 5 rfl (.int .i64 Pk) (by kernel_rfl) (by kernel_rfl) (by kernel_rfl) (fun _ _ _ h => h) rfl (fun w' hw' => by simp [go_sem, hw'.1]) hS ?_
        simp only [Act.put, List.setIfInBounds_toArray, List.set_cons_succ, List.set_cons_zero]
        refine t_take 6 rfl (.slice (some ⟨b, off, none⟩) N cap) (by kernel_rfl) (by kernel_rfl) (by kernel_rfl) (fun _ _ _ h => h) rfl (fun w' hw' => by simp [go_sem]) hS ?_
        simp only [Act.put, List.setIfInBounds_toArray, List.set_cons_succ, List.set_cons_zero]
        refine t_take 7 rfl (.int .i64 k) (by kernel_rfl) (by kernel_rfl) (by kernel_rfl) (fun _ _ _ h => h) rfl (fun w' hw' => by simp [go_sem]) hS ?_
        simp only [Act.put, List.setIfInBounds_toArray, List.set_cons_succ, List.set_cons_zero]
        refine t_take 8 rfl (.pointer (some ⟨b, off + k * 4, none⟩)) (by kernel_rfl) (by kernel_rfl) (by kernel_rfl) (fun _ _ _ h => h) rfl (fun w' hw' => by simp [go_sem, hkn]) hS ?_
        simp only [Act.put, List.setIfInBounds_toArray, List.set_cons_succ, List.set_cons_zero]
        refine t_take 9 rfl (.pointer (some ⟨b, off + k * 4 + 2, none⟩)) (by kernel_rfl) (by kernel_rfl) (by kernel_rfl) (fun _ _ _ h => h) rfl (fun w' hw' => by simp [go_sem]) hS ?_
        simp only [Act.put, List.setIfInBounds_toArray, List.set_cons_succ, List.set_cons_zero]
        refine t_take 10 rfl (.int .i64 Vk) (by kernel_rfl) (by kernel_rfl) (by kernel_rfl) (fun _ _ _ h => h) rfl (fun w' hw' => by simp [go_sem, hw'.2]) hS ?_
        simp only [Act.put, List.setIfInBounds_toArray, List.set_cons_succ, List.set_cons_zero]
        refine wpAnyH_all (rs := [11]) (by kernel_rfl) (by simp) ?_
        intro i hi
        simp only [List.mem_singleton] at hi
        subst hi
        refine t_callG 11 rfl rfl 8 #[.pointer (some ⟨w.heap.size + 2, 0, none⟩), .int .i64 Pk, .int .i64 Vk] (by simp [go_sem]) (.bool true) (fun w' => Below w.heap.size (World.drew w2) w' ∧ ∃ wv pp sl pv WV FLs LS PI, Past w' (w.heap.size + 2) w.heap.size K n2 wv pp sl pv WV FLs LS PI) ((unhide HPI).mono fun e w' h => ⟨h.1, h.2⟩) ?_
        rintro w5 ⟨hb5', wv5, pp5, sl5, pv5, WV5, FLs5, LS5, PI5, hP5⟩
        have hb5 : Below w.heap.size w w5 := (Below.drew (unhide HBW2)).trans hb5'
        obtain ⟨_, f1, f2, d3'⟩ := unhide HCW w5 hb5
        rw [hPk] at f1
        rw [hVk'] at f2
        have hS5 : w5.cell? ⟨b, off + k * 4 + 1, none⟩ = some (.int .i64 Pk) ∧ w5.cell? ⟨b, off + k * 4 + 2, none⟩ = some (.int .i64 Vk) := ⟨f1, f2⟩
        refine ⟨hS5, ?_⟩
        clear f1 f2 hb5' HCW'
        simp only [Act.put, List.setIfInBounds_toArray, List.set_cons_succ, List.set_cons_zero]
        refine wpAnyH_all (rs := [12]) (by kernel_rfl) (by simp) ?_
        intro i hi
        simp only [List.mem_singleton] at hi
        subst hi
        refine t_op 12 rfl rfl (.bool true) w5 (by simp [go_sem]) hS5 ?_
        simp only [Act.put, List.setIfInBounds_toArray, List.set_cons_succ, List.set_cons_zero]
        refine wpAnyH_done (by kernel_rfl) ?_ _
        have HP5 := hide hP5
        have HB5 := hide hb5
        clear hS5 hP5 hb5 hS HPI d1 d2 d3
        cases hL : L k with
        | false =>
          rw [hL] at d3'
          go_wp2_with fail
          go_roundw
          case rel => exact ⟨k + 1, by omega, by go_num, hide ⟨_, _, _, _, _, _, _, _, _, unhide HP5⟩, unhide HB5⟩
          case measure => simp [intOf]; omega
        | true =>
          rw [hL] at d3'
          have HST := hide (stands_any _ _ K n2 _ _ _ _ _ _ _ _ w5 (unhide HP5))
          go_wp2_with fail
          refine (unhide HST).mono ?_
          rintro e w3 ⟨rfl, hb3⟩
          have HP3 := hide ((unhide HP5).on hb3)
          have HB3 := hide ((unhide HB5).trans (hb3.mono (unhide HB5).size))
          clear hb3 d3' HST
          go_wp2_with fail
          go_roundw
          case rel => exact ⟨k + 1, by omega, by go_num, hide ⟨_, _, _, _, _, _, _, _, _, unhide HP3⟩, unhide HB3⟩
          case measure => simp [intOf]; omega
    · have hkn : k = N := by omega
      subst hkn
      obtain ⟨n, wv, pp, sl, pv, WV, FLs, LS, PI, hPr⟩ := unhide hP
      have HST := hide (stands_any _ _ K n _ _ _ _ _ _ _ _ wr hPr)
      have HBr := hide hb
      clear hP hPr hb
      go_wp2_with fail
      refine (unhide HST).mono ?_
      rintro e w3 ⟨rfl, hb3⟩
      have HB3 := hide ((unhide HBr).trans (hb3.mono (unhide HBr).size))
      clear hb3 HST
      go_wp2_with fail
      go_ret
      exact ⟨rfl, unhide HB3⟩
end Go.Proofs.Ytppcpbhnpdjfpab
