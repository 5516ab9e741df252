/-
  THE STATEMENT 'Still', PROVED.
-/
import Derived.Test.YtppcpbhnpdjfpabStM
import Derived.Test.YtppcpbhnpdjfpabOpenE
namespace Go.Proofs.Ytppcpbhnpdjfpab
open Go.ChangeShapes Go.WideShapes Go.ChangeAt Go.RowKit

theorem bytes56 : Try.prog.bytesOf 56 = 200 := by kernel_rfl
set_option maxRecDepth 100000 in
theorem still_lifted (os : Os) (started : os.Started) (H : Type) (enc : TypeId × Value → H) :
    ReturnsInHanded {} Try.checked os 4 .any (Rows.stillSpec.pre6 enc Try.prog Try.f4 Rows.stillRow.domain false) (Rows.stillSpec.post enc Try.prog Try.f4 false true false false) := by
  refine returnsInHanded_of_change_sized (C := Try.checked) Try.own started (by kernel_rfl) Try.func4
    (ChangeSpec.witness6 (enc := enc) (C := Try.checked) false ⟨#[], #[.slice none 0 0, .agg #[.int .i64 0, .int .i64 0, .int .i64 0, .int .i64 0], .int .i64 0], []⟩ 8 (by kernel_rfl) (by kernel_rfl) (by kernel_rfl) (by kernel_rfl)) ?_
  intro W base args ds gs before hval0 hW hcnd hsz0 _
  have hval : ∀ (j : Nat) t v, Try.f4.params[j]? = some t → args[j]? = some v → Value.okWide Try.prog W .any base t v := hval0
  have hsz : (DataW.weightsEach Try.prog (Try.f4.params.toList ++ Rows.stillSpec.plain.varTypes Try.prog) (ds ++ gs)).all (· ≤ reachBytes) = true := hsz0
  have hW' := hW
  obtain ⟨p, q, hA0, hV, rfl, hfz, hnd⟩ := hW
  have hA : DataW.TrodAll enc Try.prog W 0 (fun _ => true) true Try.f4.params.toList args.toList ds p := hA0
  rw [Try.params4] at hA hval hsz
  obtain ⟨v0, vs0, d0, ds0, p0, q0, hargs, rfl, rfl, h0, r0⟩ := trodAll_cons hA
  obtain ⟨v1, vs1, d1, ds1, p1, q1, rfl, rfl, rfl, h1, r1⟩ := trodAll_cons r0
  obtain ⟨v2, vs2, d2, ds2, p2, q2, rfl, rfl, rfl, h2, r2⟩ := trodAll_cons r1
  obtain ⟨rfl, rfl, rfl⟩ := trodAll_nil r2
  obtain rfl : args = #[v0, v1, v2] := by cases args; simp_all
  obtain ⟨l, z, x, y, rfl, k1, k2, k3, k4⟩ := open_key (hval 1 41 v1 rfl rfl) h1
  obtain ⟨a2, rfl, rfl, rfl, w2⟩ := open_int Try.underlying3 (hval 2 3 v2 rfl rfl) h2
  obtain ⟨oa, n, cap, es, rfl, hcap, hE, h64, hn⟩ : ∃ oa n cap es, v0 = .slice oa n cap ∧ n ≤ cap ∧ CsAt 25 W v0 n es ∧ (∀ i, i < n → ∀ j, j < 25 → -9223372036854775808 ≤ es i j ∧ es i j ≤ 9223372036854775807) ∧ n * 200 ≤ 140737488355328 := by
    rcases open_edits (hval 0 34 v0 rfl rfl) h0 with rfl | ⟨ad, n, cap, es, elems, spare, rfl, rfl, hlen, hcap, hE, h64⟩
    · exact ⟨none, 0, 0, fun _ _ => 0, rfl, Nat.le_refl _, ⟨none, 0, rfl, Nat.zero_le _, fun h => absurd h (by omega)⟩, fun i hi => absurd hi (by omega), by omega⟩
    · have hn : 200 * n ≤ 140737488355328 := by
        have := sized_slice hsz (j := 0) rfl rfl Try.underlying34
        rw [bytes56, hlen] at this
        unfold reachBytes at this
        omega
      exact ⟨_, n, cap, es, rfl, hcap, hE, h64, by omega⟩
  clear hA0 hval0 hsz hsz0
  refine (still_walk oa n cap es l z x y a2 W hcap hE h64 hn k1 k2 k3 k4 (wf_64 w2)).mono fun e W' ⟨he, bel⟩ => ?_
  subst he
  exact ⟨_, rfl, law_post hW' rfl rfl (by kernel_rfl) (fun gs' e => by subst e; rfl) bel⟩

theorem still_holds : Rows.StillSaid :=
  OpenClaim.holds_of_wide 4 Try.f4 rfl rfl rfl rfl rfl rfl rfl ⟨rfl, rfl, rfl, rfl, rfl⟩ rfl rfl rfl rfl rfl (by kernel_rfl) Try.func4 (by kernel_rfl)
    (of_decide_eq_true (by kernel_rfl)) (by unfold Func.isWrapper; first | (rw [if_pos (by decide +kernel)]; kernel_rfl) | (rw [if_neg (by decide +kernel)]; exact ⟨rfl, rfl⟩))
    (fun os started H enc _ => still_lifted os started H enc)
end Go.Proofs.Ytppcpbhnpdjfpab
