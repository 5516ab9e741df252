/-
  THE STATEMENT 'Local', PROVED.
-/
import Derived.Test.YtppcpbhnpdjfpaaLocD
import Derived.Test.YtppcpbhnpdjfpaaOpenS
namespace Go.Proofs.Ytppcpbhnpdjfpaa
open Go.ChangeShapes Go.WideShapes Go.ChangeAt Go.RowKit

set_option maxRecDepth 100000 in
theorem local_lifted (os : Os) (started : os.Started) (H : Type) (enc : TypeId × Value → H) :
    ReturnsInHanded {} Try.checked os 10 .any (Rows.localSpec.pre6 enc Try.prog Try.f10 Rows.localRow.domain false) (Rows.localSpec.post enc Try.prog Try.f10 false true false false) := by
  refine returnsInHanded_of_change_sized (C := Try.checked) Try.own started (by kernel_rfl) Try.func10
    (ChangeSpec.witness6 (enc := enc) (C := Try.checked) false ⟨#[], #[.slice none 0 0, .agg #[.int .i64 0, .int .i64 0, .int .i64 0, .int .i64 0]], []⟩ 8 (by kernel_rfl) (by kernel_rfl) (by kernel_rfl) (by kernel_rfl)) ?_
  intro W base args ds gs before hval0 hW hcnd hsz0 _
  have hval : ∀ (j : Nat) t v, Try.f10.params[j]? = some t → args[j]? = some v → Value.okWide Try.prog W .any base t v := hval0
  have hW' := hW
  obtain ⟨p, q, hA0, hV, rfl, hfz, hnd⟩ := hW
  have hA : DataW.TrodAll enc Try.prog W 0 (fun _ => true) true Try.f10.params.toList args.toList ds p := hA0
  rw [Try.params10] at hA hval
  obtain ⟨v0, v1, d0, d1, p0, p1, rfl, rfl, rfl, h0, h1⟩ := trodAll_two hA
  obtain ⟨l, z, x, y, rfl, r1, r2, r3, r4⟩ := open_key (hval 1 28 v1 rfl rfl) h1
  obtain ⟨n, fs, hF, h64⟩ : ∃ n fs, FsAt W v0 n fs ∧ ∀ i, i < n → F64 (fs i) := by
    rcases open_feats (hval 0 34 v0 rfl rfl) h0 with rfl | ⟨ad, n, cap, fs, elems, spare, rfl, rfl, hlen, hF, h64⟩
    · exact ⟨0, fun _ _ => 0, ⟨none, 0, rfl, Nat.zero_le _, fun h => absurd h (by omega)⟩, fun i hi => absurd hi (by omega)⟩
    · exact ⟨n, fs, hF, h64⟩
  clear hA0 hval0 hsz0
  refine (local_walk v0 n fs l z x y W hF h64 r1 r2 r3 r4).mono fun e W' ⟨he, bel⟩ => ?_
  subst he
  exact ⟨_, rfl, law_post hW' rfl rfl (by kernel_rfl) (fun gs' e => by subst e; rfl) bel⟩

theorem local_holds : Rows.LocalSaid :=
  OpenClaim.holds_of_wide 10 Try.f10 rfl rfl rfl rfl rfl rfl rfl ⟨rfl, rfl, rfl, rfl, rfl⟩ rfl rfl rfl rfl rfl (by kernel_rfl) Try.func10 (by kernel_rfl)
    (of_decide_eq_true (by kernel_rfl)) (by unfold Func.isWrapper; first | (rw [if_pos (by decide +kernel)]; kernel_rfl) | (rw [if_neg (by decide +kernel)]; exact ⟨rfl, rfl⟩))
    (fun os started H enc _ => local_lifted os started H enc)
end Go.Proofs.Ytppcpbhnpdjfpaa
