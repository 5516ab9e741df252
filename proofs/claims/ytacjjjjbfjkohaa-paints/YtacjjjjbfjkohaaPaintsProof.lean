/-
  THE STATEMENT 'Paints', PROVED.
-/
import Derived.Test.YtacjjjjbfjkohaaPaintsB
import Derived.Test.YtacjjjjbfjkohaaOpenS
namespace Go.Proofs.Ytacjjjjbfjkohaa
open Go.ChangeShapes Go.WideShapes Go.ChangeAt Go.RowKit

theorem bytes26 : Try.prog.bytesOf 26 = 192 := by kernel_rfl
set_option maxRecDepth 100000 in
theorem paints_lifted (os : Os) (started : os.Started) (H : Type) (enc : TypeId × Value → H) :
    ReturnsInHanded {} Try.checked os 5 .any (Rows.paintsSpec.pre6 enc Try.prog Try.f5 Rows.paintsRow.domain false) (Rows.paintsSpec.post enc Try.prog Try.f5 false true false false) := by
  refine returnsInHanded_of_change_sized (C := Try.checked) Try.own started (by kernel_rfl) Try.func5
    (ChangeSpec.witness6 (enc := enc) (C := Try.checked) false ⟨#[], #[.slice none 0 0, .agg #[.int .i64 0, .int .i64 0, .int .i64 0, .int .i64 0]], []⟩ 8 (by kernel_rfl) (by kernel_rfl) (by kernel_rfl) (by kernel_rfl)) ?_
  intro W base args ds gs before hval0 hW hcnd hsz0 _
  have hval : ∀ (j : Nat) t v, Try.f5.params[j]? = some t → args[j]? = some v → Value.okWide Try.prog W .any base t v := hval0
  have hsz : (DataW.weightsEach Try.prog (Try.f5.params.toList ++ Rows.paintsSpec.plain.varTypes Try.prog) (ds ++ gs)).all (· ≤ reachBytes) = true := hsz0
  have hW' := hW
  obtain ⟨p, q, hA0, hV, rfl, hfz, hnd⟩ := hW
  have hA : DataW.TrodAll enc Try.prog W 0 (fun _ => true) true Try.f5.params.toList args.toList ds p := hA0
  rw [Try.params5] at hA hval hsz
  obtain ⟨v0, v1, d0, d1, p0, p1, rfl, rfl, rfl, h0, h1⟩ := trodAll_two hA
  obtain ⟨l, z, x, y, rfl, _⟩ := open_key (hval 1 28 v1 rfl rfl) h1
  rcases open_feats (hval 0 34 v0 rfl rfl) h0 with rfl | ⟨ad, n, cap, fs, elems, spare, rfl, rfl, hlen, hF, _⟩
  · clear hA0 hval0 hsz hsz0
    refine (paints_nil l z x y W).mono fun e W' ⟨he, bel⟩ => ?_
    subst he
    exact ⟨_, rfl, law_post hW' rfl rfl (by kernel_rfl) (fun gs' e => by subst e; rfl) bel⟩
  · have hn : 192 * n ≤ 140737488355328 := by
      have := sized_slice hsz (j := 0) rfl rfl Try.underlying34
      rw [bytes26, hlen] at this
      unfold reachBytes at this
      omega
    clear hA0 hval0 hsz hsz0
    refine (paints_some ad n cap fs l z x y W hF hn).mono fun e W' ⟨he, bel⟩ => ?_
    subst he
    exact ⟨_, rfl, law_post hW' rfl rfl (by kernel_rfl) (fun gs' e => by subst e; rfl) bel⟩

theorem paints_holds : Rows.PaintsSaid :=
  OpenClaim.holds_of_wide 5 Try.f5 rfl rfl rfl rfl rfl rfl rfl ⟨rfl, rfl, rfl, rfl, rfl⟩ rfl rfl rfl rfl rfl (by kernel_rfl) Try.func5 (by kernel_rfl)
    (of_decide_eq_true (by kernel_rfl)) (by unfold Func.isWrapper; first | (rw [if_pos (by decide +kernel)]; kernel_rfl) | (rw [if_neg (by decide +kernel)]; exact ⟨rfl, rfl⟩))
    (fun os started H enc _ => paints_lifted os started H enc)
end Go.Proofs.Ytacjjjjbfjkohaa
