/-
  atlaskeep.edited: the walk.
-/
import Derived.Test.YtppcpbhnpdjfpabStF
namespace Go.Proofs.Ytppcpbhnpdjfpab
open Go.RowKit

theorem OwnC.cap {T : TypeId} {m : Nat} {w : World} {B k cap : Nat} {oa : Option Addr} {l : List (Nat → Int)} (h : OwnC T m w B (.slice oa k cap) l) : l.length ≤ cap := by
  rcases h.2 with ⟨_, e⟩ | ⟨g, cap', cur, hv, _, _, hc, _⟩
  · omega
  · simp only [Value.slice.injEq] at hv
    omega
/-- The place of the feature with an id. -/
def At (FL : List (Nat → Int)) (id : Int) (i : Nat) : Prop := i < FL.length ∧ gf FL i 0 = id ∧ ∀ j, j < i → gf FL j 0 ≠ id
def No (FL : List (Nat → Int)) (id : Int) : Prop := ∀ i, i < FL.length → gf FL i 0 ≠ id
/-- An edit of a list of features: what it makes; that it can't be done. -/
def EdR (e : Nat → Int) (FL FL' : List (Nat → Int)) : Prop :=
  (e 0 = 0 ∧ ∃ i, At FL (e 1) i ∧ FL' = FL.set i (eF e)) ∨ (e 0 = 0 ∧ No FL (e 1) ∧ FL.length < 40 ∧ FL' = FL ++ [eF e]) ∨
  (e 0 = 1 ∧ ∃ i, At FL (e 1) i ∧ FL' = (FL.set i (gf FL (FL.length - 1))).dropLast)
def EdN (e : Nat → Int) (FL : List (Nat → Int)) : Prop :=
  (e 0 = 0 ∧ No FL (e 1) ∧ 40 ≤ FL.length) ∨ (e 0 = 1 ∧ No FL (e 1)) ∨ (e 0 ≠ 0 ∧ e 0 ≠ 1)
def EdK (es : Nat → Nat → Int) (L : List (Nat → Int)) : Nat → List (Nat → Int) → Prop
  | 0, FL => FL = L
  | k + 1, FL => ∃ FLm, EdK es L k FLm ∧ EdR (es k) FLm FL
theorem EdR.len {e : Nat → Int} {FL FL' : List (Nat → Int)} (h : EdR e FL FL') (hl : FL.length ≤ 40) : FL'.length ≤ 40 := by
  rcases h with ⟨_, i, _, rfl⟩ | ⟨_, _, h, rfl⟩ | ⟨_, i, _, rfl⟩
  · simpa using hl
  · simp; omega
  · simp; omega
theorem EdK.len {es : Nat → Nat → Int} {L : List (Nat → Int)} (hl : L.length ≤ 40) : ∀ {k : Nat} {FL : List (Nat → Int)}, EdK es L k FL → FL.length ≤ 40
  | 0, _, h => by rw [show _ = L from h]; exact hl
  | k + 1, _, h => by
    obtain ⟨FLm, h1, h2⟩ := h
    exact h2.len (EdK.len hl h1)
/-- How edited ends. -/
def EdA (es : Nat → Nat → Int) (L : List (Nat → Int)) (n : Nat) (w : World) (e : Ending) (w' : World) : Prop :=
  Below w.heap.size w w' ∧ ((∃ FL v', e = .returned (.tuple #[v', .bool true]) ∧ EdK es L n FL ∧ OwnC 54 24 w' w.heap.size v' FL) ∨
    ∃ k FLk, k < n ∧ EdK es L k FLk ∧ EdN (es k) FLk ∧ e = .returned (.tuple #[.slice none 0 0, .bool false]))

set_option maxRecDepth 10000 in
set_option maxHeartbeats 6400000 in
theorem edited_any (v : Value) (L : List (Nat → Int)) (bo : Option Addr) (n bc : Nat) (es : Nat → Nat → Int) (w : World) (hv : CsAt 24 w v L.length (gf L)) (hne : v = .slice none 0 0 ∨ ∃ b off c, v = .slice (some ⟨b, off, none⟩) L.length c) (hl : L.length ≤ 40) (hbt : CsAt 25 w (.slice bo n bc) n es) (hn : n ≤ 8) :
    Calls Try.prog 13 #[v, .slice bo n bc] w fun e w' => EdA es L n w e w' := by
  obtain ⟨v1, w1, hr1, ho1, hg1⟩ := run_apFs w w.heap.size v L hv hne (by omega) (Nat.le_refl _)
  have hb1 := (Below.refl w.heap.size w).grown hg1 (Nat.le_refl _) (fun k hk => by cases hk)
  have hbb := hbt.on hb1
  obtain ⟨_, _, e, _, hc⟩ := hbb
  simp only [Value.slice.injEq, true_and] at e
  obtain ⟨rfl, rfl⟩ := e
  have HC := hide hc
  have HC1 : Hid (0 < n → ∃ b off, bo = some ⟨b, off, none⟩ ∧ b < w.heap.size) := by
    obtain ⟨_, _, e, _, h⟩ := hbt
    simp only [Value.slice.injEq, true_and] at e
    obtain ⟨rfl, rfl⟩ := e
    intro h0
    obtain ⟨b, off, e, hb, _⟩ := h h0
    exact ⟨b, off, e, hb⟩
  have HO1 := hide ho1
  have HB1 := hide hb1
  clear hc hg1 hb1 ho1 hv hne hbt
  go_enter Try.func13, Try.ntmps13
  go_wp2_with (at_builtin; refine wl_apF hr1 rfl (.tmp 10) (.tmp 11) rfl rfl rfl rfl ?_)
  go_loopw [6, 7, 8, 9] (fun ov i _ _ wr => ∃ (k : Nat) (FL : List (Nat → Int)), k ≤ n ∧ i = .int .i64 k ∧ Hid (EdK es L k FL) ∧ OwnC 54 24 wr w.heap.size ov FL ∧ Below w.heap.size w wr) (fun _ i _ _ _ => n - (intOf i).toNat)
  case atStart => exact ⟨0, L, by omega, rfl, hide rfl, unhide HO1, unhide HB1⟩
  case round =>
    obtain ⟨k, FL, hk, rfl, hE, ho, hb⟩ := hrel
    clear hr1
    have hfl := (unhide hE).len hl
    have hfs := ho.at (by unfold maxLen; omega)
    by_cases hlt : k < n
    · have hkn : (k : Int) < n := by omega
      obtain ⟨b, off, rfl, _, hc0⟩ := unhide HC (by omega)
      obtain ⟨b', off', e, hbl⟩ := unhide HC1 (by omega)
      simp only [Option.some.injEq, Addr.mk.injEq, and_true] at e
      obtain ⟨rfl, rfl⟩ := e
      have hcw : ∀ i, i < n → ∀ j, j < 25 → wr.cell? ⟨b, off + i * 25 + j, none⟩ = some (.int .i64 (es i j)) := fun i hi j hj => ((hb.cell (p := ⟨b, off + i * 25 + j, none⟩) hbl).trans ((unhide HB1).cell (p := ⟨b, off + i * 25 + j, none⟩) hbl).symm).trans (hc0 i hi j hj)
      have c0 := hcw k hlt 0 (by omega)
      have c1 := hcw k hlt 1 (by omega)
      have hrg := eF_rng hcw hlt
      simp only [Nat.add_zero] at c0
      obtain ⟨O, hO⟩ : ∃ O, es k 0 = O := ⟨_, rfl⟩
      obtain ⟨I, hI⟩ : ∃ O, es k 1 = O := ⟨_, rfl⟩
      rw [hO] at c0
      rw [hI] at c1
      have HHA := hide (has_any u6 FL.length (gf FL) I wr hfs)
      have HOW := hide ho
      have HBr := hide hb
      have HFS := hide hfs
      clear hc0 hcw hb ho hfs
      obtain ⟨oa6, cap6, rfl, _, _⟩ := unhide HFS
      go_wp2_with fail
      refine (unhide HHA).mono ?_
      rintro e w9 ⟨⟨r, rfl, hr⟩, rfl⟩
      have HR := hide hr
      clear hr HHA
      by_cases hO0 : O = 0
      · rcases unhide HR with ⟨rfl, hno⟩ | ⟨i, rfl, hi, hid, hfst⟩
        · by_cases h40 : FL.length < 40
          · have h40' : (FL.length : Int) < 40 := by omega
            have HE : Hid (EdR (es k) FL (FL ++ [eF (es k)])) := Or.inr (Or.inl ⟨hO.trans hO0, fun i hi => by rw [hI]; exact hno i hi, h40, rfl⟩)
            subst hO0
            have hA := heap_alloc_new wr (.cells (fc (eF (es k))) 54 (0, 0))
            have hs2 : w.heap.size ≤ wr.heap.size := (unhide HBr).size
            obtain ⟨v7, w7, hr7, ho7, hg7⟩ := run_apF (wr.alloc (.cells (fc (eF (es k))) 54)) w.heap.size (.slice oa6 FL.length cap6) FL [eF (es k)] ((unhide HOW).alloc _) wr.heap.size 0 1 (fun i hi j hj => by
              obtain rfl : i = 0 := by simp at hi; omega
              rw [blk_cells hA]
              simpa [gf] using fc_at (eF (es k)) j hj) (by simp; omega) (by simp; omega)
            have hb7 := ((unhide HBr).alloc hs2 (.cells (fc (eF (es k))) 54)).grown hg7 (by simp; omega) (fun q hq => ((unhide HOW).lt q hq).1)
            have HB7 := hide hb7
            have HO7 := hide ho7
            clear hb7 ho7 hg7 hA hno HR
            go_wp2_with (first | refine ldm26 rfl _ rfl b (off + k * 25 + 1) rfl (eF (es k)) hrg ?_ | refine bs34 rfl _ rfl (eF (es k)) rfl _ rfl ?_ | (at_builtin; refine wl_apF hr7 rfl (.tmp 58) (.tmp 64) rfl rfl rfl rfl ?_))
            go_roundw
            case rel => exact ⟨k + 1, FL ++ [eF (es k)], by omega, by go_num, hide ⟨FL, unhide hE, unhide HE⟩, unhide HO7, unhide HB7⟩
            case measure => simp [intOf]; omega
          · have h40' : ¬ (FL.length : Int) < 40 := by omega
            have HH : Hid (EdA es L n w (.returned (.tuple #[.slice none 0 0, .bool false])) wr) := ⟨unhide HBr, Or.inr ⟨k, FL, hlt, unhide hE, Or.inl ⟨hO.trans hO0, fun i hi => by rw [hI]; exact hno i hi, by omega⟩, rfl⟩⟩
            subst hO0
            clear hno HR
            go_wp2_with fail
            go_ret2
            exact unhide HH
        · have HE : Hid (EdR (es k) FL (FL.set i (eF (es k)))) := Or.inl ⟨hO.trans hO0, i, ⟨hi, by rw [hI]; exact hid, fun j hj => by rw [hI]; exact hfst j hj⟩, rfl⟩
          obtain ⟨g, cap', e, hB, hgl⟩ := (unhide HOW).form (by omega)
          simp only [Value.slice.injEq, true_and] at e
          obtain ⟨rfl, rfl⟩ := e
          have hin : (i : Int) < FL.length := by omega
          have hrow := (unhide HOW).row i hi (by omega) (eF (es k))
          have hb7 := (unhide HBr).grown hrow.2 (unhide HBr).size (fun q hq => by obtain rfl := Option.some.inj hq; exact hB)
          have HO7 := hide hrow.1
          have HB7 := hide hb7
          have hlen7 : (FL.set i (eF (es k))).length = FL.length := by simp
          clear hb7 hrow hid hfst HR
          subst hO0
          have hown := unhide HOW
          go_wp2_with (first | refine ldm26 rfl _ rfl b (off + k * 25 + 1) rfl (eF (es k)) hrg ?_ | refine st_row rfl _ _ rfl hown i hi (eF (es k)) rfl rfl ?_)
          go_roundw
          case rel => exact ⟨k + 1, FL.set i (eF (es k)), by omega, by go_num, hide ⟨FL, unhide hE, unhide HE⟩, unhide HO7, unhide HB7⟩
          case measure => simp [intOf]; omega
      · by_cases hO1 : O = 1
        · rcases unhide HR with ⟨rfl, hno⟩ | ⟨i, rfl, hi, hid, hfst⟩
          · have HH : Hid (EdA es L n w (.returned (.tuple #[.slice none 0 0, .bool false])) wr) := ⟨unhide HBr, Or.inr ⟨k, FL, hlt, unhide hE, Or.inr (Or.inl ⟨hO.trans hO1, fun i hi => by rw [hI]; exact hno i hi⟩), rfl⟩⟩
            subst hO1
            clear hno HR
            go_wp2_with fail
            go_ret2
            exact unhide HH
          · have HE : Hid (EdR (es k) FL (FL.set i (gf FL (FL.length - 1))).dropLast) := Or.inr (Or.inr ⟨hO.trans hO1, i, ⟨hi, by rw [hI]; exact hid, fun j hj => by rw [hI]; exact hfst j hj⟩, rfl⟩)
            obtain ⟨g, cap', e, hB, hgl⟩ := (unhide HOW).form (by omega)
            simp only [Value.slice.injEq, true_and] at e
            obtain ⟨rfl, rfl⟩ := e
            obtain ⟨N, hN⟩ : ∃ N, FL.length = N + 1 := ⟨FL.length - 1, by omega⟩
            have hin : (i : Int) < FL.length := by omega
            have hrow := (unhide HOW).row i hi (by omega) (gf FL (FL.length - 1))
            have hb7 := (unhide HBr).grown hrow.2 (unhide HBr).size (fun q hq => by obtain rfl := Option.some.inj hq; exact hB)
            have hpop := OwnC.pop (n := N) (l := FL.set i (gf FL (FL.length - 1))) (by have := hrow.1; simpa only [hN] using this) (by simp [hN])
            have HO7 := hide hpop
            have HB7 := hide hb7
            have hrl : wr.rangeAt g (N * 24) (fc (gf FL N)).toList := by
              obtain ⟨_, _, e, _, hcc⟩ := unhide HFS
              simp only [Value.slice.injEq, true_and] at e
              obtain ⟨rfl, rfl⟩ := e
              obtain ⟨b2, off2, e, _, hcc⟩ := hcc (by omega)
              simp only [Option.some.injEq, Addr.mk.injEq, and_true] at e
              obtain ⟨rfl, rfl⟩ := e
              have := fs_rng (k := N) hcc (by omega)
              rwa [Nat.zero_add] at this
            clear hb7 hrow hpop hid hfst HR
            subst hO1
            have hown := unhide HOW
            have hi0 := hi
            have hcap := (unhide HOW).cap
            have hcap' : N ≤ cap6 := by omega
            clear hcap
            rw [hN] at hin hi HO7 HB7 HE ⊢
            simp only [Nat.add_sub_cancel] at HO7 HB7 HE
            go_wp2_with (first | refine ldm26 rfl _ rfl g (N * 24) rfl (gf FL N) hrl ?_ | refine st_row rfl _ _ rfl hown i hi0 (gf FL N) rfl rfl ?_)
            go_roundw
            case rel => exact ⟨k + 1, (FL.set i (gf FL N)).dropLast, by omega, by go_num, hide ⟨FL, unhide hE, unhide HE⟩, unhide HO7, unhide HB7⟩
            case measure => simp [intOf]; omega
        · have HH : Hid (EdA es L n w (.returned (.tuple #[.slice none 0 0, .bool false])) wr) := ⟨unhide HBr, Or.inr ⟨k, FL, hlt, unhide hE, Or.inr (Or.inr ⟨by rw [hO]; exact hO0, by rw [hO]; exact hO1⟩), rfl⟩⟩
          go_wp2_with fail
          go_ret2
          exact unhide HH
    · have hkn : k = n := by omega
      subst hkn
      have HH : Hid (EdA es L k w (.returned (.tuple #[u6, .bool true])) wr) := ⟨hb, Or.inl ⟨FL, u6, rfl, unhide hE, ho⟩⟩
      clear hfs
      go_wp2_with fail
      go_ret2
      exact unhide HH
end Go.Proofs.Ytppcpbhnpdjfpab
