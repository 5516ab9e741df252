/-
  THE STATEMENT 'Paths', where what is read is of bulk at most 1048576: THE TIED CARD, PROVED.
-/
import Derived.Test.YtacjjjjbfjkohaaDoorWalk
import Derived.Test.YtacjjjjbfjkohaaDoorCards
import Derived.Test.YtacjjjjbfjkohaaDoorTie
import Derived.ProofKit
import Derived.OpenShut
import Derived.ShutString
import Derived.LaidMore
import Derived.Lib.SmallJoins
import Derived.Deep.DeepHandedRow
import Derived.Lib.LaidTab
namespace Go.Proofs.YtacjjjjbfjkohaaDoor
open Go.ChangeShapes Go.WideShapes Go.ChangeAt Go.RowKit Go.Joins
open Go.ChangeMaps (open_string shut_string)

theorem Tryd.own : ownKnob Tryd.prog.godebug = none := by kernel_rfl
theorem gNames : Tryd.prog.globalNamed "atlas/wire.layerNames" = some 0 := by kernel_rfl
theorem gPow : Tryd.prog.globalNamed "internal/strconv.uint64pow10" = some 1 := by kernel_rfl
theorem tNames : (Tryd.prog.globals[0]?).map (·.type) = some 43 := by kernel_rfl
theorem tPow : (Tryd.prog.globals[1]?).map (·.type) = some 59 := by kernel_rfl
theorem cells9 : Tryd.prog.cellsOf 9 = 1 := by kernel_rfl
theorem cells43 : Tryd.prog.cellsOf 43 = 4 := by kernel_rfl
theorem cells51 : Tryd.prog.cellsOf 52 = 1 := by kernel_rfl
theorem cells58 : Tryd.prog.cellsOf 59 = 20 := by kernel_rfl
theorem cells23 : Tryd.prog.cellsOf 23 = 4 := by kernel_rfl

theorem str_of (s : ByteArray) (l : List UInt8) (h : s.data.toList = l) : s = ⟨l.toArray⟩ := by
  rw [← h]

theorem one_str {H : Type} {enc : TypeId × Value → H} {W : World} {base : Nat} {sp : Nat → Bool} {held : Bool} {m : Nat} {c : Value} {x : DataW H × List MemPlace} {l : List UInt8}
    (h : DataW.trod enc Tryd.prog W base sp held m 9 [c] = some x) (e : DataW.lit (.string l) = x.1) : c = .string ⟨l.toArray⟩ := by
  obtain ⟨s, hs, hx, _⟩ := DataW.trod_string Tryd.underlying9 h
  rw [hx] at e
  simp only [DataW.lit.injEq, Lit.string.injEq] at e
  simp only [List.cons.injEq, and_true] at hs
  rw [hs, str_of s l e.symm]
theorem heap_pos {W : World} {v : Value} (h : W.cell? ⟨0, 0, none⟩ = some v) : 0 < W.heap.size := by
  rcases Nat.eq_zero_or_pos W.heap.size with e | e
  · have : W.heap[0]? = none := Array.getElem?_eq_none (by omega)
    simp [World.cell?, this] at h
  · exact e

/-- WHAT THE ROW's LIST GIVES: the names, and the table of powers. -/
theorem of_laid {W : World} (h : laidMetH Tryd.prog Rows.pathsUptoRow.laid W) : Nm W ∧ Lib.TabIs Tryd.prog W "internal/strconv.uint64pow10" .u64 Lib.pow10Tab := by
  have h' : laidMet Tryd.prog Rows.pathsUptoRow.laid W := h
  obtain ⟨ps, ⟨g0, t0, cs0, f0, p0, q0, hg0, ht0, hv0, hd0, ⟨g1, t1, cs1, f1, p1, q1, hg1, ht1, hv1, hd1, ⟨g2, t2, cs2, f2, p2, q2, hg2, ht2, hv2, hd2, ⟨g3, t3, cs3, f3, p3, q3, hg3, ht3, hv3, hd3, _, _⟩, _⟩, _⟩, _⟩, _⟩ := h'
  obtain rfl := Option.some.inj (gPow.symm.trans hg2)
  obtain rfl := Option.some.inj (tPow.symm.trans ht2)
  obtain rfl := Option.some.inj (gNames.symm.trans hg3)
  obtain rfl := Option.some.inj (tNames.symm.trans ht3)
  constructor
  · have hd3' : DataW.trod _ Tryd.prog W _ _ _ f3 43 cs3.toList = some (.agg [.lit (.string Pp.land), .lit (.string Pp.water), .lit (.string Pp.road), .lit (.string Pp.mark)], p3) := hd3
    obtain ⟨xs, m, rfl, hx, hlen, hn, hel⟩ := DataW.trod_array Tryd.underlying43 hd3'
    rw [cells43] at hlen
    simp only [Prod.mk.injEq, DataW.agg.injEq] at hx
    match xs, hn, hx, hel with
    | [x0, x1, x2, x3], _, hx, hel =>
      simp only [List.map_cons, List.map_nil, List.cons.injEq, and_true] at hx
      obtain ⟨⟨e0, e1, e2, e3⟩, _⟩ := hx
      have k0 := hel 0 (by decide)
      have k1 := hel 1 (by decide)
      have k2 := hel 2 (by decide)
      have k3 := hel 3 (by decide)
      rw [cells9] at k0 k1 k2 k3
      obtain ⟨l⟩ := cs3
      match l, hlen, hv3, k0, k1, k2, k3 with
      | [c0, c1, c2, c3], _, hv3, k0, k1, k2, k3 =>
        have j0 := one_str (show DataW.trod _ Tryd.prog W _ _ _ m 9 [c0] = some x0 from k0) e0
        have j1 := one_str (show DataW.trod _ Tryd.prog W _ _ _ m 9 [c1] = some x1 from k1) e1
        have j2 := one_str (show DataW.trod _ Tryd.prog W _ _ _ m 9 [c2] = some x2 from k2) e2
        have j3 := one_str (show DataW.trod _ Tryd.prog W _ _ _ m 9 [c3] = some x3 from k3) e3
        subst j0 j1 j2 j3
        have v0 := World.var?_cell hg3 hv3 0
        have v1 := World.var?_cell hg3 hv3 1
        have v2 := World.var?_cell hg3 hv3 2
        have v3 := World.var?_cell hg3 hv3 3
        exact ⟨heap_pos v0, v0, v1, v2, v3⟩
  · show W.var? Tryd.prog _ = _
    rw [hv2]
    have hd2' : DataW.trod _ Tryd.prog W _ _ _ f2 59 cs2.toList = some (Lib.tabData .u64 Lib.pow10Tab, p2) := hd2
    have := Lib.cells_of_tab Tryd.underlying59 Tryd.underlying52 cells51 cells58 hd2'
    rw [← this]

theorem contract (H : Type) (enc : TypeId × Value → H) (W : World) (base : Nat) (args : Array Value) (ds gs : List (DataW H)) (before : List MemPlace)
    (hval : ∀ (j : Nat) t v, Tryd.f3.params[j]? = some t → args[j]? = some v → Value.okWide Tryd.prog W .any base t v)
    (hW : DataW.Whole enc Tryd.prog Tryd.f3.params.toList Rows.pathsSpec.vars false W args.toList ds gs before) (hk : Rows.uptoSmall H (ds ++ gs) = true) (hL : laidMetH Tryd.prog Rows.pathsUptoRow.laid W) :
    Calls Tryd.prog 3 args W fun e W' => ∃ v, e = .returned v ∧ Rows.pathsSpec.post enc Tryd.prog Tryd.f3 false true false false W args v W' := by
  have hW' := hW
  obtain ⟨p, q, hA0, hV, rfl, hfz, hnd⟩ := hW
  have hA : DataW.TrodAll enc Tryd.prog W 0 (fun _ => true) true Tryd.f3.params.toList args.toList ds p := hA0
  rw [Tryd.params3] at hA hval
  obtain ⟨v0, vs0, d0, ds0, p0, q0, hargs, rfl, rfl, h0, r0⟩ := trodAll_cons hA
  obtain ⟨v1, vs1, d1, ds1, p1, q1, rfl, rfl, rfl, h1, r1⟩ := trodAll_cons r0
  obtain ⟨v2, vs2, d2, ds2, p2, q2, rfl, rfl, rfl, h2, r2⟩ := trodAll_cons r1
  obtain ⟨rfl, rfl, rfl⟩ := trodAll_nil r2
  obtain rfl : args = #[v0, v1, v2] := by cases args; simp_all
  obtain ⟨rfl, rfl⟩ := trodVars_none hV
  obtain ⟨s, rfl, rfl, rfl, ws⟩ := open_string Tryd.underlying9 (hval 0 9 v0 rfl rfl) h0
  obtain ⟨u0, u1, u2, u3, y0, y1, y2, y3, n, rfl, rfl, rfl, t0, t1, t2, t3⟩ := open_agg4 Tryd.underlying23 (by kernel_rfl) cells23 (hval 1 23 v1 rfl rfl) h1
  obtain ⟨l, e0, rfl, wl⟩ := DataW.trod_int Tryd.underlying3 t0
  obtain ⟨z, e1, rfl, wz⟩ := DataW.trod_int Tryd.underlying3 t1
  obtain ⟨x, e2, rfl, wx⟩ := DataW.trod_int Tryd.underlying3 t2
  obtain ⟨y, e3, rfl, wy⟩ := DataW.trod_int Tryd.underlying3 t3
  simp only [List.cons.injEq, and_true] at e0 e1 e2 e3
  subst e0 e1 e2 e3
  obtain ⟨v, rfl, rfl, rfl, wv⟩ := open_int Tryd.underlying3 (hval 2 3 v2 rfl rfl) h2
  clear hA0
  simp only [List.append_nil] at hk
  have hs : s.size ≤ 1048576 := by
    have := of_decide_eq_true hk
    simp only [Rows.uptoBulkAll, Rows.uptoBulk] at this
    have e : s.data.toList.length = s.size := by simp
    omega
  obtain ⟨hNm, hTb⟩ := of_laid hL
  refine (paths_walk s l z x y v W hs hNm (Lib.tabBelow_of_tabIs hTb)).mono fun e W' ⟨he, bel⟩ => ?_
  subst he
  have rk : ∀ {sp : Nat → Bool} {held : Bool} {b : Nat}, DataW.Trod enc Tryd.prog W' b sp held 23 (.agg #[.int .i64 l, .int .i64 z, .int .i64 x, .int .i64 y]) (.agg [.lit (.int .i64 l), .lit (.int .i64 z), .lit (.int .i64 x), .lit (.int .i64 y)]) [] := by
    intro sp held b
    exact shut_agg4 (y0 := (.lit (.int .i64 l), [])) (y1 := (.lit (.int .i64 z), [])) (y2 := (.lit (.int .i64 x), [])) (y3 := (.lit (.int .i64 y), [])) Tryd.underlying23 (by kernel_rfl) cells23
      ⟨1, by simp [DataW.trod, Tryd.underlying3, wl]⟩ ⟨1, by simp [DataW.trod, Tryd.underlying3, wz]⟩ ⟨1, by simp [DataW.trod, Tryd.underlying3, wx]⟩ ⟨1, by simp [DataW.trod, Tryd.underlying3, wy]⟩
  exact ⟨_, rfl, _, _, _, [], [], [], hW', trodAll_mk1 (shut_bool Tryd.underlying4 _), trodAll_mk3 (shut_string Tryd.underlying9 ws) rk (shut_int Tryd.underlying3 wv), rfl, bel.frame _, fun h => by cases h⟩

theorem laid_met (os : Os) : laidMet Tryd.prog Rows.pathsUptoRow.laid ((World.doorLaid Tryd.prog 29 os).forCall (fun _ _ => 0) ⟨#[], #[.string ByteArray.empty, .agg #[.int .i64 0, .int .i64 0, .int .i64 0, .int .i64 0], .int .i64 0], []⟩).memory :=
  laidMet_of_run' 8 (by kernel_rfl) (by kernel_rfl)
theorem reads (os : Os) {H : Type} (enc : TypeId × Value → H) : ∃ places, DataW.whole enc Tryd.prog ((World.doorLaid Tryd.prog 29 os).forCall (fun _ _ => 0) ⟨#[], #[.string ByteArray.empty, .agg #[.int .i64 0, .int .i64 0, .int .i64 0, .int .i64 0], .int .i64 0], []⟩).memory Tryd.f3.params.toList Rows.pathsSpec.vars false
    #[Value.string ByteArray.empty, .agg #[.int .i64 0, .int .i64 0, .int .i64 0, .int .i64 0], .int .i64 0].toList 8 = some ([.lit (.string []), .agg [.lit (.int .i64 0), .lit (.int .i64 0), .lit (.int .i64 0), .lit (.int .i64 0)], .lit (.int .i64 0)], [], places) :=
  ⟨[], by kernel_rfl⟩

set_option maxRecDepth 100000 in
theorem liftedUpto (os : Os) (started : os.Started) (H : Type) (enc : TypeId × Value → H) (F : Stop.Interp) :
    ReturnsInHanded {} Tryd.checked os 3 .any ((Rows.OpenSpec.upto Rows.pathsSpec).preRow enc Tryd.prog Tryd.f3 Rows.pathsUptoRow.domain false Rows.pathsUptoRow.laid) (((Rows.OpenSpec.upto Rows.pathsSpec).at F).post enc Tryd.prog Tryd.f3 false true false false) := by
  obtain ⟨places, hx⟩ := reads os enc
  refine returnsInHanded_of_row (C := Tryd.checked) (s := Rows.OpenSpec.upto Rows.pathsSpec) Tryd.own started (by kernel_rfl) Tryd.func3
    (witness_row_at (enc := enc) (C := Tryd.checked) false (World.doorLaid Tryd.prog 29 os) #[.string ByteArray.empty, .agg #[.int .i64 0, .int .i64 0, .int .i64 0, .int .i64 0], .int .i64 0] rfl (by kernel_rfl) (by kernel_rfl) (by kernel_rfl)
      (OpenSpec.preRow_of_cond 8 hx (by kernel_rfl) (fun k hk => by cases hk; kernel_rfl) (by kernel_rfl) (laid_met os))) ?_
  intro W base args ds gs before hval hW _ hcond _ hL _ _
  exact contract H enc W base args ds gs before hval hW (hcond _ rfl) hL

theorem saidUpto : Rows.PathsUptoSaid :=
  OpenClaim.holds_of_cond 3 Tryd.f3 rfl rfl rfl rfl rfl rfl rfl ⟨rfl, rfl, rfl, rfl, rfl⟩ rfl rfl rfl rfl rfl (by kernel_rfl) Tryd.func3 (by kernel_rfl)
    (of_decide_eq_true (by kernel_rfl)) (by unfold Func.isWrapper; first | (rw [if_pos (by decide +kernel)]; kernel_rfl) | (rw [if_neg (by decide +kernel)]; exact ⟨rfl, rfl⟩))
    (fun os started H enc _ F => by rw [OpenClaim.pre_eq_preRow]; exact liftedUpto os started H enc F)

theorem plain (f : FuncId) (fn : Func) (hf : Tryd.pinned.checked.prog.funcNamed "atlas/atlaslaw.Paths" = some f) (hfn : Tryd.pinned.checked.prog.funcs[f]? = some fn) :
    false = Tryd.pinned.checked.prog.looks [] ∧ ∀ (j : Nat) t, fn.params[j]? = some t → Tryd.pinned.checked.prog.wantsStandIn t = false := by
  obtain rfl : f = 3 := Option.some.inj ((show Tryd.prog.funcNamed "atlas/atlaslaw.Paths" = some 3 by kernel_rfl).symm.trans hf) |>.symm
  obtain rfl : fn = Tryd.f3 := (Option.some.inj (Tryd.func3.symm.trans hfn)).symm
  refine ⟨by kernel_rfl, fun j t ht => ?_⟩
  rw [Tryd.params3] at ht
  have hm : t ∈ [9, 23, 3] := by simpa using Array.mem_of_getElem? ht
  have hall : ([9, 23, 3].all fun u => !Tryd.prog.wantsStandIn u) = true := by kernel_rfl
  exact (show Tryd.prog.wantsStandIn t = false by simpa using List.all_eq_true.1 hall t hm)

theorem paths_upto_card : Rows.PathsUptoCardSaid :=
  Claim7.holds_tied_plain_at .later [] _ _ _ _ saidUpto (fun _ h => by cases h) (by kernel_rfl) (fun _ h => by cases h) pathsUpto_row_tie rfl ⟨rfl, rfl⟩ (by kernel_rfl) rfl plain (by kernel_rfl)
end Go.Proofs.YtacjjjjbfjkohaaDoor
