/-
  The texts FgG, FhA, FgI, FhC, FkO.
-/
import Derived.Test.YtpopchckldbhdaaGreatDoorKase06
namespace Go.Proofs.YtpopchckldbhdaaGreatDoor
open Go.RowKit
set_option maxRecDepth 20000
theorem tagB_ne (k : K4) (s : Int) : tagB k s ≠ ⟨#[]⟩ := by
  intro h
  have := congrArg (fun b : ByteArray => b.data.toList) h
  simp [tagB] at this
theorem prs0 : prs (⟨#[47, 108, 97, 110, 100, 47, 48, 47, 48, 47, 48, 46, 116, 105, 108, 101]⟩ : ByteArray) = (⟨0, 0, 0, 0⟩, 0) := by kernel_rfl
abbrev oneP (p : FM × BM) : FM × BM := arrB Oz p ⟨0, 0, 0, 0⟩ 0 ⟨#[]⟩
abbrev servP (p : FM × BM) : FM × BM := calmP Oz (oneP p)
theorem kok0 : KOk ⟨0, 0, 0, 0⟩ := ⟨by decide, by decide, by decide, by decide⟩
structure Srv (p q : FM × BM) : Prop where
  on : On (O := Oz) (oneP p) q
  rest : Rest q.1
  last : ∃ a s, q.2.reqs[p.2.reqs.length]? = some a /\ 0 <= a.said /\ a.e = 0 /\ q.2.says[a.said.toNat]? = some s /\ s.r.st = 200
  len : q.2.reqs.length = p.2.reqs.length + 1
  says : ∃ x, q.2.says = p.2.says ++ x /\ ∀ s ∈ x, s.r.st = 200
theorem served_math {p : FM × BM} (h : Inv Oz p.1 p.2) (hr : Rest p.1) : Srv p (servP p) := by
  have h1 : Inv Oz (oneP p).1 (oneP p).2 := h.arrB (Or.inl ⟨rfl, kok0⟩) ⟨#[]⟩
  obtain ⟨ho, hrest⟩ := calm_rest (oneP p) h1
  obtain ⟨⟨a, s, q1, q2, q3, _, q5, q6, _⟩, q9, q10⟩ := last_fine h (arr_plain h hr.waiting (tag := ⟨#[]⟩) (k := ⟨0, 0, 0, 0⟩) (fun e => tagB_ne _ _ e.symm)) ho hrest.waiting
  exact ⟨ho, hrest, ⟨a, s, q1, q2, q3, q5, q6⟩, q9, q10⟩
set_option maxHeartbeats 12800000 in
theorem served_any (n : Nat) (w0 : Bas) (bb fb : Nat) (F : FM) (M : BM) (w : World) (h : StE w0 w bb fb F M) (hi : Inv Oz F M) (hbd : Bd n F M) (hn : n <= 1410000000000) (hr : Rest F) :
    Calls Tryz.prog 10 #[.pointer (some ⟨bb, 0, none⟩)] w fun e w' => e = .returned (.bool true) /\ StE w0 w' bb fb (servP (F, M)).1 (servP (F, M)).2 := by
  have AR := arrive_any n w0 bb fb F M (⟨#[47, 108, 97, 110, 100, 47, 48, 47, 48, 47, 48, 46, 116, 105, 108, 101]⟩ : ByteArray) ⟨#[]⟩ w h hi hbd (by omega) (by unfold maxLen; decide)
  rw [prs0] at AR
  dsimp only at AR
  have hi1 : Inv Oz (oneP (F, M)).1 (oneP (F, M)).2 := Inv.arrB (p := (F, M)) hi (Or.inl ⟨rfl, kok0⟩) ⟨#[]⟩
  have hbd1 : Bd (n + 1) (oneP (F, M)).1 (oneP (F, M)).2 := Bd.arrB (p := (F, M)) hbd ⟨0, 0, 0, 0⟩ 0 ⟨#[]⟩
  have hsv := served_math (p := (F, M)) hi hr
  have HI1 := hide hi1
  have HBD1 := hide hbd1
  have hsz := (hsv.on.bd hbd1).said hsv.on.inv
  have HSV := hide hsv
  clear h hi hbd hr hi1 hbd1 hsv
  obtain ⟨z1, z2, _⟩ := hsz
  go_enter Tryz.func10, Tryz.ntmps10
  go_wp2_with fail
  refine AR.mono ?_
  rintro e w1 ⟨rfl, h1⟩
  have CA := calm_any (n + 1) w0 bb fb (oneP (F, M)).1 (oneP (F, M)).2 w1 h1 (unhide HI1) (unhide HBD1) (by omega)
  clear h1 AR HI1 HBD1
  go_wp2_with fail
  refine CA.mono ?_
  rintro e w2 ⟨rfl, h2⟩
  change StE w0 w2 bb fb (servP (F, M)).1 (servP (F, M)).2 at h2
  have HST := hide h2
  obtain ⟨a, s, q1, q2, q3, q4, q5⟩ := (unhide HSV).last
  have hlen := (unhide HSV).len
  obtain ⟨Φ, Ψ, B, WS, hS⟩ := h2
  obtain ⟨P, hP⟩ : ∃ P, servP (F, M) = P := ⟨_, rfl⟩
  rw [hP] at q1 q4 hlen hS z1 z2
  obtain ⟨m, hm⟩ : ∃ m, M.reqs.length = m := ⟨_, rfl⟩
  dsimp only at q1 hlen
  rw [hm] at q1 hlen
  obtain ⟨at_, ak, ae, av, an, aw, as'⟩ := a
  dsimp only at q2 q3 q4
  obtain ⟨sn, rfl⟩ : ∃ sn : Nat, as' = sn := ⟨as'.toNat, by omega⟩
  rw [Int.toNat_natCast] at q4
  subst q3
  obtain ⟨⟨who, st, bd, tg⟩, sv, sm, sb⟩ := s
  dsimp only at q5
  subst q5
  have hsl : sn < P.2.says.length := (List.getElem?_eq_some_iff.1 q4).1
  have hsi : (sn : Int) < (P.2.says.length : Int) := by omega
  have hmI : (m : Int) < (m : Int) + 1 := by omega
  obtain ⟨g8, off8, cap8, e8, hrg8, _⟩ := hS.bk.mem.req.spot q1
  obtain ⟨g9, off9, cap9, e9, hrg9, _⟩ := hS.bk.mem.say.spot q4
  rw [hlen] at e8
  have c8 : w2.cell? ⟨bb, 8, none⟩ = some (.slice (some ⟨g8, off8, none⟩) (m + 1) cap8) := by rw [<- e8]; exact hS.bk.blk.cells 8
  have c9 : w2.cell? ⟨bb, 9, none⟩ = some (.slice (some ⟨g9, off9, none⟩) P.2.says.length cap9) := by rw [<- e9]; exact hS.bk.blk.cells 9
  have c12 : w2.cell? ⟨bb, 12, none⟩ = some (.bool false) := hS.bk.blk.cells 12
  have ce : w2.cell? ⟨g8, off8 + m * 10 + 5, none⟩ = some (.int .i64 0) := hrg8 5 _ rfl
  have cs : w2.cell? ⟨g8, off8 + m * 10 + 9, none⟩ = some (.int .i64 sn) := hrg8 9 _ rfl
  have cst : w2.cell? ⟨g9, off9 + sn * 7 + 1, none⟩ = some (.int .i64 200) := hrg9 1 _ rfl
  have hm5 : m <= 1420000000000 := by omega
  have d0 : decide ((m : Int) < 0) = false := decide_eq_false (by omega)
  have d1 : ((sn : Int) == -1) = false := by simp
  have hov : IntKind.i64.wrap (m : Int) = (m : Int) := i64_of _ (by omega)
  clear hS hrg8 hrg9 e8 e9 CA q1 q2 q4 hm hlen z1 z2 HSV hsl hP
  go_wp2_with fail
  go_quiet (fail)
  have HSE := hide ((unhide HST).on (dnB w2 nq))
  go_wp2_with fail
  go_ret
  exact ⟨rfl, unhide HSE⟩
theorem ScAt.on {w w' : World} {oa : Option Addr} {cap : Nat} {L : List Stp} (h : ScAt w oa cap L) (hb : Below w.heap.size w w') : ScAt w' oa cap L := by
  refine ⟨h.len, fun hl => ?_, fun i s hi => ?_⟩
  . obtain ⟨b, off, e, hlt, hc⟩ := h.at_ hl
    exact ⟨b, off, e, Nat.lt_of_lt_of_le hlt hb.size, fun i s hi => rng_in (hc i s hi) hb hlt⟩
  . obtain ⟨k1, k2, k3, k4, k5, k6, k7⟩ := h.ok i s hi
    exact ⟨k1, k2, k3, k4, k5, k6.on hb, k7⟩
theorem al42 (ev : Operand -> Value) (o : Oper) (ho : o.op = .alloc 42) (w w1 : World) (h1 : w.alloc (.cells #[.string ⟨#[]⟩, .int .i64 0, .int .i64 0, .int .i64 0, .int .i64 0, .int .i64 0, .int .i64 0, .int .i64 0, .int .i64 0, .int .i64 0] 42) = w1) : (execOp ev o).run Tryz.prog w = .ok (.value (.pointer (some ⟨w.heap.size, 0, none⟩))) w1 := by
  rw [<- h1]
  unfold execOp
  simp only [ho]
  kernel_rfl
theorem sz42 (t : ByteArray) (a b c d e f g h i : Int) : (Tryz.prog.info? 42).map (·.size) = some (#[.string t, .int .i64 a, .int .i64 b, .int .i64 c, .int .i64 d, .int .i64 e, .int .i64 f, .int .i64 g, .int .i64 h, .int .i64 i] : Array Value).size := by kernel_rfl
theorem ask_one (t : ByteArray) (a b c d e f g h i : Int) : (#[.string t, .int .i64 a, .int .i64 b, .int .i64 c, .int .i64 d, .int .i64 e, .int .i64 f, .int .i64 g, .int .i64 h, .int .i64 i] : Array Value).all (·.oneCell') = true := by simp [Value.oneCell']
theorem ne_nil {a : ByteArray} (h : a ≠ ⟨#[]⟩) : a.toList.isEmpty = false := by
  rw [List.isEmpty_eq_false_iff]
  exact fun q => h (bytes_eq (by rw [q, ByteArray.toList_eq]))
theorem say_strings {F : FM} {s : Say} {a : Ask} (ho : Ok Oz F) (hk : a.e = 0 -> KOk a.k) (h : SayOk Oz F s a) : (s.r.st = 200 -> s.r.body ≠ ⟨#[]⟩ /\ s.r.tag ≠ ⟨#[]⟩) /\ (s.r.st = 304 -> s.r.tag ≠ ⟨#[]⟩) := by
  rcases h with g | g | g | g | g
  . have h1 := g.2.2.1
    constructor <;> intro q <;> rw [q] at h1 <;> split at h1 <;> omega
  . exact ⟨fun q => by have := g.2.2.1; omega, fun q => by have := g.2.2.1; omega⟩
  . obtain ⟨g1, _, g3, _, v, _, _, g7, g8, g9⟩ := g
    refine ⟨fun _ => ⟨fun q => ?_, fun q => ?_⟩, fun q => by omega⟩
    . have := (ho.hi.bod v g7 a.k (hk g1)).1
      rw [<- g8, q] at this
      exact absurd this (by decide)
    . rw [g9] at q; exact tagB_ne _ _ q
  . obtain ⟨g1, _, g3, _, _, _, v, _, _, g9⟩ := g
    exact ⟨fun q => by omega, fun _ q => by rw [g9] at q; exact tagB_ne _ _ q⟩
  . exact ⟨fun q => by have := g.2.2.1; omega, fun q => by have := g.2.2.1; omega⟩
set_option maxHeartbeats 25600000 in
theorem fits_any (n : Nat) (w0 : Bas) (bb fb : Nat) (F : FM) (M : BM) (j : Nat) (wn : Nat) (st : Int) (bd tg : ByteArray) (sv sm sb : Int) (w : World) (hst : StE w0 w bb fb F M) (hi : Inv Oz F M) (hbd : Bd n F M) (hn : n <= 1420000000000) (hs : M.says[j]? = some ⟨⟨wn, st, bd, tg⟩, sv, sm, sb⟩) :
    Calls Tryz.prog 12 #[.pointer (some ⟨bb, 0, none⟩), .agg #[.int .i64 (wn : Int), .int .i64 st, .string bd, .string tg, .int .i64 sv, .int .i64 sm, .int .i64 sb]] w fun e w' => e = .returned (.bool true) /\ Below w.heap.size w w' := by
  obtain ⟨_, _, _, a, ha, _, hok⟩ := hi.bi.say j _ hs
  dsimp only at ha
  rw [Int.toNat_natCast] at ha
  obtain ⟨_, _, n1, n2, hkk, _, _, _⟩ := hi.asks wn a ha
  have hstr := say_strings hi.ok hkk hok
  dsimp only at hstr
  have hwt := hi.ok.wt
  have hnow := hbd.now
  have hq8 := hi.ok.q
  obtain ⟨Φ, Ψ, B, WS, hS⟩ := hst
  obtain ⟨at_, ⟨al, az, ax, ay⟩, ae, av, an, aw, as_⟩ := a
  dsimp only at n1 n2
  have hwl : wn < M.reqs.length := (List.getElem?_eq_some_iff.1 ha).1
  have hwi : (wn : Int) < (M.reqs.length : Int) := by omega
  obtain ⟨w1, hw1⟩ : ∃ w1, w.alloc (.cells #[.int .i64 (wn : Int), .int .i64 st, .string bd, .string tg, .int .i64 sv, .int .i64 sm, .int .i64 sb] 37) = w1 := ⟨_, rfl⟩
  have hb1 : Below w.heap.size w w1 := hw1 ▸ (Below.refl w.heap.size w).alloc (Nat.le_refl _) (.cells #[.int .i64 (wn : Int), .int .i64 st, .string bd, .string tg, .int .i64 sv, .int .i64 sm, .int .i64 sb] 37)
  have hA1 : w1.heap[w.heap.size]? = some (.cells #[.int .i64 (wn : Int), .int .i64 st, .string bd, .string tg, .int .i64 sv, .int .i64 sm, .int .i64 sb] 37 (0, 0)) := hw1 ▸ heap_alloc_new w (.cells #[.int .i64 (wn : Int), .int .i64 st, .string bd, .string tg, .int .i64 sv, .int .i64 sm, .int .i64 sb] 37 (0, 0))
  have HBX := hide (show ∀ (W : World) (ev : Operand -> Value) (o : Oper) (p : Operand), o.op = .box 37 p -> ev p = .agg #[.int .i64 (wn : Int), .int .i64 st, .string bd, .string tg, .int .i64 sv, .int .i64 sm, .int .i64 sb] -> W = w -> (execOp ev o).run Tryz.prog W = .ok (.value (.pointer (some ⟨w.heap.size, 0, none⟩))) w1 from fun W ev o p q1 q2 e => by
    subst e
    rw [<- hw1]
    unfold execOp
    simp only [q1, q2]
    kernel_rfl)
  have hS1 := hS.on hb1
  obtain ⟨g8, off8, cap8, e8, hrg8, _⟩ := hS1.bk.mem.req.spot ha
  have c8 : w1.cell? ⟨bb, 8, none⟩ = some (.slice (some ⟨g8, off8, none⟩) M.reqs.length cap8) := by rw [<- e8]; exact hS1.bk.blk.cells 8
  have hlt8 : g8 < w1.heap.size := hS1.bk.mem.req.lt (by rw [e8]; rfl)
  have hltb : bb < w1.heap.size := blk_lt hS1.bk.blk
  have HALL := hide (show ∀ w', Below w1.heap.size w1 w' -> w'.cell? ⟨bb, 8, none⟩ = some (.slice (some ⟨g8, off8, none⟩) M.reqs.length cap8) /\ w'.cell? ⟨w.heap.size, 0, none⟩ = some (.int .i64 wn) /\ w'.rangeAt g8 (off8 + wn * 10) (#[.string at_, .int .i64 al, .int .i64 az, .int .i64 ax, .int .i64 ay, .int .i64 ae, .int .i64 av, .int .i64 an, .int .i64 aw, .int .i64 as_] : Array Value).toList from fun w' h => ⟨(h.cell (p := ⟨bb, 8, none⟩) hltb).trans c8, blk_cells (blk_on hA1 h) 0, rng_in hrg8 h hlt8⟩)
  have HCEL := hide (show ∀ W, Below w1.heap.size w1 W -> W.heap[w.heap.size]? = some (.cells #[.int .i64 (wn : Int), .int .i64 st, .string bd, .string tg, .int .i64 sv, .int .i64 sm, .int .i64 sb] 37 (0, 0)) /\ W.cell? ⟨bb, 1, none⟩ = some (.int .i64 F.queue) /\ W.cell? ⟨bb, 3, none⟩ = some (.int .i64 F.wait) from fun W h => ⟨blk_on hA1 h, (hS1.on h).cs.2.1, (hS1.on h).cs.2.2.2.1⟩)
  have HB1 := hide hb1
  have HOK := hide hok
  have HSTR := hide hstr
  clear hS hw1 hb1 hA1 hS1 e8 hrg8 c8 hlt8 hltb hi hbd hs ha hwl hok hkk hstr
  go_enter Tryz.func12, Tryz.ntmps12
  go_wp2_with (refine wlV _ _ (unhide HBX _ _ _ _ rfl rfl rfl) rfl ?_)
  refine wp_region_held (S := fun w' => w'.cell? ⟨bb, 8, none⟩ = some (.slice (some ⟨g8, off8, none⟩) M.reqs.length cap8) /\ w'.cell? ⟨w.heap.size, 0, none⟩ = some (.int .i64 wn) /\ w'.rangeAt g8 (off8 + wn * 10) (#[.string at_, .int .i64 al, .int .i64 az, .int .i64 ax, .int .i64 ay, .int .i64 ae, .int .i64 av, .int .i64 an, .int .i64 aw, .int .i64 as_] : Array Value).toList) (by kernel_rfl) ?_
  change wpAnyH _ _ _ _ _ _ _ _ (World.drew _)
  have hbD := (Below.refl w1.heap.size w1).drew
  generalize World.drew w1 = w2 at hbD ⊢
  have hS2 := unhide HALL w2 hbD
  obtain ⟨w3, hw3⟩ : ∃ w3, w2.alloc (.cells #[.string ⟨#[]⟩, .int .i64 0, .int .i64 0, .int .i64 0, .int .i64 0, .int .i64 0, .int .i64 0, .int .i64 0, .int .i64 0, .int .i64 0] 42) = w3 := ⟨_, rfl⟩
  have hb3 : Below w2.heap.size w2 w3 := hw3 ▸ (Below.refl w2.heap.size w2).alloc (Nat.le_refl _) (.cells #[.string ⟨#[]⟩, .int .i64 0, .int .i64 0, .int .i64 0, .int .i64 0, .int .i64 0, .int .i64 0, .int .i64 0, .int .i64 0, .int .i64 0] 42)
  have hA3 : w3.heap[w2.heap.size]? = some (.cells #[.string ⟨#[]⟩, .int .i64 0, .int .i64 0, .int .i64 0, .int .i64 0, .int .i64 0, .int .i64 0, .int .i64 0, .int .i64 0, .int .i64 0] 42 (0, 0)) := hw3 ▸ heap_alloc_new w2 (.cells #[.string ⟨#[]⟩, .int .i64 0, .int .i64 0, .int .i64 0, .int .i64 0, .int .i64 0, .int .i64 0, .int .i64 0, .int .i64 0, .int .i64 0] 42 (0, 0))
  obtain ⟨g1, hg⟩ : ∃ g1, w2.heap.size = g1 := ⟨_, rfl⟩
  have HAL := hide (show ∀ (ev : Operand -> Value) (o : Oper), o.op = .alloc 42 -> (execOp ev o).run Tryz.prog w2 = .ok (.value (.pointer (some ⟨g1, 0, none⟩))) w3 from fun ev o q => hg ▸ al42 ev o q w2 w3 hw3)
  rw [hg] at hA3
  obtain ⟨w4, hw4⟩ : ∃ w4, w3.setRow g1 #[.string at_, .int .i64 al, .int .i64 az, .int .i64 ax, .int .i64 ay, .int .i64 ae, .int .i64 av, .int .i64 an, .int .i64 aw, .int .i64 as_] = w4 := ⟨_, rfl⟩
  have hA4 : w4.heap[g1]? = some (.cells #[.string at_, .int .i64 al, .int .i64 az, .int .i64 ax, .int .i64 ay, .int .i64 ae, .int .i64 av, .int .i64 an, .int .i64 aw, .int .i64 as_] 42 (0, 0)) := hw4 ▸ setRow_heap _ _ _ #[.string at_, .int .i64 al, .int .i64 az, .int .i64 ax, .int .i64 ay, .int .i64 ae, .int .i64 av, .int .i64 an, .int .i64 aw, .int .i64 as_] _ _ hA3
  have hb4 : Below w2.heap.size w2 w4 := hw4 ▸ below_setRow hb3 (by omega) #[.string at_, .int .i64 al, .int .i64 az, .int .i64 ax, .int .i64 ay, .int .i64 ae, .int .i64 av, .int .i64 an, .int .i64 aw, .int .i64 as_]
  have HST := hide (show ∀ (ev : Operand -> Value) (o : Oper) (s t : Operand), o.op = .store 42 s t -> ev s = .pointer (some ⟨g1, 0, none⟩) -> ev t = .agg #[.string at_, .int .i64 al, .int .i64 az, .int .i64 ax, .int .i64 ay, .int .i64 ae, .int .i64 av, .int .i64 an, .int .i64 aw, .int .i64 as_] -> (execOp ev o).run Tryz.prog w3 = .ok .skip w4 from fun ev o s t q q1 q2 => hw4 ▸ stR ev o s t 42 q #[.string at_, .int .i64 al, .int .i64 az, .int .i64 ax, .int .i64 ay, .int .i64 ae, .int .i64 av, .int .i64 an, .int .i64 aw, .int .i64 as_] #[.string ⟨#[]⟩, .int .i64 0, .int .i64 0, .int .i64 0, .int .i64 0, .int .i64 0, .int .i64 0, .int .i64 0, .int .i64 0, .int .i64 0] (sz42 _ _ _ _ _ _ _ _ _ _) (ask_one _ _ _ _ _ _ _ _ _ _) rfl g1 q1 q2 w3 hA3)
  have hS3 := unhide HALL w3 (hbD.trans (hb3.mono hbD.size))
  have hb14 := hbD.trans (hb4.mono hbD.size)
  have hS4 := unhide HALL w4 hb14
  have H4 := hide (show Below w1.heap.size w1 w4 /\ w4.heap[g1]? = some (.cells #[.string at_, .int .i64 al, .int .i64 az, .int .i64 ax, .int .i64 ay, .int .i64 ae, .int .i64 av, .int .i64 an, .int .i64 aw, .int .i64 as_] 42 (0, 0)) from ⟨hb14, hA4⟩)
  clear hb3 hA3 hw4 hw3 hb4 hA4 hb14 hbD hg
  refine t_tk 0 rfl (.pointer (some ⟨bb, 0, none⟩)) (by kernel_rfl) (fun _ _ _ h => h) rfl (fun w' hw' => by simp [go_sem]) hS2 ?_
  simp only [Act.put, qA, qB, qC]
  refine t_tk 1 rfl (.pointer (some ⟨bb, 0, none⟩)) (by kernel_rfl) (fun _ _ _ h => h) rfl (fun w' hw' => by simp [go_sem]) hS2 ?_
  simp only [Act.put, qA, qB, qC]
  refine t_tk 2 rfl (.pointer (some ⟨bb, 8, none⟩)) (by kernel_rfl) (fun _ _ _ h => h) rfl (fun w' hw' => by simp [go_sem]) hS2 ?_
  simp only [Act.put, qA, qB, qC]
  refine t_tk 3 rfl (.slice (some ⟨g8, off8, none⟩) M.reqs.length cap8) (by kernel_rfl) (fun _ _ _ h => h) rfl (fun w' hw' => by simp [go_sem, hw'.1]) hS2 ?_
  simp only [Act.put, qA, qB, qC]
  refine t_tk 4 rfl (.pointer (some ⟨w.heap.size, 0, none⟩)) (by kernel_rfl) (fun _ _ _ h => h) rfl (fun w' hw' => by simp [go_sem]) hS2 ?_
  simp only [Act.put, qA, qB, qC]
  refine t_tk 5 rfl (.pointer (some ⟨w.heap.size, 0, none⟩)) (by kernel_rfl) (fun _ _ _ h => h) rfl (fun w' hw' => by simp [go_sem]) hS2 ?_
  simp only [Act.put, qA, qB, qC]
  refine t_tk 6 rfl (.int .i64 wn) (by kernel_rfl) (fun _ _ _ h => h) rfl (fun w' hw' => by simp [go_sem, hw'.2.1]) hS2 ?_
  simp only [Act.put, qA, qB, qC]
  refine t_tk 7 rfl (.pointer (some ⟨g8, off8 + wn * 10, none⟩)) (by kernel_rfl) (fun _ _ _ h => h) rfl (fun w' hw' => by simp [go_sem, hwi]) hS2 ?_
  simp only [Act.put, qA, qB, qC]
  refine t_tk 8 rfl (.agg #[.string at_, .int .i64 al, .int .i64 az, .int .i64 ax, .int .i64 ay, .int .i64 ae, .int .i64 av, .int .i64 an, .int .i64 aw, .int .i64 as_]) (by kernel_rfl) (fun _ _ _ h => h) rfl (fun w' hw' => ldcR _ _ _ 42 rfl _ rfl _ Tryz.underlying42 rfl (sz42 _ _ _ _ _ _ _ _ _ _) g8 (off8 + wn * 10) rfl _ hw'.2.2) hS2 ?_
  simp only [Act.put, qA, qB, qC]
  refine wpAnyH_all (rs := [9]) (by kernel_rfl) (by simp) ?_
  intro i hi
  simp only [List.mem_singleton] at hi
  subst hi
  refine t_op 9 rfl rfl (.pointer (some ⟨g1, 0, none⟩)) (w3) (unhide HAL _ _ rfl) (hS3) ?_
  simp only [Act.put, qA, qB, qC]
  refine wpAnyH_all (rs := [10]) (by kernel_rfl) (by simp) ?_
  intro i hi
  simp only [List.mem_singleton] at hi
  subst hi
  refine t_skip 10 rfl rfl (w4) (unhide HST _ _ _ _ rfl rfl rfl) (hS4) ?_
  simp only [Act.put]
  refine wpAnyH_done (by kernel_rfl) ?_ _
  clear HAL HST hS2 hS3 hS4
  obtain ⟨hb14, hA4⟩ := unhide H4
  obtain ⟨hA0, c1, c3⟩ := unhide HCEL w4 hb14
  have HB4 := hide ((unhide HB1).trans (hb14.mono (unhide HB1).size))
  have k1 : w4.cell? ⟨w.heap.size, 1, none⟩ = some (.int .i64 st) := blk_cells hA0 1
  have k2 : w4.cell? ⟨w.heap.size, 2, none⟩ = some (.string bd) := blk_cells hA0 2
  have k3 : w4.cell? ⟨w.heap.size, 3, none⟩ = some (.string tg) := blk_cells hA0 3
  have k5 : w4.cell? ⟨w.heap.size, 5, none⟩ = some (.int .i64 sm) := blk_cells hA0 5
  have k6 : w4.cell? ⟨w.heap.size, 6, none⟩ = some (.int .i64 sb) := blk_cells hA0 6
  have m0 : w4.cell? ⟨g1, 0, none⟩ = some (.string at_) := blk_cells hA4 0
  have m5 : w4.cell? ⟨g1, 5, none⟩ = some (.int .i64 ae) := blk_cells hA4 5
  have m7 : w4.cell? ⟨g1, 7, none⟩ = some (.int .i64 an) := blk_cells hA4 7
  have m8 : w4.cell? ⟨g1, 8, none⟩ = some (.int .i64 aw) := blk_cells hA4 8
  have hov : IntKind.i64.wrap (an + (F.wait : Int)) = an + (F.wait : Int) := i64_of _ (by omega)
  have hE : ∀ q, Below w.heap.size w (w4.drewN q) := fun q => (unhide HB4).trans ((dnB w4 q).mono (unhide HB4).size)
  have HE := hide hE
  clear hb14 hA4 hA0 H4 HCEL HALL hE HB1 HBX
  rcases unhide HOK with g | g | g | g | g
  . obtain ⟨g1, g2, g3, g4, g5⟩ := g
    dsimp only at g1 g2 g3 g4 g5
    subst g2 g4 g5
    by_cases e1 : ae = 1
    . subst e1
      have g3' : st = 400 := by simpa using g3
      subst g3'
      clear HOK HSTR g3
      go_wp2_with fail
      go_ret
      exact ⟨rfl, unhide HB4⟩
    . rw [if_neg e1] at g3
      subst g3
      have d1 : (ae == 1) = false := by simpa using e1
      have d0 : (ae == 0) = false := by simpa using g1
      clear HOK HSTR e1 g1
      go_wp2_with fail
      go_ret
      exact ⟨rfl, unhide HB4⟩
  . obtain ⟨g1, g2, g3, g4, g5, g6⟩ := g
    dsimp only at g1 g2 g3 g4 g5 g6
    subst g1 g2 g3 g4 g5 g6
    clear HOK HSTR
    go_wp2_with fail
    go_quiet (fail)
    have HX := hide (unhide HE nq)
    go_wp2_with fail
    go_ret
    exact ⟨rfl, unhide HX⟩
  . obtain ⟨g1, g2, g3, g4, _⟩ := g
    dsimp only at g1 g2 g3 g4
    subst g1 g3
    obtain ⟨hb, ht⟩ := (unhide HSTR).1 rfl
    have db := ne_nil hb
    have dt := ne_nil ht
    have d6 : (sb == 6) = false := by rcases g2 with rfl | rfl <;> rfl
    have dn : decide (an + (F.wait : Int) <= sm) = false := decide_eq_false (by omega)
    clear HOK HSTR g2 hb ht g4
    go_wp2_with fail
    go_quiet (fail)
    have HX := hide (unhide HE nq)
    have k1' : (w4.drewN nq).cell? ⟨w.heap.size, 1, none⟩ = some (.int .i64 200) := k1
    go_wp2_with fail
    go_ret
    exact ⟨rfl, unhide HX⟩
  . obtain ⟨g1, g2, g3, g4, g5, g6, _⟩ := g
    dsimp only at g1 g2 g3 g4 g5 g6
    subst g1 g2 g3 g5 g6
    have dt := ne_nil ((unhide HSTR).2 rfl)
    have dn : decide (an + (F.wait : Int) <= sm) = false := decide_eq_false (by omega)
    clear HOK HSTR g4
    go_wp2_with fail
    go_quiet (fail)
    have HX := hide (unhide HE nq)
    have k1' : (w4.drewN nq).cell? ⟨w.heap.size, 1, none⟩ = some (.int .i64 304) := k1
    have k6' : (w4.drewN nq).cell? ⟨w.heap.size, 6, none⟩ = some (.int .i64 1) := k6
    have k3' : (w4.drewN nq).cell? ⟨w.heap.size, 3, none⟩ = some (.string tg) := k3
    have m0' : (w4.drewN nq).cell? ⟨g1, 0, none⟩ = some (.string tg) := m0
    go_wp2_with fail
    go_ret
    exact ⟨rfl, unhide HX⟩
  . obtain ⟨g1, g2, g3, g4, g5, g6, g7⟩ := g
    dsimp only at g1 g2 g3 g4 g5 g6 g7
    subst g1 g2 g3 g5 g6 g7
    have dn : decide (an + (F.wait : Int) <= sm) = false := decide_eq_false (by omega)
    clear HOK HSTR g4
    go_wp2_with fail
    go_quiet (fail)
    obtain ⟨w5, hd, hX⟩ : ∃ W, w4.drewN nq = W /\ Below w.heap.size w W := ⟨_, rfl, unhide HE nq⟩
    have k1' : w5.cell? ⟨w.heap.size, 1, none⟩ = some (.int .i64 503) := hd ▸ k1
    have k6' : w5.cell? ⟨w.heap.size, 6, none⟩ = some (.int .i64 1) := hd ▸ k6
    have m8' : w5.cell? ⟨g1, 8, none⟩ = some (.int .i64 F.queue) := hd ▸ m8
    have c1' : w5.cell? ⟨bb, 1, none⟩ = some (.int .i64 F.queue) := hd ▸ c1
    rw [hd]
    have HX := hide hX
    clear hd hX
    go_wp2_with fail
    go_quiet (fail)
    have HY := hide ((unhide HX).trans ((dnB w5 nq).mono (unhide HX).size))
    go_wp2_with fail
    go_ret
    exact ⟨rfl, unhide HY⟩
theorem sz37 (a b : Int) (s t : ByteArray) (c d e : Int) : (Tryz.prog.info? 37).map (·.size) = some (#[.int .i64 a, .int .i64 b, .string s, .string t, .int .i64 c, .int .i64 d, .int .i64 e] : Array Value).size := by kernel_rfl
set_option maxHeartbeats 12800000 in
theorem once_any (q wk wt ca ch : Int) (oa : Option Addr) (cap : Nat) (L : List Stp) (w : World) (rq : -9223372036854775808 <= q /\ q <= 9223372036854775807) (rwk : -9223372036854775808 <= wk /\ wk <= 9223372036854775807) (rwt : -9223372036854775808 <= wt /\ wt <= 9223372036854775807) (rca : -9223372036854775808 <= ca /\ ca <= 9223372036854775807) (rch : -9223372036854775808 <= ch /\ ch <= 9223372036854775807) (hg : Glb w) (hs : ScAt w oa cap L) :
    Calls Tryz.prog 4 #[.agg #[.int .i64 q, .int .i64 wk, .int .i64 wt, .int .i64 ca, .int .i64 ch], .slice oa L.length cap] w fun e w' => e = .returned (.bool true) /\ Below w.heap.size w w' := by
  obtain ⟨w1, hw1⟩ : ∃ w1, w.alloc (.cells #[.int .i64 q, .int .i64 wk, .int .i64 wt, .int .i64 ca, .int .i64 ch] 23) = w1 := ⟨_, rfl⟩
  have hA : w1.heap[w.heap.size]? = some (.cells #[.int .i64 q, .int .i64 wk, .int .i64 wt, .int .i64 ca, .int .i64 ch] 23 (0, 0)) := hw1 ▸ heap_alloc_new w (.cells #[.int .i64 q, .int .i64 wk, .int .i64 wt, .int .i64 ca, .int .i64 ch] 23 (0, 0))
  have hb1 : Below w.heap.size w w1 := hw1 ▸ (Below.refl w.heap.size w).alloc (Nat.le_refl _) (.cells #[.int .i64 q, .int .i64 wk, .int .i64 wt, .int .i64 ca, .int .i64 ch] 23)
  have HBX := hide (show ∀ (W : World) (ev : Operand -> Value) (o : Oper) (p : Operand), o.op = .box 23 p -> ev p = .agg #[.int .i64 q, .int .i64 wk, .int .i64 wt, .int .i64 ca, .int .i64 ch] -> W = w -> (execOp ev o).run Tryz.prog W = .ok (.value (.pointer (some ⟨w.heap.size, 0, none⟩))) w1 from fun W ev o p q1 q2 e => by
    subst e
    rw [<- hw1]
    unfold execOp
    simp only [q1, q2]
    kernel_rfl)
  have hrg1 : w1.rangeAt w.heap.size 0 (#[.int .i64 q, .int .i64 wk, .int .i64 wt, .int .i64 ca, .int .i64 ch] : Array Value).toList := rng_blk hA
  have PL := play_any q wk wt ca ch oa cap L false (fun h => nomatch h) w1 rq rwk rwt rca rch (hg.on hb1) (hs.on hb1)
  have hln := hs.len
  have HB1 := hide hb1
  clear hw1 hA hb1 hg hs rq rwk rwt rca rch
  go_enter Tryz.func4, Tryz.ntmps4
  go_wp2_with (first | refine wlV _ _ (unhide HBX _ _ _ _ rfl rfl rfl) rfl ?_ | refine ldG 23 #[.int .i64 q, .int .i64 wk, .int .i64 wt, .int .i64 ca, .int .i64 ch] Tryz.underlying23 rfl (sz23 _ _ _ _ _) w.heap.size 0 hrg1 rfl _ rfl rfl ?_)
  refine PL.mono ?_
  rintro e w2 ⟨w0, bb, fb, F, M, rfl, hb0, hst, hi, hbd⟩
  have HB0 := hide (BelB.pre (unhide HB1) hb0)
  clear PL hb0 hrg1 HBX HB1
  have HI := hide hi
  have HBD := hide hbd
  have HST0 := hide hst
  have hsz0 := hbd.said hi
  have hrl : M.reqs.length <= 1420000000000 := by omega
  clear hst hi hbd hsz0
  go_wp2_with fail
  go_loopw [6, 7] (fun i _ wr => ∃ k : Nat, k <= M.reqs.length /\ i = .int .i64 k /\ Hid (StE w0 wr bb fb F M)) (fun i _ _ => M.reqs.length - (intOf i).toNat)
  case atStart => exact ⟨0, by omega, rfl, hide (unhide HST0)⟩
  case round =>
    obtain ⟨k, hk, rfl, hst⟩ := hrel
    obtain ⟨_, _, B, _, hS⟩ := unhide hst
    by_cases hlt : k < M.reqs.length
    . have hkn : (k : Int) < M.reqs.length := by omega
      obtain ⟨a, ha⟩ : ∃ a, M.reqs[k]? = some a := ⟨_, List.getElem?_eq_getElem hlt⟩
      have hdue : a.said = -1 -> (F.now : Int) < a.now + F.wait := fun hs => by
        have hm := (mem_unsaid F.wait M.reqs 0 ⟨((0 + k : Nat) : Int), a.k, a.ver, a.now + F.wait⟩).2 ⟨k, a, ha, hs, rfl⟩
        rw [<- (unhide HI).wai] at hm
        exact ((unhide HI).ok.req _ hm).1
      obtain ⟨_, _, n1, n2, _⟩ := (unhide HI).asks k a ha
      have hwt := (unhide HI).ok.wt
      have hnow := (unhide HBD).now
      obtain ⟨g8, off8, cap8, e8, hrg8, _⟩ := hS.bk.mem.req.spot ha
      have c8 : wr.cell? ⟨bb, 8, none⟩ = some (.slice (some ⟨g8, off8, none⟩) M.reqs.length cap8) := by rw [<- e8]; exact hS.bk.blk.cells 8
      obtain ⟨at_, ⟨al, az, ax, ay⟩, ae, av, an, aw, as_⟩ := a
      dsimp only at hdue n1 n2
      have hrg : wr.rangeAt g8 (off8 + k * 10) (#[.string at_, .int .i64 al, .int .i64 az, .int .i64 ax, .int .i64 ay, .int .i64 ae, .int .i64 av, .int .i64 an, .int .i64 aw, .int .i64 as_] : Array Value).toList := hrg8
      obtain ⟨w3, hw3⟩ : ∃ W', wr.alloc (.cells #[.string ⟨#[]⟩, .int .i64 0, .int .i64 0, .int .i64 0, .int .i64 0, .int .i64 0, .int .i64 0, .int .i64 0, .int .i64 0, .int .i64 0] 42) = W' := ⟨_, rfl⟩
      have hA3 : w3.heap[wr.heap.size]? = some (.cells #[.string ⟨#[]⟩, .int .i64 0, .int .i64 0, .int .i64 0, .int .i64 0, .int .i64 0, .int .i64 0, .int .i64 0, .int .i64 0, .int .i64 0] 42 (0, 0)) := hw3 ▸ heap_alloc_new wr (.cells #[.string ⟨#[]⟩, .int .i64 0, .int .i64 0, .int .i64 0, .int .i64 0, .int .i64 0, .int .i64 0, .int .i64 0, .int .i64 0, .int .i64 0] 42 (0, 0))
      have hb3 : Below wr.heap.size wr w3 := hw3 ▸ (Below.refl wr.heap.size wr).alloc (Nat.le_refl _) (.cells #[.string ⟨#[]⟩, .int .i64 0, .int .i64 0, .int .i64 0, .int .i64 0, .int .i64 0, .int .i64 0, .int .i64 0, .int .i64 0, .int .i64 0] 42)
      obtain ⟨g1, hg⟩ : ∃ g1, wr.heap.size = g1 := ⟨_, rfl⟩
      have HAL := hide (show ∀ (W : World) (ev : Operand -> Value) (o : Oper), o.op = .alloc 42 -> W = wr -> (execOp ev o).run Tryz.prog W = .ok (.value (.pointer (some ⟨g1, 0, none⟩))) w3 from fun W ev o q e => by subst e; exact hg ▸ al42 ev o q W w3 hw3)
      rw [hg] at hA3
      obtain ⟨w4, hw4⟩ : ∃ W', w3.setRow g1 #[.string at_, .int .i64 al, .int .i64 az, .int .i64 ax, .int .i64 ay, .int .i64 ae, .int .i64 av, .int .i64 an, .int .i64 aw, .int .i64 as_] = W' := ⟨_, rfl⟩
      have hA4 : w4.heap[g1]? = some (.cells #[.string at_, .int .i64 al, .int .i64 az, .int .i64 ax, .int .i64 ay, .int .i64 ae, .int .i64 av, .int .i64 an, .int .i64 aw, .int .i64 as_] 42 (0, 0)) := hw4 ▸ setRow_heap _ _ _ #[.string at_, .int .i64 al, .int .i64 az, .int .i64 ax, .int .i64 ay, .int .i64 ae, .int .i64 av, .int .i64 an, .int .i64 aw, .int .i64 as_] _ _ hA3
      have hb4 : Below wr.heap.size wr w4 := hw4 ▸ below_setRow hb3 (by omega) #[.string at_, .int .i64 al, .int .i64 az, .int .i64 ax, .int .i64 ay, .int .i64 ae, .int .i64 av, .int .i64 an, .int .i64 aw, .int .i64 as_]
      have HST := hide (show ∀ (W : World) (ev : Operand -> Value) (o : Oper) (s t : Operand), o.op = .store 42 s t -> ev s = .pointer (some ⟨g1, 0, none⟩) -> ev t = .agg #[.string at_, .int .i64 al, .int .i64 az, .int .i64 ax, .int .i64 ay, .int .i64 ae, .int .i64 av, .int .i64 an, .int .i64 aw, .int .i64 as_] -> W = w3 -> (execOp ev o).run Tryz.prog W = .ok .skip w4 from fun W ev o s t q q1 q2 e => by subst e; exact hw4 ▸ stR ev o s t 42 q #[.string at_, .int .i64 al, .int .i64 az, .int .i64 ax, .int .i64 ay, .int .i64 ae, .int .i64 av, .int .i64 an, .int .i64 aw, .int .i64 as_] #[.string ⟨#[]⟩, .int .i64 0, .int .i64 0, .int .i64 0, .int .i64 0, .int .i64 0, .int .i64 0, .int .i64 0, .int .i64 0, .int .i64 0] (sz42 _ _ _ _ _ _ _ _ _ _) (ask_one _ _ _ _ _ _ _ _ _ _) rfl g1 q1 q2 W hA3)
      have h4 := (unhide hst).on hb4
      have H4 := hide h4
      obtain ⟨_, _, B4, _, hS4⟩ := h4
      obtain ⟨_, _, _, k3, _, k7, _, _, _⟩ := hS4.cs
      have m9 : w4.cell? ⟨g1, 9, none⟩ = some (.int .i64 as_) := blk_cells hA4 9
      have m7 : w4.cell? ⟨g1, 7, none⟩ = some (.int .i64 an) := blk_cells hA4 7
      have hov : IntKind.i64.wrap (an + (F.wait : Int)) = an + (F.wait : Int) := i64_of _ (by omega)
      clear hS hS4 hrg8 e8 ha hw3 hA3 hb3 hg hw4 hA4 hb4
      by_cases hs : as_ = -1
      . have dn : decide (an + (F.wait : Int) <= (F.now : Int)) = false := decide_eq_false (by have := hdue hs; omega)
        subst hs
        clear hdue
        go_wp2_with (first | refine ldG 42 #[.string at_, .int .i64 al, .int .i64 az, .int .i64 ax, .int .i64 ay, .int .i64 ae, .int .i64 av, .int .i64 an, .int .i64 aw, .int .i64 (-1)] Tryz.underlying42 rfl (sz42 _ _ _ _ _ _ _ _ _ _) g8 (off8 + k * 10) hrg rfl _ rfl rfl ?_ | refine wlV _ _ (unhide HAL _ _ _ rfl rfl) rfl ?_ | refine wlSk _ (unhide HST _ _ _ _ _ rfl rfl rfl rfl) rfl ?_)
        go_quiet (fail)
        have HN := hide ((unhide H4).on (dnB w4 nq))
        go_wp2_with fail
        go_roundw
        case rel => exact ⟨k + 1, by omega, by go_num, hide (unhide HN)⟩
        case measure => simp [intOf]; omega
      . have dn : (as_ == -1) = false := by simpa using hs
        clear hdue hs
        go_wp2_with (first | refine ldG 42 #[.string at_, .int .i64 al, .int .i64 az, .int .i64 ax, .int .i64 ay, .int .i64 ae, .int .i64 av, .int .i64 an, .int .i64 aw, .int .i64 as_] Tryz.underlying42 rfl (sz42 _ _ _ _ _ _ _ _ _ _) g8 (off8 + k * 10) hrg rfl _ rfl rfl ?_ | refine wlV _ _ (unhide HAL _ _ _ rfl rfl) rfl ?_ | refine wlSk _ (unhide HST _ _ _ _ _ rfl rfl rfl rfl) rfl ?_)
        go_quiet (fail)
        have HN := hide ((unhide H4).on (dnB w4 nq))
        go_wp2_with fail
        go_roundw
        case rel => exact ⟨k + 1, by omega, by go_num, hide (unhide HN)⟩
        case measure => simp [intOf]; omega
    . have hkl : k = M.reqs.length := by omega
      obtain ⟨oa8, cap8, e8, _⟩ := hS.bk.mem.req.at
      have c8 : wr.cell? ⟨bb, 8, none⟩ = some (.slice oa8 M.reqs.length cap8) := by rw [<- e8]; exact hS.bk.blk.cells 8
      subst hkl
      have hst2 := unhide hst
      have hi := unhide HI
      have hbd := unhide HBD
      clear hS e8 HST0 hlt hk
      have hn : L.length <= 1400000000000 := hln
      have CA := calm_any L.length w0 bb fb F M wr hst2 hi hbd (by omega)
      obtain ⟨hon, hrest⟩ := calm_rest (F, M) hi
      have hbd1 := hon.bd hbd
      have HP := hide (show On (O := Oz) (F, M) (calmP Oz (F, M)) /\ Rest (calmP Oz (F, M)).1 /\ Bd L.length (calmP Oz (F, M)).1 (calmP Oz (F, M)).2 from ⟨hon, hrest, hbd1⟩)
      clear hst2 hi hbd hon hrest hbd1 hln hst HI HBD
      go_wp2_with fail
      refine CA.mono ?_
      rintro e w3 ⟨rfl, h3⟩
      obtain ⟨hon, hrest, hbd1⟩ := unhide HP
      have SV := served_any L.length w0 bb fb (calmP Oz (F, M)).1 (calmP Oz (F, M)).2 w3 h3 hon.inv hbd1 (by omega) hrest
      have hsv := served_math (p := calmP Oz (F, M)) hon.inv hrest
      have hbo : Bd (L.length + 1) (oneP (calmP Oz (F, M))).1 (oneP (calmP Oz (F, M))).2 := hbd1.arrB ⟨0, 0, 0, 0⟩ 0 ⟨#[]⟩
      have hbd2 := hsv.on.bd hbo
      have HSV := hide hsv
      have HBD2 := hide hbd2
      have HON := hide hon
      clear CA h3 hon hrest hbd1 hsv hbo hbd2 HP
      go_wp2_with fail
      refine SV.mono ?_
      rintro e w4 ⟨rfl, h4⟩
      change StE w0 w4 bb fb (servP (calmP Oz (F, M))).1 (servP (calmP Oz (F, M))).2 at h4
      obtain ⟨P, hP⟩ : ∃ P, servP (calmP Oz (F, M)) = P := ⟨_, rfl⟩
      rw [hP] at h4 HSV HBD2
      have hsz := (unhide HBD2).said (unhide HSV).on.inv
      have hpl : P.2.says.length <= 1420000000000 := by omega
      have hpr : P.2.reqs.length <= 1420000000000 := by omega
      have H4 := hide h4
      clear SV h4 hP HON hsz c8
      go_wp2_with fail
      go_loopw [9, 10] (fun i _ wr => ∃ k : Nat, k <= P.2.says.length /\ i = .int .i64 k /\ Hid (StE w0 wr bb fb P.1 P.2)) (fun i _ _ => P.2.says.length - (intOf i).toNat)
      case atStart => exact ⟨0, by omega, rfl, hide (unhide H4)⟩
      case round =>
        obtain ⟨k, hk, rfl, hst⟩ := hrel
        obtain ⟨_, _, B, _, hS⟩ := unhide hst
        have c12 := hS.cs.2.2.2.2.2.2.2.2
        by_cases hlt : k < P.2.says.length
        . have hkn : (k : Int) < P.2.says.length := by omega
          obtain ⟨⟨⟨who, st, bd, tg⟩, sv, sm, sb⟩, hsk⟩ : ∃ s, P.2.says[k]? = some s := ⟨_, List.getElem?_eq_getElem hlt⟩
          have hw0 := ((unhide HSV).on.inv.bi.say k _ hsk).1
          dsimp only at hw0
          obtain ⟨wn, rfl⟩ : ∃ wn : Nat, who = wn := ⟨who.toNat, by omega⟩
          obtain ⟨g9, off9, cap9, e9, hrg9, _⟩ := hS.bk.mem.say.spot hsk
          have c9 : wr.cell? ⟨bb, 9, none⟩ = some (.slice (some ⟨g9, off9, none⟩) P.2.says.length cap9) := by rw [<- e9]; exact hS.bk.blk.cells 9
          have hrg : wr.rangeAt g9 (off9 + k * 7) (#[.int .i64 (wn : Int), .int .i64 st, .string bd, .string tg, .int .i64 sv, .int .i64 sm, .int .i64 sb] : Array Value).toList := hrg9
          have FT := fits_any (L.length + 1) w0 bb fb P.1 P.2 k wn st bd tg sv sm sb wr (unhide hst) (unhide HSV).on.inv (unhide HBD2) (by omega) hsk
          clear hS hrg9 e9 hsk hw0
          go_wp2_with (refine ldG 37 #[.int .i64 (wn : Int), .int .i64 st, .string bd, .string tg, .int .i64 sv, .int .i64 sm, .int .i64 sb] Tryz.underlying37 rfl (sz37 _ _ _ _ _ _ _) g9 (off9 + k * 7) hrg rfl _ rfl rfl ?_)
          refine FT.mono ?_
          rintro e w5 ⟨rfl, hb5⟩
          have HN := hide ((unhide hst).on hb5)
          clear FT hb5 hrg c9 c12
          go_wp2_with fail
          go_roundw
          case rel => exact ⟨k + 1, by omega, by go_num, hide (unhide HN)⟩
          case measure => simp [intOf]; omega
        . have hkl : k = P.2.says.length := by omega
          obtain ⟨oa9, cap9, e9, _⟩ := hS.bk.mem.say.at
          have c9 : wr.cell? ⟨bb, 9, none⟩ = some (.slice oa9 P.2.says.length cap9) := by rw [<- e9]; exact hS.bk.blk.cells 9
          have HS3 := hide (unhide hst)
          subst hkl
          clear hS e9 hst H4 hlt hk
          go_wp2_with fail
          go_loopw [11] (fun i wr => ∃ k : Nat, k <= P.2.reqs.length /\ i = .int .i64 k /\ Hid (StE w0 wr bb fb P.1 P.2)) (fun i _ => P.2.reqs.length - (intOf i).toNat)
          case atStart => exact ⟨0, by omega, rfl, hide (unhide HS3)⟩
          case round =>
            clear c9 c12
            obtain ⟨k, hk, rfl, hst⟩ := hrel
            obtain ⟨_, _, B, _, hS⟩ := unhide hst
            by_cases hlt : k < P.2.reqs.length
            . have hkn : (k : Int) < P.2.reqs.length := by omega
              obtain ⟨a, ha⟩ : ∃ a, P.2.reqs[k]? = some a := ⟨_, List.getElem?_eq_getElem hlt⟩
              have hne := (unhide HSV).on.inv.allSaid (unhide HSV).rest.waiting k a ha
              have dn : (a.said == -1) = false := by simpa using hne
              obtain ⟨g8, off8, cap8, e8, hrg8, _⟩ := hS.bk.mem.req.spot ha
              have c8 : wr.cell? ⟨bb, 8, none⟩ = some (.slice (some ⟨g8, off8, none⟩) P.2.reqs.length cap8) := by rw [<- e8]; exact hS.bk.blk.cells 8
              have cs : wr.cell? ⟨g8, off8 + k * 10 + 9, none⟩ = some (.int .i64 a.said) := hrg8 9 _ rfl
              generalize a.said = as_ at *
              clear hS hrg8 e8 ha hne
              go_wp2_with fail
              go_roundw
              case rel => exact ⟨k + 1, by omega, by go_num, hide (unhide hst)⟩
              case measure => simp [intOf]; omega
            . have hkl : k = P.2.reqs.length := by omega
              obtain ⟨oa8, cap8, e8, _⟩ := hS.bk.mem.req.at
              have c8 : wr.cell? ⟨bb, 8, none⟩ = some (.slice oa8 P.2.reqs.length cap8) := by rw [<- e8]; exact hS.bk.blk.cells 8
              have c12 := hS.cs.2.2.2.2.2.2.2.2
              have HBE := hide ((unhide hst).below (unhide HB0))
              subst hkl
              clear hS e8 hst
              go_wp2_with fail
              go_ret
              exact ⟨rfl, unhide HBE⟩
end Go.Proofs.YtpopchckldbhdaaGreatDoor
namespace Go.Proofs.YtpopchckldbhdaaGreatDoor
set_option maxRecDepth 20000
open Go.ChangeShapes Go.WideShapes Go.ChangeAt Go.RowKit Go.Joins
open Go.ChangeMaps (open_string shut_string)
theorem once_contract (H : Type) (enc : TypeId × Value -> H) (W : World) (base : Nat) (args : Array Value) (ds gs : List (DataW H)) (before : List MemPlace)
    (hval : ∀ (j : Nat) t v, Tryz.f4.params[j]? = some t -> args[j]? = some v -> Value.okWide Tryz.prog W .any base t v)
    (hW : DataW.Whole enc Tryz.prog Tryz.f4.params.toList Rows.onceSpec.vars false W args.toList ds gs before) (hsz : (DataW.weightsEach Tryz.prog (Tryz.f4.params.toList ++ (OpenSpec.ofChange Rows.onceSpec).bare.plain.varTypes Tryz.prog) (ds ++ gs)).all (· <= reachBytes) = true) (hL : laidMetH Tryz.prog Rows.onceRow.laid W) :
    Calls Tryz.prog 4 args W fun e W' => ∃ v, e = .returned v /\ Rows.onceSpec.post enc Tryz.prog Tryz.f4 false true false false W args v W' := by
  have hW' := hW
  obtain ⟨p, q, hA0, hV, rfl, hfz, hnd⟩ := hW
  have hA : DataW.TrodAll enc Tryz.prog W 0 (fun _ => true) true Tryz.f4.params.toList args.toList ds p := hA0
  rw [Tryz.params4] at hA hval
  obtain ⟨v0, v1, d0, d1, p0, p1, rfl, rfl, rfl, h0, h1⟩ := trodAll_two hA
  obtain ⟨rfl, rfl⟩ := trodVars_none hV
  clear hA0
  obtain ⟨cq, wk, wt, ca, ch, rfl, r1, r2, r3, r4, r5⟩ := open_config (hval 0 23 v0 rfl rfl) h0
  have hb : ∀ elems spare, d1 = .slice elems spare -> (elems.length + spare.length) * 104 <= 140737488351232 := fun elems spare e => by
    subst e
    have := sized_slice hsz (j := 1) rfl rfl Tryz.underlying24
    rw [bytes63] at this
    unfold reachBytes at this
    omega
  obtain ⟨oa, cap, L, rfl, hs⟩ := open_scriptS (hval 1 24 v1 rfl rfl) h1 hb
  refine (once_any cq wk wt ca ch oa cap L W r1 r2 r3 r4 r5 (glb_of (show laidMetH Tryz.prog Rows.freshUptoRow.laid W from hL)) hs).mono fun e W' ⟨he, bel⟩ => ?_
  subst he
  exact ⟨_, rfl, law_post hW' rfl rfl (by kernel_rfl) (fun gs' e => by subst e; rfl) bel⟩
theorem once_met (os : Os) : laidMet Tryz.prog Rows.onceRow.laid ((World.doorLaid Tryz.prog 29 os).forCall (fun _ _ => 0) ⟨#[], #[.agg #[.int .i64 0, .int .i64 0, .int .i64 0, .int .i64 0, .int .i64 0], .slice none 0 0], []⟩).memory :=
  laidMet_of_run' 8 (by kernel_rfl) (by kernel_rfl)
theorem once_reads (os : Os) {H : Type} (enc : TypeId × Value -> H) : ∃ places, DataW.whole enc Tryz.prog ((World.doorLaid Tryz.prog 29 os).forCall (fun _ _ => 0) ⟨#[], #[.agg #[.int .i64 0, .int .i64 0, .int .i64 0, .int .i64 0, .int .i64 0], .slice none 0 0], []⟩).memory Tryz.f4.params.toList Rows.onceSpec.vars false
    #[.agg #[.int .i64 0, .int .i64 0, .int .i64 0, .int .i64 0, .int .i64 0], .slice none 0 0].toList 8 = some ([.agg [.lit (.int .i64 0), .lit (.int .i64 0), .lit (.int .i64 0), .lit (.int .i64 0), .lit (.int .i64 0)], .nil], [], places) :=
  ⟨[], by kernel_rfl⟩
set_option maxRecDepth 100000 in
theorem once_lifted (os : Os) (started : os.Started) (H : Type) (enc : TypeId × Value -> H) (F : Stop.Interp) :
    ReturnsInHanded {} Tryz.checked os 4 .any ((OpenSpec.ofChange Rows.onceSpec).preRow enc Tryz.prog Tryz.f4 Rows.onceRow.domain false Rows.onceRow.laid) (((OpenSpec.ofChange Rows.onceSpec).at F).post enc Tryz.prog Tryz.f4 false true false false) := by
  obtain ⟨places, hx⟩ := once_reads os enc
  refine returnsInHanded_of_row (C := Tryz.checked) (s := OpenSpec.ofChange Rows.onceSpec) Tryz.own started (by kernel_rfl) Tryz.func4
    (witness_row_at (enc := enc) (C := Tryz.checked) false (World.doorLaid Tryz.prog 29 os) #[.agg #[.int .i64 0, .int .i64 0, .int .i64 0, .int .i64 0, .int .i64 0], .slice none 0 0] rfl (by kernel_rfl) (by kernel_rfl) (by kernel_rfl)
      (OpenSpec.preRow_of_cond 8 hx (by kernel_rfl) (fun k hk => by cases hk) (by kernel_rfl) (once_met os))) ?_
  intro W base args ds gs before hval hW _ _ hsz hL _ _
  exact once_contract H enc W base args ds gs before hval hW hsz hL
theorem once_said : Rows.OnceSaid :=
  OpenClaim.holds_of_cond 4 Tryz.f4 rfl rfl rfl rfl rfl rfl rfl ⟨rfl, rfl, rfl, rfl, rfl⟩ rfl rfl rfl rfl rfl (by kernel_rfl) Tryz.func4 (by kernel_rfl)
    (of_decide_eq_true (by kernel_rfl)) (by unfold Func.isWrapper; first | (rw [if_pos (by decide +kernel)]; kernel_rfl) | (rw [if_neg (by decide +kernel)]; exact ⟨rfl, rfl⟩))
    (fun os started H enc _ F => by rw [OpenClaim.pre_eq_preRow]; exact once_lifted os started H enc F)
theorem once_plain (f : FuncId) (fn : Func) (hf : Tryz.pinned.checked.prog.funcNamed "atlas/atlaskeep.Once" = some f) (hfn : Tryz.pinned.checked.prog.funcs[f]? = some fn) :
    false = Tryz.pinned.checked.prog.looks [] /\ ∀ (j : Nat) t, fn.params[j]? = some t -> Tryz.pinned.checked.prog.wantsStandIn t = false := by
  obtain rfl : f = 4 := Option.some.inj ((show Tryz.prog.funcNamed "atlas/atlaskeep.Once" = some 4 by kernel_rfl).symm.trans hf) |>.symm
  obtain rfl : fn = Tryz.f4 := (Option.some.inj (Tryz.func4.symm.trans hfn)).symm
  refine ⟨by kernel_rfl, fun j t ht => ?_⟩
  rw [Tryz.params4] at ht
  have hm : t ∈ [23, 24] := by simpa using Array.mem_of_getElem? ht
  have hall : ([23, 24].all fun u => !Tryz.prog.wantsStandIn u) = true := by kernel_rfl
  exact (show Tryz.prog.wantsStandIn t = false by simpa using List.all_eq_true.1 hall t hm)
theorem once_card : Rows.OnceCardSaid :=
  Claim7.holds_tied_plain_at .later [] _ _ _ _ once_said (fun _ h => by cases h) (by kernel_rfl) (fun _ h => by cases h) once_row_tie rfl ⟨rfl, rfl⟩ (by kernel_rfl) rfl once_plain (by kernel_rfl)
end Go.Proofs.YtpopchckldbhdaaGreatDoor
