/-
  The texts StG, StH, StJ, StK, StL, StM, KpA, KpB, KpC, KpE, KpF, FbA, FbB, FbC, FbD, FbE, FrJ.
-/
import Derived.Test.YtpopchckldbhdaaGreatDoorLase01
namespace Go.Proofs.YtpopchckldbhdaaGreatDoor
open Go.RowKit
set_option maxRecDepth 20000
theorem OwnC.cap {T : TypeId} {m : Nat} {w : World} {B k cap : Nat} {oa : Option Addr} {l : List (Nat -> Int)} (h : OwnC T m w B (.slice oa k cap) l) : l.length <= cap := by
  rcases h.2 with ⟨_,e⟩ | ⟨g,cap',cur,hv,_,_,hc,_⟩
  . omega
  . simp only [Value.slice.injEq] at hv
    omega
def At (FL : List (Nat -> Int)) (id : Int) (i : Nat) : Prop := i < FL.length /\ gf FL i 0 = id /\ ∀ j,j < i -> gf FL j 0 ≠ id
def No (FL : List (Nat -> Int)) (id : Int) : Prop := ∀ i,i < FL.length -> gf FL i 0 ≠ id
def EdR (e : Nat -> Int) (FL FL' : List (Nat -> Int)) : Prop :=
  (e 0 = 0 /\ ∃ i,At FL (e 1) i /\ FL' = FL.set i (eF e)) \/ (e 0 = 0 /\ No FL (e 1) /\ FL.length < 40 /\ FL' = FL ++ [eF e]) \/
  (e 0 = 1 /\ ∃ i,At FL (e 1) i /\ FL' = (FL.set i (gf FL (FL.length - 1))).dropLast)
def EdN (e : Nat -> Int) (FL : List (Nat -> Int)) : Prop :=
  (e 0 = 0 /\ No FL (e 1) /\ 40 <= FL.length) \/ (e 0 = 1 /\ No FL (e 1)) \/ (e 0 ≠ 0 /\ e 0 ≠ 1)
def EdK (es : Nat -> Nat -> Int) (L : List (Nat -> Int)) : Nat -> List (Nat -> Int) -> Prop
  | 0,FL => FL = L
  | k + 1,FL => ∃ FLm,EdK es L k FLm /\ EdR (es k) FLm FL
theorem EdR.len {e : Nat -> Int} {FL FL' : List (Nat -> Int)} (h : EdR e FL FL') (hl : FL.length <= 40) : FL'.length <= 40 := by
  rcases h with ⟨_,i,_,rfl⟩ | ⟨_,_,h,rfl⟩ | ⟨_,i,_,rfl⟩
  . simpa using hl
  . simp; omega
  . simp; omega
theorem EdK.len {es : Nat -> Nat -> Int} {L : List (Nat -> Int)} (hl : L.length <= 40) : ∀ {k : Nat} {FL : List (Nat -> Int)},EdK es L k FL -> FL.length <= 40
  | 0,_,h => by rw [show _ = L from h]; exact hl
  | k + 1,_,h => by
    obtain ⟨FLm,h1,h2⟩ := h
    exact h2.len (EdK.len hl h1)
def EdA (es : Nat -> Nat -> Int) (L : List (Nat -> Int)) (n : Nat) (w : World) (e : Ending) (w' : World) : Prop :=
  Below w.heap.size w w' /\ ((∃ FL v',e = .returned (.tuple #[v',.bool true]) /\ EdK es L n FL /\ OwnC 86 24 w' w.heap.size v' FL) \/
    ∃ k FLk,k < n /\ EdK es L k FLk /\ EdN (es k) FLk /\ e = .returned (.tuple #[.slice none 0 0,.bool false]))
set_option maxRecDepth 10000 in
set_option maxHeartbeats 6400000 in
theorem edited_any (v : Value) (L : List (Nat -> Int)) (bo : Option Addr) (n bc : Nat) (es : Nat -> Nat -> Int) (w : World) (hv : CsAt 24 w v L.length (gf L)) (hne : v = .slice none 0 0 \/ ∃ b off c,v = .slice (some ⟨b,off,none⟩) L.length c) (hl : L.length <= 40) (hbt : CsAt 25 w (.slice bo n bc) n es) (hn : n <= 8) :
    Calls Tryz.prog 65 #[v,.slice bo n bc] w fun e w' => EdA es L n w e w' := by
  obtain ⟨v1,w1,hr1,ho1,hg1⟩ := run_apFs w w.heap.size v L hv hne (by omega) (Nat.le_refl _)
  have hb1 := (Below.refl w.heap.size w).grown hg1 (Nat.le_refl _) (fun k hk => by cases hk)
  have hbb := hbt.on hb1
  obtain ⟨_,_,e,_,hc⟩ := hbb
  simp only [Value.slice.injEq,true_and] at e
  obtain ⟨rfl,rfl⟩ := e
  have HC := hide hc
  have HC1 : Hid (0 < n -> ∃ b off,bo = some ⟨b,off,none⟩ /\ b < w.heap.size) := by
    obtain ⟨_,_,e,_,h⟩ := hbt
    simp only [Value.slice.injEq,true_and] at e
    obtain ⟨rfl,rfl⟩ := e
    intro h0
    obtain ⟨b,off,e,hb,_⟩ := h h0
    exact ⟨b,off,e,hb⟩
  have HO1 := hide ho1
  have HB1 := hide hb1
  clear hc hg1 hb1 ho1 hv hne hbt
  go_enter Tryz.func65,Tryz.ntmps65
  go_wp2_with (at_builtin; refine wl_apF hr1 rfl (.tmp 10) (.tmp 11) rfl rfl rfl rfl ?_)
  go_loopw [6,7,8,9] (fun ov i _ _ wr => ∃ (k : Nat) (FL : List (Nat -> Int)),k <= n /\ i = .int .i64 k /\ Hid (EdK es L k FL) /\ OwnC 86 24 wr w.heap.size ov FL /\ Below w.heap.size w wr) (fun _ i _ _ _ => n - (intOf i).toNat)
  case atStart => exact ⟨0,L,by omega,rfl,hide rfl,unhide HO1,unhide HB1⟩
  case round =>
    obtain ⟨k,FL,hk,rfl,hE,ho,hb⟩ := hrel
    clear hr1
    have hfl := (unhide hE).len hl
    have hfs := ho.at (by unfold maxLen; omega)
    by_cases hlt : k < n
    . have hkn : (k : Int) < n := by omega
      obtain ⟨b,off,rfl,_,hc0⟩ := unhide HC (by omega)
      obtain ⟨b',off',e,hbl⟩ := unhide HC1 (by omega)
      simp only [Option.some.injEq,Addr.mk.injEq,and_true] at e
      obtain ⟨rfl,rfl⟩ := e
      have hcw : ∀ i,i < n -> ∀ j,j < 25 -> wr.cell? ⟨b,off + i * 25 + j,none⟩ = some (.int .i64 (es i j)) := fun i hi j hj => ((hb.cell (p := ⟨b,off + i * 25 + j,none⟩) hbl).trans ((unhide HB1).cell (p := ⟨b,off + i * 25 + j,none⟩) hbl).symm).trans (hc0 i hi j hj)
      have c0 := hcw k hlt 0 (by omega)
      have c1 := hcw k hlt 1 (by omega)
      have hrg := eF_rng hcw hlt
      simp only [Nat.add_zero] at c0
      obtain ⟨O,hO⟩ : ∃ O,es k 0 = O := ⟨_,rfl⟩
      obtain ⟨I,hI⟩ : ∃ O,es k 1 = O := ⟨_,rfl⟩
      rw [hO] at c0
      rw [hI] at c1
      have HHA := hide (has_any u6 FL.length (gf FL) I wr hfs)
      have HOW := hide ho
      have HBr := hide hb
      have HFS := hide hfs
      clear hc0 hcw hb ho hfs
      obtain ⟨oa6,cap6,rfl,_,_⟩ := unhide HFS
      go_wp2_with fail
      refine (unhide HHA).mono ?_
      rintro e w9 ⟨⟨r,rfl,hr⟩,rfl⟩
      have HR := hide hr
      clear hr HHA
      by_cases hO0 : O = 0
      . rcases unhide HR with ⟨rfl,hno⟩ | ⟨i,rfl,hi,hid,hfst⟩
        . by_cases h40 : FL.length < 40
          . have h40' : (FL.length : Int) < 40 := by omega
            have HE : Hid (EdR (es k) FL (FL ++ [eF (es k)])) := Or.inr (Or.inl ⟨hO.trans hO0,fun i hi => by rw [hI]; exact hno i hi,h40,rfl⟩)
            subst hO0
            have hA := heap_alloc_new wr (.cells (fc (eF (es k))) 86 (0,0))
            have hs2 : w.heap.size <= wr.heap.size := (unhide HBr).size
            obtain ⟨v7,w7,hr7,ho7,hg7⟩ := run_apF (wr.alloc (.cells (fc (eF (es k))) 86)) w.heap.size (.slice oa6 FL.length cap6) FL [eF (es k)] ((unhide HOW).alloc _) wr.heap.size 0 1 (fun i hi j hj => by
              obtain rfl : i = 0 := by simp at hi; omega
              rw [blk_cells hA]
              simpa [gf] using fc_at (eF (es k)) j hj) (by simp; omega) (by simp; omega)
            have hb7 := ((unhide HBr).alloc hs2 (.cells (fc (eF (es k))) 86)).grown hg7 (by simp; omega) (fun q hq => ((unhide HOW).lt q hq).1)
            have HB7 := hide hb7
            have HO7 := hide ho7
            clear hb7 ho7 hg7 hA hno HR
            go_wp2_with (first | refine ldm26 rfl _ rfl b (off + k * 25 + 1) rfl (eF (es k)) hrg ?_ | refine bs34 rfl _ rfl (eF (es k)) rfl _ rfl ?_ | (at_builtin; refine wl_apF hr7 rfl (.tmp 58) (.tmp 64) rfl rfl rfl rfl ?_))
            go_roundw
            case rel => exact ⟨k + 1,FL ++ [eF (es k)],by omega,by go_num,hide ⟨FL,unhide hE,unhide HE⟩,unhide HO7,unhide HB7⟩
            case measure => simp [intOf]; omega
          . have h40' : ¬ (FL.length : Int) < 40 := by omega
            have HH : Hid (EdA es L n w (.returned (.tuple #[.slice none 0 0,.bool false])) wr) := ⟨unhide HBr,Or.inr ⟨k,FL,hlt,unhide hE,Or.inl ⟨hO.trans hO0,fun i hi => by rw [hI]; exact hno i hi,by omega⟩,rfl⟩⟩
            subst hO0
            clear hno HR
            go_wp2_with fail
            go_ret2
            exact unhide HH
        . have HE : Hid (EdR (es k) FL (FL.set i (eF (es k)))) := Or.inl ⟨hO.trans hO0,i,⟨hi,by rw [hI]; exact hid,fun j hj => by rw [hI]; exact hfst j hj⟩,rfl⟩
          obtain ⟨g,cap',e,hB,hgl⟩ := (unhide HOW).form (by omega)
          simp only [Value.slice.injEq,true_and] at e
          obtain ⟨rfl,rfl⟩ := e
          have hin : (i : Int) < FL.length := by omega
          have hrow := (unhide HOW).row i hi (by omega) (eF (es k))
          have hb7 := (unhide HBr).grown hrow.2 (unhide HBr).size (fun q hq => by obtain rfl := Option.some.inj hq; exact hB)
          have HO7 := hide hrow.1
          have HB7 := hide hb7
          have hlen7 : (FL.set i (eF (es k))).length = FL.length := by simp
          clear hb7 hrow hid hfst HR
          subst hO0
          have hown := unhide HOW
          go_wp2_with (first | refine ldm26 rfl _ rfl b (off + k * 25 + 1) rfl (eF (es k)) hrg ?_ | refine st_row rfl _ _ rfl hown i hi (eF (es k)) rfl rfl ?_)
          go_roundw
          case rel => exact ⟨k + 1,FL.set i (eF (es k)),by omega,by go_num,hide ⟨FL,unhide hE,unhide HE⟩,unhide HO7,unhide HB7⟩
          case measure => simp [intOf]; omega
      . by_cases hO1 : O = 1
        . rcases unhide HR with ⟨rfl,hno⟩ | ⟨i,rfl,hi,hid,hfst⟩
          . have HH : Hid (EdA es L n w (.returned (.tuple #[.slice none 0 0,.bool false])) wr) := ⟨unhide HBr,Or.inr ⟨k,FL,hlt,unhide hE,Or.inr (Or.inl ⟨hO.trans hO1,fun i hi => by rw [hI]; exact hno i hi⟩),rfl⟩⟩
            subst hO1
            clear hno HR
            go_wp2_with fail
            go_ret2
            exact unhide HH
          . have HE : Hid (EdR (es k) FL (FL.set i (gf FL (FL.length - 1))).dropLast) := Or.inr (Or.inr ⟨hO.trans hO1,i,⟨hi,by rw [hI]; exact hid,fun j hj => by rw [hI]; exact hfst j hj⟩,rfl⟩)
            obtain ⟨g,cap',e,hB,hgl⟩ := (unhide HOW).form (by omega)
            simp only [Value.slice.injEq,true_and] at e
            obtain ⟨rfl,rfl⟩ := e
            obtain ⟨N,hN⟩ : ∃ N,FL.length = N + 1 := ⟨FL.length - 1,by omega⟩
            have hin : (i : Int) < FL.length := by omega
            have hrow := (unhide HOW).row i hi (by omega) (gf FL (FL.length - 1))
            have hb7 := (unhide HBr).grown hrow.2 (unhide HBr).size (fun q hq => by obtain rfl := Option.some.inj hq; exact hB)
            have hpop := OwnC.pop (n := N) (l := FL.set i (gf FL (FL.length - 1))) (by have := hrow.1; simpa only [hN] using this) (by simp [hN])
            have HO7 := hide hpop
            have HB7 := hide hb7
            have hrl : wr.rangeAt g (N * 24) (fc (gf FL N)).toList := by
              obtain ⟨_,_,e,_,hcc⟩ := unhide HFS
              simp only [Value.slice.injEq,true_and] at e
              obtain ⟨rfl,rfl⟩ := e
              obtain ⟨b2,off2,e,_,hcc⟩ := hcc (by omega)
              simp only [Option.some.injEq,Addr.mk.injEq,and_true] at e
              obtain ⟨rfl,rfl⟩ := e
              have := fs_rng (k := N) hcc (by omega)
              rwa [Nat.zero_add] at this
            clear hb7 hrow hpop hid hfst HR
            subst hO1
            have hown := unhide HOW
            have hi0 := hi
            have hcap := (unhide HOW).cap
            have hcap' : N <= cap6 := by omega
            clear hcap
            rw [hN] at hin hi HO7 HB7 HE ⊢
            simp only [Nat.add_sub_cancel] at HO7 HB7 HE
            go_wp2_with (first | refine ldm26 rfl _ rfl g (N * 24) rfl (gf FL N) hrl ?_ | refine st_row rfl _ _ rfl hown i hi0 (gf FL N) rfl rfl ?_)
            go_roundw
            case rel => exact ⟨k + 1,(FL.set i (gf FL N)).dropLast,by omega,by go_num,hide ⟨FL,unhide hE,unhide HE⟩,unhide HO7,unhide HB7⟩
            case measure => simp [intOf]; omega
        . have HH : Hid (EdA es L n w (.returned (.tuple #[.slice none 0 0,.bool false])) wr) := ⟨unhide HBr,Or.inr ⟨k,FL,hlt,unhide hE,Or.inr (Or.inr ⟨by rw [hO]; exact hO0,by rw [hO]; exact hO1⟩),rfl⟩⟩
          go_wp2_with fail
          go_ret2
          exact unhide HH
    . have hkn : k = n := by omega
      subst hkn
      have HH : Hid (EdA es L k w (.returned (.tuple #[u6,.bool true])) wr) := ⟨hb,Or.inl ⟨FL,u6,rfl,unhide hE,ho⟩⟩
      clear hfs
      go_wp2_with fail
      go_ret2
      exact unhide HH
theorem New_any (k : Int) (w : World) (h : 0 <= k /\ k <= 4) :
    Calls Tryz.prog 70 #[.int .i64 k] w fun e w' => e = .returned (.tuple #[.pointer (some ⟨w.heap.size,0,none⟩),.int .i64 0]) /\ w' = w.alloc (.cells #[.int .i64 k,.int .i64 0,.slice none 0 0,.slice none 0 0] 133) := by
  go_enter Tryz.func70,Tryz.ntmps70
  go_wp2
  go_ret2
  exact ⟨rfl,rfl⟩
def lc (v : Int) (g : Nat -> Int) : Int := if g 25 ≠ 0 /\ g 25 <= v then g 25 else if g 24 <= v then g 24 else 0
set_option maxHeartbeats 1600000 in
theorem lastChange_any (g : Nat -> Int) (v : Int) (w : World) :
    Calls Tryz.prog 134 #[.agg (cc 26 g),.int .i64 v] w fun e w' => e = .returned (.int .i64 (lc v g)) /\ Below w.heap.size w w' := by
  have c25 := cc_at 26 g 25 (by decide)
  have c24 := cc_at 26 g 24 (by decide)
  have HB := hide (below_one w (.cells (cc 26 g) 195))
  obtain ⟨G,hG⟩ : ∃ G,g 25 = G := ⟨_,rfl⟩
  obtain ⟨C,hC⟩ : ∃ G,g 24 = G := ⟨_,rfl⟩
  have HL : Hid (lc v g = if G ≠ 0 /\ G <= v then G else if C <= v then C else 0) := by show lc v g = _; rw [lc,hG,hC]
  rw [hG] at c25
  rw [hC] at c24
  clear hG hC
  by_cases h1 : G = 0
  . by_cases h3 : C <= v
    . go_enter Tryz.func134,Tryz.ntmps134
      go_wp2
      go_ret
      exact ⟨ret_int (by rw [unhide HL,if_neg (by omega),if_pos h3]),unhide HB⟩
    . go_enter Tryz.func134,Tryz.ntmps134
      go_wp2
      go_ret
      exact ⟨ret_int (by rw [unhide HL,if_neg (by omega),if_neg (by omega)]),unhide HB⟩
  . by_cases h2 : G <= v
    . go_enter Tryz.func134,Tryz.ntmps134
      go_wp2
      go_ret
      exact ⟨ret_int (by rw [unhide HL,if_pos ⟨h1,h2⟩]),unhide HB⟩
    . by_cases h3 : C <= v
      . go_enter Tryz.func134,Tryz.ntmps134
        go_wp2
        go_ret
        exact ⟨ret_int (by rw [unhide HL,if_neg (by omega),if_pos h3]),unhide HB⟩
      . go_enter Tryz.func134,Tryz.ntmps134
        go_wp2
        go_ret
        exact ⟨ret_int (by rw [unhide HL,if_neg (by omega),if_neg (by omega)]),unhide HB⟩
def stp (v : Int) (l z x y : Int) (LS : List (Nat -> Int)) : Nat -> Int
  | 0 => 0
  | k + 1 => bif decide (stp v l z x y LS k < lc v (gf LS k)) && Tch (gf LS k) l z x y then lc v (gf LS k) else stp v l z x y LS k
theorem stp_no {v l z x y : Int} {LS : List (Nat -> Int)} {k : Nat} (h : (decide (stp v l z x y LS k < lc v (gf LS k)) && Tch (gf LS k) l z x y) = false) : stp v l z x y LS (k + 1) = stp v l z x y LS k := by rw [stp,h]; rfl
theorem stp_yes {v l z x y : Int} {LS : List (Nat -> Int)} {k : Nat} (h : (decide (stp v l z x y LS k < lc v (gf LS k)) && Tch (gf LS k) l z x y) = true) : stp v l z x y LS (k + 1) = lc v (gf LS k) := by rw [stp,h]; rfl
theorem sz80 (f : Nat -> Int) : (Tryz.prog.info? 195).map (·.size) = some (cc 26 f).size := by rw [cc_size]; kernel_rfl
theorem ldm80 {ops : Array Oper} {rest : List Oper} {o : Oper} {a : Act} {w : World} {Q : Exit -> Act -> World -> Prop} (hw : Region.wanted o (yielded ops a.tmps) = true) (x : Operand) (ho : o.op = .load 195 x)
    (b off : Nat) (hx : a.eval x = .pointer (some ⟨b,off,none⟩)) (f : Nat -> Int) (hc : w.rangeAt b off (cc 26 f).toList)
    (h : wpList Tryz.prog ops Q rest (a.put o.dst (.agg (cc 26 f))) w) : wpList Tryz.prog ops Q (o :: rest) a w := by
  unfold wpList
  rw [if_pos hw]
  exact Or.inl (wp_load_mid 195 x ho b off hx (cc 26 f).toList _ hc Tryz.underlying195 rfl (by rw [Array.length_toList]; exact sz80 f) h)
theorem life_F {W : World} {b off : Nat} {g : Nat -> Int} (h : W.rangeAt b off (cc 26 g).toList) : W.rangeAt b off (fc g).toList := by
  intro j v hv
  have hj : j < 24 := by
    have := (List.getElem?_eq_some_iff.1 hv).1
    simpa [fc_size] using this
  have e : (fc g)[j]? = some v := by simpa using hv
  rw [fc_at _ j hj] at e
  refine h j v ?_
  rw [Array.getElem?_toList,cc_at 26 g j (by omega)]
  exact e
structure Sto (w : World) (sb : Nat) (keep ver : Int) (sl pv : Value) (LS : List (Nat -> Int)) : Prop where
  blk : w.heap[sb]? = some (.cells #[.int .i64 keep,.int .i64 ver,sl,pv] 133 (0,0))
  own : OwnC 195 26 w (sb + 1) sl LS
theorem Sto.lt {w : World} {sb : Nat} {keep ver : Int} {sl pv : Value} {LS : List (Nat -> Int)} (h : Sto w sb keep ver sl pv LS) : sb < w.heap.size := (Array.getElem?_eq_some_iff.1 h.blk).1
theorem Sto.on {w w' : World} {sb : Nat} {keep ver : Int} {sl pv : Value} {LS : List (Nat -> Int)} (h : Sto w sb keep ver sl pv LS) (hb : Below w.heap.size w w') : Sto w' sb keep ver sl pv LS := ⟨blk_on h.blk hb,h.own.on hb⟩
theorem Sto.cells {w : World} {sb : Nat} {keep ver : Int} {sl pv : Value} {LS : List (Nat -> Int)} (h : Sto w sb keep ver sl pv LS) : w.cell? ⟨sb,1,none⟩ = some (.int .i64 ver) /\ w.cell? ⟨sb,2,none⟩ = some sl := ⟨(blk_cells h.blk 1).trans rfl,(blk_cells h.blk 2).trans rfl⟩
set_option maxHeartbeats 6400000 in
theorem Stamp_any (sb : Nat) (keep ver : Int) (sl pv : Value) (LS : List (Nat -> Int)) (v l z x y : Int) (w : World) (hs : Sto w sb keep ver sl pv LS) (hl : LS.length <= 1000) (he : keyErr l z x y = 0) (hv : 0 <= v /\ v <= ver) :
    Calls Tryz.prog 122 #[.pointer (some ⟨sb,0,none⟩),.int .i64 v,.agg #[.int .i64 l,.int .i64 z,.int .i64 x,.int .i64 y]] w fun e w' => e = .returned (.tuple #[.int .i64 (stp v l z x y LS LS.length),.int .i64 0]) /\ Below w.heap.size w w' := by
  have hg0 := heap_alloc_new w (.cells #[.int .i64 l,.int .i64 z,.int .i64 x,.int .i64 y] 39 (0,0))
  have K := fun W => keyError_any l z x y W
  rw [he] at K
  have HS := hide (hs.on (below_one w (.cells #[.int .i64 l,.int .i64 z,.int .i64 x,.int .i64 y] 39)))
  clear hs he
  go_enter Tryz.func122,Tryz.ntmps122
  go_wp2_with fail
  refine (K _).mono ?_
  rintro e w1 ⟨rfl,hb1⟩
  have hs1 := (unhide HS).on hb1
  have hg1 := blk_on hg0 hb1
  obtain ⟨s1,s2⟩ := hs1.cells
  obtain ⟨oa,cap,rfl,_,hc⟩ := hs1.own.at (by unfold maxLen; omega)
  have HC := hide hc
  have HB := hide ((below_one _ _).trans (hb1.mono (by simp)))
  have hlt := hs1.lt
  have h1 : ¬ v < 0 := by omega
  have h2 : ¬ ver < v := by omega
  clear hb1 hg0 hs1 hc HS
  go_wp2_with fail
  go_loopw [9,10,11] (fun st i _ wr => ∃ (k : Nat) (s : Int),k <= LS.length /\ i = .int .i64 k /\ st = .int .i64 s /\ Hid (s = stp v l z x y LS k) /\ Below w1.heap.size w1 wr) (fun _ i _ _ => LS.length - (intOf i).toNat)
  case atStart => exact ⟨0,0,by omega,rfl,rfl,hide rfl,Below.refl _ _⟩
  case round =>
    obtain ⟨k,s,hk,rfl,rfl,hst,hb⟩ := hrel
    have r2 := (hb.cell (p := ⟨sb,2,none⟩) hlt).trans s2
    have hgr := blk_on hg1 hb
    have HBr := hide hb
    clear s1 s2
    by_cases hlk : k < LS.length
    . have hkn : (k : Int) < LS.length := by omega
      obtain ⟨b,off,rfl,hbl,hc0⟩ := unhide HC (by omega)
      have hrgW : ∀ W,Below w1.heap.size w1 W -> W.rangeAt b (off + k * 26) (cc 26 (gf LS k)).toList := fun W h => cs_rng (fun i hi j hj => (h.cell (p := ⟨b,off + i * 26 + j,none⟩) hbl).trans (hc0 i hi j hj)) hlk
      have hrg := hrgW wr hb
      have HRG := hide hrgW
      clear hc0 hb hrgW
      go_wp2_with (refine ldm80 rfl _ rfl b (off + k * 26) rfl (gf LS k) hrg ?_)
      refine (lastChange_any (gf LS k) v _).mono ?_
      rintro e w3 ⟨rfl,hb3⟩
      obtain ⟨C,hC⟩ : ∃ C,lc v (gf LS k) = C := ⟨_,rfl⟩
      rw [hC]
      have hb4 := (unhide HBr).trans (hb3.mono (unhide HBr).size)
      have r3 := (hb4.cell (p := ⟨sb,2,none⟩) hlt).trans (show w1.cell? ⟨sb,2,none⟩ = _ from ((unhide HBr).cell (p := ⟨sb,2,none⟩) hlt).symm.trans r2)
      have hg3 := blk_on hgr hb3
      have HB4 := hide hb4
      have hl3 : sb < w3.heap.size := Nat.lt_of_lt_of_le hlt hb4.size
      clear hb3 hgr r2 hrg
      by_cases hlt2 : s < C
      . have TT := fun W => Touches_any (gf LS k) l z x y W
        cases ht : Tch (gf LS k) l z x y with
        | false =>
          rw [ht] at TT
          clear hb4
          go_wp2
          refine region_bq (by kernel_rfl) (by kernel_rfl) ?_
          refine q_move rfl _ rfl (.int .i64 C) rfl ?_
          simp only [Act.put,qA,qB,qC]
          refine q_move rfl _ rfl (.int .i64 s) rfl ?_
          simp only [Act.put,qA,qB,qC]
          refine q_val rfl (.bool true) (fun _ _ => by simp [go_sem,hlt2]) ?_
          simp only [Act.put,qA,qB,qC]
          refine q_move rfl _ rfl (.bool true) rfl ?_
          simp only [Act.put,qA,qB,qC]
          refine q_move (by kernel_rfl) _ rfl (.pointer (some ⟨sb,0,none⟩)) rfl ?_
          simp only [Act.put,qA,qB,qC]
          refine q_val (by kernel_rfl) (.pointer (some ⟨sb,0,none⟩)) (fun _ _ => by simp [go_sem]) ?_
          simp only [Act.put,qA,qB,qC]
          refine q_val (by kernel_rfl) (.pointer (some ⟨sb,2,none⟩)) (fun _ _ => by simp [go_sem]) ?_
          simp only [Act.put,qA,qB,qC]
          refine q_val (by kernel_rfl) (.slice (some ⟨b,off,none⟩) LS.length cap) (fun w' h => by simp [go_sem,(h.cell (p := ⟨sb,2,none⟩) hl3).trans r3]) ?_
          simp only [Act.put,qA,qB,qC]
          refine q_move (by kernel_rfl) _ rfl (.int .i64 k) rfl ?_
          simp only [Act.put,qA,qB,qC]
          refine q_val (by kernel_rfl) (.pointer (some ⟨b,off + k * 26,none⟩)) (fun _ _ => by simp [go_sem,hkn]) ?_
          simp only [Act.put,qA,qB,qC]
          refine q_val (by kernel_rfl) (.pointer (some ⟨b,off + k * 26,none⟩)) (fun _ _ => by simp [go_sem]) ?_
          simp only [Act.put,qA,qB,qC]
          refine q_load (by kernel_rfl) 86 _ rfl b (off + k * 26) rfl (fc (gf LS k)) _ Tryz.underlying86 rfl (szf _) (fun w' h => life_F (unhide HRG w' ((unhide HB4).trans (h.mono (unhide HB4).size)))) ?_
          simp only [Act.put,qA,qB,qC]
          refine q_load (by kernel_rfl) 39 _ rfl w.heap.size 0 rfl #[.int .i64 l,.int .i64 z,.int .i64 x,.int .i64 y] _ Tryz.underlying39 rfl (sz28 l z x y) (fun w' h => rng_on hg3 h) ?_
          simp only [Act.put,qA,qB,qC]
          refine q_call (by kernel_rfl) 135 #[.agg (fc (gf LS k)),.agg #[.int .i64 l,.int .i64 z,.int .i64 x,.int .i64 y]] (fun _ => by simp [go_sem]) _ TT ?_
          simp only [Act.put,qA,qB,qC]
          refine q_val rfl (.bool false) (fun _ _ => by simp [go_sem]) ?_
          simp only [Act.put,qA,qB,qC]
          refine wpQuiet_nil ?_
          intro w6 hw6
          have HB6 := hide ((unhide HB4).trans (hw6.mono (unhide HB4).size))
          clear hw6 TT r3 hg3
          have hst' : Hid (s = stp v l z x y LS (k + 1)) := by show s = _; rw [stp_no (by rw [ht,Bool.and_false])]; exact unhide hst
          go_wp2_with fail
          go_roundw
          case rel => exact ⟨k + 1,s,by omega,by go_num,rfl,hst',unhide HB6⟩
          case measure => simp [intOf]; omega
        | true =>
          rw [ht] at TT
          clear hb4
          go_wp2
          refine region_bq (by kernel_rfl) (by kernel_rfl) ?_
          refine q_move rfl _ rfl (.int .i64 C) rfl ?_
          simp only [Act.put,qA,qB,qC]
          refine q_move rfl _ rfl (.int .i64 s) rfl ?_
          simp only [Act.put,qA,qB,qC]
          refine q_val rfl (.bool true) (fun _ _ => by simp [go_sem,hlt2]) ?_
          simp only [Act.put,qA,qB,qC]
          refine q_move rfl _ rfl (.bool true) rfl ?_
          simp only [Act.put,qA,qB,qC]
          refine q_move (by kernel_rfl) _ rfl (.pointer (some ⟨sb,0,none⟩)) rfl ?_
          simp only [Act.put,qA,qB,qC]
          refine q_val (by kernel_rfl) (.pointer (some ⟨sb,0,none⟩)) (fun _ _ => by simp [go_sem]) ?_
          simp only [Act.put,qA,qB,qC]
          refine q_val (by kernel_rfl) (.pointer (some ⟨sb,2,none⟩)) (fun _ _ => by simp [go_sem]) ?_
          simp only [Act.put,qA,qB,qC]
          refine q_val (by kernel_rfl) (.slice (some ⟨b,off,none⟩) LS.length cap) (fun w' h => by simp [go_sem,(h.cell (p := ⟨sb,2,none⟩) hl3).trans r3]) ?_
          simp only [Act.put,qA,qB,qC]
          refine q_move (by kernel_rfl) _ rfl (.int .i64 k) rfl ?_
          simp only [Act.put,qA,qB,qC]
          refine q_val (by kernel_rfl) (.pointer (some ⟨b,off + k * 26,none⟩)) (fun _ _ => by simp [go_sem,hkn]) ?_
          simp only [Act.put,qA,qB,qC]
          refine q_val (by kernel_rfl) (.pointer (some ⟨b,off + k * 26,none⟩)) (fun _ _ => by simp [go_sem]) ?_
          simp only [Act.put,qA,qB,qC]
          refine q_load (by kernel_rfl) 86 _ rfl b (off + k * 26) rfl (fc (gf LS k)) _ Tryz.underlying86 rfl (szf _) (fun w' h => life_F (unhide HRG w' ((unhide HB4).trans (h.mono (unhide HB4).size)))) ?_
          simp only [Act.put,qA,qB,qC]
          refine q_load (by kernel_rfl) 39 _ rfl w.heap.size 0 rfl #[.int .i64 l,.int .i64 z,.int .i64 x,.int .i64 y] _ Tryz.underlying39 rfl (sz28 l z x y) (fun w' h => rng_on hg3 h) ?_
          simp only [Act.put,qA,qB,qC]
          refine q_call (by kernel_rfl) 135 #[.agg (fc (gf LS k)),.agg #[.int .i64 l,.int .i64 z,.int .i64 x,.int .i64 y]] (fun _ => by simp [go_sem]) _ TT ?_
          simp only [Act.put,qA,qB,qC]
          refine q_val rfl (.bool true) (fun _ _ => by simp [go_sem]) ?_
          simp only [Act.put,qA,qB,qC]
          refine wpQuiet_nil ?_
          intro w6 hw6
          have HB6 := hide ((unhide HB4).trans (hw6.mono (unhide HB4).size))
          clear hw6 TT r3 hg3
          have hst' : Hid (C = stp v l z x y LS (k + 1)) := by show C = _; rw [stp_yes (by rw [ht,Bool.and_true,<- unhide hst,hC]; exact decide_eq_true hlt2),hC]
          go_wp2_with fail
          go_roundw
          case rel => exact ⟨k + 1,C,by omega,by go_num,rfl,hst',unhide HB6⟩
          case measure => simp [intOf]; omega
      . clear hb4
        go_wp2
        refine region_bq (by kernel_rfl) (by kernel_rfl) ?_
        refine q_move rfl _ rfl (.int .i64 C) rfl ?_
        simp only [Act.put,qA,qB,qC]
        refine q_move rfl _ rfl (.int .i64 s) rfl ?_
        simp only [Act.put,qA,qB,qC]
        refine q_val rfl (.bool false) (fun _ _ => by simp [go_sem]; omega) ?_
        simp only [Act.put,qA,qB,qC]
        refine q_move rfl _ rfl (.bool false) rfl ?_
        simp only [Act.put,qA,qB,qC]
        go_big_quiet_skip
        go_big_quiet_skip
        go_big_quiet_skip
        go_big_quiet_skip
        go_big_quiet_skip
        go_big_quiet_skip
        go_big_quiet_skip
        go_big_quiet_skip
        go_big_quiet_skip
        go_big_quiet_skip
        refine q_val rfl (.bool false) (fun _ _ => by simp [go_sem]) ?_
        simp only [Act.put,qA,qB,qC]
        refine wpQuiet_nil ?_
        intro w6 hw6
        have HB6 := hide ((unhide HB4).trans (hw6.mono (unhide HB4).size))
        clear hw6 r3 hg3
        have hst' : Hid (s = stp v l z x y LS (k + 1)) := by show s = _; rw [stp_no (by rw [<- unhide hst,hC,decide_eq_false (by omega),Bool.false_and])]; exact unhide hst
        go_wp2_with fail
        go_roundw
        case rel => exact ⟨k + 1,s,by omega,by go_num,rfl,hst',unhide HB6⟩
        case measure => simp [intOf]; omega
    . have hkn : k = LS.length := by omega
      subst hkn
      have HF := hide ((unhide HB).trans (hb.mono (unhide HB).size))
      clear hb
      go_wp2_with fail
      go_ret2
      exact ⟨by rw [unhide hst]; rfl,unhide HF⟩
def SF (a b : Nat -> Int) : Prop := ∀ k,k < 24 -> a k = b k
theorem SF.symm {a b : Nat -> Int} (h : SF a b) : SF b a := fun k hk => (h k hk).symm
theorem SF.trans {a b c : Nat -> Int} (h : SF a b) (h' : SF b c) : SF a c := fun k hk => (h k hk).trans (h' k hk)
theorem sf_upd (g : Nat -> Int) (x : Int) : SF (upd g 25 x) g := fun k hk => by simp only [upd]; rw [if_neg (by omega)]
theorem sf_life (f : Nat -> Int) (ver : Int) : SF (lifeOf f ver) f := fun k hk => by simp only [lifeOf]; rw [if_pos hk]
theorem right_ext {f g : Nat -> Int} (h : SF f g) : right f = right g := by
  have hp : ∀ i,i < 8 -> pt f i = pt g i := fun i hi => by simp only [pt,h (8 + i) (by omega),h (16 + i) (by omega),h 7 (by omega)]
  have hps : pts f 8 = pts g 8 := by
    rw [Bool.eq_iff_iff]
    simp only [pts,List.all_eq_true,List.mem_range]
    exact ⟨fun H i hi => by rw [<- hp i hi]; exact H i hi,fun H i hi => by rw [hp i hi]; exact H i hi⟩
  simp only [right,traits,form,hps,h 0 (by omega),h 1 (by omega),h 2 (by omega),h 3 (by omega),h 4 (by omega),h 5 (by omega),h 6 (by omega),h 7 (by omega)]
theorem axT_ext {a b : Nat -> Int} {n : Nat} {r lo hi : Int} (h : ∀ i,i < n -> a i = b i) : axT a n r lo hi = axT b n r lo hi := by
  have h1 : apB a r lo n = apB b r lo n := by
    rw [Bool.eq_iff_iff]
    simp only [apB,List.all_eq_true,List.mem_range]
    exact ⟨fun H i hi => by rw [<- h i hi]; exact H i hi,fun H i hi => by rw [h i hi]; exact H i hi⟩
  have h2 : apA a r hi n = apA b r hi n := by
    rw [Bool.eq_iff_iff]
    simp only [apA,List.all_eq_true,List.mem_range]
    exact ⟨fun H i hi => by rw [<- h i hi]; exact H i hi,fun H i hi => by rw [h i hi]; exact H i hi⟩
  rw [axT,axT,h1,h2]
theorem Tch_ext {f g : Nat -> Int} (h : SF f g) (l z x y : Int) : Tch f l z x y = Tch g l z x y := by
  unfold Tch
  rw [right_ext h]
  cases hr : right g with
  | false => rfl
  | true =>
    have h7 := n_in (right_out hr)
    have hs : shw f l z = shw g l z := by simp only [shw,h 1 (by omega),h 5 (by omega)]
    rw [hs,h 7 (by omega),h 6 (by omega),axT_ext (a := fun i => f (8 + i)) (b := fun i => g (8 + i)) (fun i hi => h (8 + i) (by omega)),axT_ext (a := fun i => f (16 + i)) (b := fun i => g (16 + i)) (fun i hi => h (16 + i) (by omega))]
theorem cntL_congr {A B : List (Nat -> Int)} : ∀ k,(∀ i,i < k -> (gf A i 25 = 0 ↔ gf B i 25 = 0)) -> cntL A k = cntL B k
  | 0,_ => rfl
  | k + 1,h => by
    rw [cntL,cntL,cntL_congr k fun i hi => h i (by omega)]
    by_cases c : gf A k 25 = 0
    . rw [if_pos c,if_pos ((h k (by omega)).1 c)]
    . rw [if_neg c,if_neg (fun h' => c ((h k (by omega)).2 h'))]
theorem cntL_less {A B : List (Nat -> Int)} (j : Nat) (hj : gf A j 25 = 0) (hj' : gf B j 25 ≠ 0) : ∀ k,j < k -> (∀ i,i < k -> i ≠ j -> (gf A i 25 = 0 ↔ gf B i 25 = 0)) -> cntL A k = cntL B k + 1
  | 0,h,_ => by omega
  | k + 1,h,hi => by
    by_cases e : j = k
    . subst e
      rw [cntL,cntL,if_pos hj,if_neg hj',cntL_congr j fun i h' => hi i (by omega) (by omega)]
    . rw [cntL,cntL,cntL_less j hj hj' k (by omega) fun i h' => hi i (by omega)]
      by_cases c : gf A k 25 = 0
      . rw [if_pos c,if_pos ((hi k (by omega) (fun q => e q.symm)).1 c)]
      . rw [if_neg c,if_neg (fun h' => c ((hi k (by omega) (fun q => e q.symm)).2 h'))]
theorem cnt_end {LS : List (Nat -> Int)} {i : Nat} (hi : i < LS.length) (h : gf LS i 25 = 0) {ver : Int} (hv : ver ≠ 0) : cntL LS LS.length = cntL (setL LS i 25 ver) (setL LS i 25 ver).length + 1 := by
  rw [setL_len]
  refine cntL_less i h ?_ _ hi fun k hk hne => ?_
  . rw [setL_gf _ _ _ _ _ hi,if_pos rfl]; simpa [upd] using hv
  . rw [setL_gf _ _ _ _ _ hk,if_neg hne]
theorem cnt_new (LS : List (Nat -> Int)) (f : Nat -> Int) (ver : Int) : cntL (LS ++ [lifeOf f ver]) (LS ++ [lifeOf f ver]).length = cntL LS LS.length + 1 := by
  rw [List.length_append,List.length_singleton,cntL,gf_last,if_pos (by simp [lifeOf])]
  have := cntL_congr (A := LS ++ [lifeOf f ver]) (B := LS) LS.length fun i hi => by rw [gf_left hi]
  omega
structure Rel (LS FL : List (Nat -> Int)) : Prop where
  cnt : cntL LS LS.length = FL.length
  fwd : ∀ i,i < LS.length -> gf LS i 25 = 0 -> ∃ j,j < FL.length /\ SF (gf LS i) (gf FL j)
  fro : ∀ j,j < FL.length -> ∃ i,i < LS.length /\ gf LS i 25 = 0 /\ SF (gf LS i) (gf FL j)
  rt : ∀ j,j < FL.length -> Rt (gf FL j)
  dis : ∀ j j',j < FL.length -> j' < FL.length -> gf FL j 0 = gf FL j' 0 -> j = j'
  one : ∀ i i',i < LS.length -> i' < LS.length -> gf LS i 25 = 0 -> gf LS i' 25 = 0 -> gf LS i 0 = gf LS i' 0 -> i = i'
theorem rel_nil : Rel [] [] := ⟨rfl,fun i hi => by simp at hi,fun i hi => by simp at hi,fun i hi => by simp at hi,fun i j hi => by simp at hi,fun i j hi => by simp at hi⟩
theorem Rel.fst {LS FL : List (Nat -> Int)} (h : Rel LS FL) {id : Int} {i : Nat} (hf : Fst LS id i) : ∃ j,j < FL.length /\ gf FL j 0 = id /\ SF (gf LS i) (gf FL j) := by
  obtain ⟨j,hj,hs⟩ := h.fwd i hf.1 hf.2.1.1
  exact ⟨j,hj,(hs 0 (by omega)).symm.trans hf.2.1.2,hs⟩
theorem Rel.non {LS FL : List (Nat -> Int)} (h : Rel LS FL) {id : Int} (hf : Non LS id) : No FL id := fun j hj e => by
  obtain ⟨i,hi,h25,hs⟩ := h.fro j hj
  exact hf i hi ⟨h25,(hs 0 (by omega)).trans e⟩
structure Gone (FL : List (Nat -> Int)) (id : Int) (FL' : List (Nat -> Int)) : Prop where
  len : FL.length = FL'.length + 1
  sub : ∀ j,j < FL'.length -> ∃ a,a < FL.length /\ gf FL a = gf FL' j /\ gf FL a 0 ≠ id
  sup : ∀ a,a < FL.length -> gf FL a 0 ≠ id -> ∃ j,j < FL'.length /\ gf FL' j = gf FL a
  dis : ∀ j j',j < FL'.length -> j' < FL'.length -> gf FL' j 0 = gf FL' j' 0 -> j = j'
theorem Rel.gone {LS FL FL' : List (Nat -> Int)} (h : Rel LS FL) {id : Int} {i : Nat} (hf : Fst LS id i) {ver : Int} (hv : ver ≠ 0) (hg : Gone FL id FL') : Rel (setL LS i 25 ver) FL' := by
  have hc := cnt_end hf.1 hf.2.1.1 hv
  have gs : ∀ k,k < LS.length -> gf (setL LS i 25 ver) k 25 = 0 -> k ≠ i /\ gf (setL LS i 25 ver) k = gf LS k /\ gf LS k 25 = 0 := by
    intro k hk h0
    rw [setL_gf _ _ _ _ _ hk] at h0
    by_cases e : k = i
    . rw [if_pos e] at h0; simp [upd] at h0; exact absurd h0 hv
    . rw [if_neg e] at h0
      exact ⟨e,by rw [setL_gf _ _ _ _ _ hk,if_neg e],h0⟩
  refine ⟨?_,?_,?_,?_,hg.dis,?_⟩
  . have := h.cnt; have := hg.len; omega
  . intro k hk h0
    rw [setL_len] at hk
    obtain ⟨e1,e2,e3⟩ := gs k hk h0
    obtain ⟨a,ha,hs⟩ := h.fwd k hk e3
    obtain ⟨j,hj,e⟩ := hg.sup a ha (fun e => e1 (h.one k i hk hf.1 e3 hf.2.1.1 (((hs 0 (by omega)).trans e).trans hf.2.1.2.symm)))
    exact ⟨j,hj,by rw [e2,e]; exact hs⟩
  . intro j hj
    obtain ⟨a,ha,e,hne⟩ := hg.sub j hj
    obtain ⟨k,hk,h25,hs⟩ := h.fro a ha
    have hki : k ≠ i := fun q => hne (by rw [<- hf.2.1.2,<- q]; exact (hs 0 (by omega)).symm)
    refine ⟨k,by rw [setL_len]; exact hk,?_,?_⟩
    . rw [setL_gf _ _ _ _ _ hk,if_neg hki]; exact h25
    . rw [setL_gf _ _ _ _ _ hk,if_neg hki,<- e]; exact hs
  . intro j hj
    obtain ⟨a,ha,e,_⟩ := hg.sub j hj
    rw [<- e]; exact h.rt a ha
  . intro k k' hk hk' h0 h0' e
    rw [setL_len] at hk hk'
    obtain ⟨_,e2,e3⟩ := gs k hk h0
    obtain ⟨_,e2',e3'⟩ := gs k' hk' h0'
    rw [e2,e2'] at e
    exact h.one k k' hk hk' e3 e3' e
theorem Rel.join {LS FL : List (Nat -> Int)} (h : Rel LS FL) {f : Nat -> Int} (hR : Rt f) (hn : No FL (f 0)) {ver : Int} : Rel (LS ++ [lifeOf f ver]) (FL ++ [f]) := by
  have hx : ∀ i,i < (LS ++ [lifeOf f ver]).length -> (i < LS.length /\ gf (LS ++ [lifeOf f ver]) i = gf LS i) \/ (i = LS.length /\ gf (LS ++ [lifeOf f ver]) i = lifeOf f ver) := by
    intro i hi
    by_cases c : i < LS.length
    . exact Or.inl ⟨c,gf_left c⟩
    . have : i = LS.length := by simp at hi; omega
      subst this; exact Or.inr ⟨rfl,gf_last _ _⟩
  have hy : ∀ i,i < (FL ++ [f]).length -> (i < FL.length /\ gf (FL ++ [f]) i = gf FL i) \/ (i = FL.length /\ gf (FL ++ [f]) i = f) := by
    intro i hi
    by_cases c : i < FL.length
    . exact Or.inl ⟨c,gf_left c⟩
    . have : i = FL.length := by simp at hi; omega
      subst this; exact Or.inr ⟨rfl,gf_last _ _⟩
  have hid : ∀ i,i < LS.length -> gf LS i 25 = 0 -> gf LS i 0 ≠ f 0 := fun i hi h0 e => by
    obtain ⟨j,hj,hs⟩ := h.fwd i hi h0
    exact hn j hj ((hs 0 (by omega)).symm.trans e)
  refine ⟨?_,?_,?_,?_,?_,?_⟩
  . rw [cnt_new,h.cnt]; simp
  . intro i hi h0
    rcases hx i hi with ⟨c,e⟩ | ⟨c,e⟩
    . rw [e] at h0
      obtain ⟨j,hj,hs⟩ := h.fwd i c h0
      exact ⟨j,by simp; omega,by rw [e,gf_left hj]; exact hs⟩
    . exact ⟨FL.length,by simp,by rw [e,gf_last]; exact sf_life f ver⟩
  . intro j hj
    rcases hy j hj with ⟨c,e⟩ | ⟨c,e⟩
    . obtain ⟨i,hi,h25,hs⟩ := h.fro j c
      exact ⟨i,by simp; omega,by rw [gf_left hi]; exact h25,by rw [gf_left hi,e]; exact hs⟩
    . exact ⟨LS.length,by simp,by rw [gf_last]; simp [lifeOf],by rw [gf_last,e]; exact sf_life f ver⟩
  . intro j hj
    rcases hy j hj with ⟨c,e⟩ | ⟨c,e⟩
    . rw [e]; exact h.rt j c
    . rw [e]; exact hR
  . intro j j' hj hj' e
    rcases hy j hj with ⟨c,e1⟩ | ⟨c,e1⟩ <;> rcases hy j' hj' with ⟨c',e1'⟩ | ⟨c',e1'⟩ <;> rw [e1,e1'] at e
    . exact h.dis j j' c c' e
    . exact absurd e (hn j c)
    . exact absurd e.symm (hn j' c')
    . omega
  . intro i i' hi hi' h0 h0' e
    rcases hx i hi with ⟨c,e1⟩ | ⟨c,e1⟩ <;> rcases hx i' hi' with ⟨c',e1'⟩ | ⟨c',e1'⟩ <;> rw [e1,e1'] at e <;> (rw [e1] at h0) <;> (rw [e1'] at h0')
    . exact h.one i i' c c' h0 h0' e
    . exact absurd (e.trans (sf_life f ver 0 (by omega))) (hid i c h0)
    . exact absurd (e.symm.trans (sf_life f ver 0 (by omega))) (hid i' c' h0')
    . omega
theorem gf_dropLast {l : List (Nat -> Int)} {j : Nat} (h : j < l.length - 1) : gf l.dropLast j = gf l j := by
  unfold gf; rw [List.getElem?_dropLast,if_pos h]
theorem gone_drop {FL : List (Nat -> Int)} {id : Int} {i : Nat} (hA : At FL id i) (hd : ∀ j j',j < FL.length -> j' < FL.length -> gf FL j 0 = gf FL j' 0 -> j = j') : Gone FL id (FL.set i (gf FL (FL.length - 1))).dropLast := by
  obtain ⟨hi,hid,_⟩ := hA
  have hlen : (FL.set i (gf FL (FL.length - 1))).dropLast.length = FL.length - 1 := by simp
  have hgf : ∀ j,j < FL.length - 1 -> gf (FL.set i (gf FL (FL.length - 1))).dropLast j = gf FL (if j = i then FL.length - 1 else j) := by
    intro j hj
    rw [gf_dropLast (by simpa using hj),set_gf _ _ _ _ (by omega)]
    by_cases e : j = i
    . rw [if_pos e,if_pos e]
    . rw [if_neg e,if_neg e]
  refine ⟨by rw [hlen]; omega,?_,?_,?_⟩
  . intro j hj
    rw [hlen] at hj
    refine ⟨if j = i then FL.length - 1 else j,by split <;> omega,(hgf j hj).symm,fun e => ?_⟩
    have := hd _ i (by split <;> omega) hi (e.trans hid.symm)
    revert this
    split <;> omega
  . intro a ha hne
    have hai : a ≠ i := fun e => hne (by rw [e]; exact hid)
    by_cases c : a = FL.length - 1
    . exact ⟨i,by rw [hlen]; omega,by rw [hgf i (by omega),if_pos rfl,c]⟩
    . exact ⟨a,by rw [hlen]; omega,by rw [hgf a (by omega),if_neg hai]⟩
  . intro j j' hj hj' e
    rw [hlen] at hj hj'
    rw [hgf j hj,hgf j' hj'] at e
    have := hd _ _ (by split <;> omega) (by split <;> omega) e
    revert this
    split <;> split <;> omega
theorem Rel.perm {LS FL FL2 : List (Nat -> Int)} (h : Rel LS FL) (hl : FL.length = FL2.length) (h1 : ∀ j,j < FL.length -> ∃ a,a < FL2.length /\ gf FL2 a = gf FL j) (h2 : ∀ a,a < FL2.length -> ∃ j,j < FL.length /\ gf FL j = gf FL2 a)
    (hd : ∀ j j',j < FL2.length -> j' < FL2.length -> gf FL2 j 0 = gf FL2 j' 0 -> j = j') : Rel LS FL2 := by
  refine ⟨h.cnt.trans hl,?_,?_,?_,hd,h.one⟩
  . intro i hi h0
    obtain ⟨j,hj,hs⟩ := h.fwd i hi h0
    obtain ⟨a,ha,e⟩ := h1 j hj
    exact ⟨a,ha,by rw [e]; exact hs⟩
  . intro a ha
    obtain ⟨j,hj,e⟩ := h2 a ha
    obtain ⟨i,hi,h25,hs⟩ := h.fro j hj
    exact ⟨i,hi,h25,by rw [<- e]; exact hs⟩
  . intro a ha
    obtain ⟨j,hj,e⟩ := h2 a ha
    rw [<- e]; exact h.rt j hj
theorem Rel.swap {LS FL : List (Nat -> Int)} (h : Rel LS FL) {f : Nat -> Int} (hR : Rt f) {i j : Nat} (hf : Fst LS (f 0) i) (hA : At FL (f 0) j) {ver : Int} (hv : ver ≠ 0) : Rel (setL LS i 25 ver ++ [lifeOf f ver]) (FL.set j f) := by
  have hg := gone_drop hA h.dis
  have hr := h.gone hf hv hg
  have hno : No (FL.set j (gf FL (FL.length - 1))).dropLast (f 0) := fun a ha e => by
    obtain ⟨b,hb,e1,hne⟩ := hg.sub a ha
    exact hne (by rw [e1]; exact e)
  have hj := hr.join (ver := ver) hR hno
  generalize (FL.set j (gf FL (FL.length - 1))).dropLast = G at hg hr hno hj
  have hx : ∀ a,a < FL.length -> a ≠ j -> gf FL a 0 ≠ f 0 := fun a ha hne e => hne (h.dis a j ha hA.1 (e.trans hA.2.1.symm))
  refine hj.perm (by simp [hg.len]) ?_ ?_ ?_
  . intro b hb
    by_cases c : b < G.length
    . obtain ⟨a,ha,e,hne⟩ := hg.sub b c
      refine ⟨a,by simpa using ha,?_⟩
      rw [gf_left c,set_gf _ _ _ _ ha,if_neg (fun q => hne (by rw [q]; exact hA.2.1)),e]
    . have : b = G.length := by simp at hb; omega
      subst this
      exact ⟨j,by simpa using hA.1,by rw [gf_last,set_gf _ _ _ _ hA.1,if_pos rfl]⟩
  . intro a ha
    have ha' : a < FL.length := by simpa using ha
    by_cases c : a = j
    . subst c
      exact ⟨G.length,by simp,by rw [gf_last,set_gf _ _ _ _ ha',if_pos rfl]⟩
    . obtain ⟨b,hb,e⟩ := hg.sup a ha' (hx a ha' c)
      exact ⟨b,by simp; omega,by rw [gf_left hb,e,set_gf _ _ _ _ ha',if_neg c]⟩
  . intro a a' ha ha' e
    have ha1 : a < FL.length := by simpa using ha
    have ha2 : a' < FL.length := by simpa using ha'
    rw [set_gf _ _ _ _ ha1,set_gf _ _ _ _ ha2] at e
    by_cases c : a = j <;> by_cases c' : a' = j
    . omega
    . rw [if_pos c,if_neg c'] at e; exact absurd e.symm (hx a' ha2 c')
    . rw [if_neg c,if_pos c'] at e; exact absurd e (hx a ha1 c)
    . rw [if_neg c,if_neg c'] at e; exact h.dis a a' ha1 ha2 e
theorem Rel.step {LS FL LS' FL' : List (Nat -> Int)} {e : Nat -> Int} {r ver : Int} (h : Rel LS FL) (hv : ver ≠ 0) (hf : Rt (eF e)) (hE : EdR e FL FL') (hA : EditR ver e LS r LS') : r = 0 /\ Rel LS' FL' := by
  have hrt : right (fun j => e (1 + j)) = true := right_in hf
  rcases hA with ⟨h0,hP⟩ | ⟨h1,hD⟩ | ⟨n0,n1,_,_⟩
  . rcases hP with ⟨hr,_⟩ | ⟨_,⟨i,hF,hr,hL⟩ | ⟨hN,h40,_,_⟩ | ⟨hN,h40,hr,hL⟩⟩
    . rw [hrt] at hr; cases hr
    . subst hL
      rcases hE with ⟨_,j,hAt,rfl⟩ | ⟨_,hNo,_,_⟩ | ⟨q,_⟩
      . exact ⟨hr,h.swap hf hF hAt hv⟩
      . obtain ⟨j,hj,hid,_⟩ := h.fst hF
        exact absurd hid (hNo j hj)
      . omega
    . have hNo := h.non hN
      rcases hE with ⟨_,j,hAt,_⟩ | ⟨_,_,hlt,_⟩ | ⟨q,_⟩
      . exact absurd hAt.2.1 (hNo j hAt.1)
      . have := h.cnt; omega
      . omega
    . have hNo := h.non hN
      subst hL
      rcases hE with ⟨_,j,hAt,_⟩ | ⟨_,_,hlt,rfl⟩ | ⟨q,_⟩
      . exact absurd hAt.2.1 (hNo j hAt.1)
      . exact ⟨hr,h.join hf hNo⟩
      . omega
  . rcases hD with ⟨i,hF,hr,hL⟩ | ⟨hN,_,_⟩
    . subst hL
      rcases hE with ⟨q,_⟩ | ⟨q,_⟩ | ⟨_,j,hAt,rfl⟩
      . omega
      . omega
      . exact ⟨hr,h.gone hF hv (gone_drop hAt h.dis)⟩
    . have hNo := h.non hN
      rcases hE with ⟨q,_⟩ | ⟨q,_⟩ | ⟨_,j,hAt,_⟩
      . omega
      . omega
      . exact absurd hAt.2.1 (hNo j hAt.1)
  . rcases hE with ⟨q,_⟩ | ⟨q,_⟩ | ⟨q,_⟩ <;> omega
theorem Rel.noStep {LS FL LS' : List (Nat -> Int)} {e : Nat -> Int} {r ver : Int} (h : Rel LS FL) (hE : EdN e FL) (hA : EditR ver e LS r LS') : r ≠ 0 := by
  rcases hA with ⟨h0,hP⟩ | ⟨h1,hD⟩ | ⟨n0,n1,hr,_⟩
  . rcases hP with ⟨_,hr,_⟩ | ⟨_,⟨i,hF,hr,hL⟩ | ⟨hN,h40,hr,_⟩ | ⟨hN,h40,hr,hL⟩⟩
    . omega
    . obtain ⟨j,hj,hid,_⟩ := h.fst hF
      rcases hE with ⟨_,hNo,_⟩ | ⟨q,_⟩ | ⟨q,_⟩
      . exact absurd hid (hNo j hj)
      . omega
      . omega
    . omega
    . have := h.cnt
      rcases hE with ⟨_,hNo,q⟩ | ⟨q,_⟩ | ⟨q,_⟩ <;> omega
  . rcases hD with ⟨i,hF,hr,hL⟩ | ⟨hN,hr,_⟩
    . obtain ⟨j,hj,hid,_⟩ := h.fst hF
      rcases hE with ⟨q,_⟩ | ⟨_,hNo⟩ | ⟨_,q⟩
      . omega
      . exact absurd hid (hNo j hj)
      . omega
    . omega
  . omega
section
variable {v l z x y : Int} {LS : List (Nat -> Int)}
theorem stp_nn (v l z x y : Int) (LS : List (Nat -> Int)) : ∀ k,0 <= stp v l z x y LS k
  | 0 => Int.le_refl _
  | k + 1 => by
    have ih := stp_nn v l z x y LS k
    cases h : (decide (stp v l z x y LS k < lc v (gf LS k)) && Tch (gf LS k) l z x y) with
    | false => rw [stp_no h]; exact ih
    | true => rw [stp_yes h]; rw [Bool.and_eq_true,decide_eq_true_eq] at h; omega
theorem stp_le {M : Int} (hM : 0 <= M) : ∀ k,(∀ i,i < k -> lc v (gf LS i) <= M) -> stp v l z x y LS k <= M
  | 0,_ => hM
  | k + 1,hk => by
    have ih := stp_le hM k fun i hi => hk i (by omega)
    have := hk k (by omega)
    cases h : (decide (stp v l z x y LS k < lc v (gf LS k)) && Tch (gf LS k) l z x y) with
    | false => rw [stp_no h]; exact ih
    | true => rw [stp_yes h]; exact this
theorem stp_ge : ∀ k i,i < k -> Tch (gf LS i) l z x y = true -> lc v (gf LS i) <= stp v l z x y LS k
  | 0,i,h,_ => by omega
  | k + 1,i,hi,ht => by
    cases h : (decide (stp v l z x y LS k < lc v (gf LS k)) && Tch (gf LS k) l z x y) with
    | false =>
      rw [stp_no h]
      by_cases e : i = k
      . subst e
        rw [ht,Bool.and_true,decide_eq_false_iff_not] at h
        omega
      . exact stp_ge k i (by omega) ht
    | true =>
      rw [stp_yes h]
      by_cases e : i = k
      . subst e; exact Int.le_refl _
      . have := stp_ge k i (by omega) ht
        rw [Bool.and_eq_true,decide_eq_true_eq] at h
        omega
theorem stp_congr {v' : Int} {LS' : List (Nat -> Int)} : ∀ k,(∀ i,i < k -> Tch (gf LS' i) l z x y = Tch (gf LS i) l z x y /\ (Tch (gf LS i) l z x y = true -> lc v' (gf LS' i) = lc v (gf LS i))) -> stp v' l z x y LS' k = stp v l z x y LS k
  | 0,_ => rfl
  | k + 1,h => by
    have ih := stp_congr k fun i hi => h i (by omega)
    obtain ⟨h1,h2⟩ := h k (by omega)
    rw [stp,stp,ih,h1]
    cases ht : Tch (gf LS k) l z x y with
    | false => rw [Bool.and_false,Bool.and_false]; rfl
    | true => rw [h2 ht]
end
def Bnd (LS : List (Nat -> Int)) (n : Int) : Prop := ∀ i,i < LS.length -> gf LS i 24 <= n /\ gf LS i 25 <= n
theorem lc_le {v : Int} {g : Nat -> Int} (h : 0 <= v) : lc v g <= v := by unfold lc; split <;> (try split) <;> omega
theorem lc_life_old {v n : Int} {f : Nat -> Int} (h : v <= n) : lc v (lifeOf f (n + 1)) = 0 := by
  unfold lc lifeOf
  simp only [show ¬ (25 : Nat) < 24 by omega,show ¬ (24 : Nat) < 24 by omega,if_false,if_true,show ¬ (25 : Nat) = 24 by omega]
  rw [if_neg (by omega),if_neg (by omega)]
theorem lc_life_new {n : Int} {f : Nat -> Int} : lc (n + 1) (lifeOf f (n + 1)) = n + 1 := by
  unfold lc lifeOf
  simp only [show ¬ (25 : Nat) < 24 by omega,show ¬ (24 : Nat) < 24 by omega,if_false,if_true,show ¬ (25 : Nat) = 24 by omega]
  rw [if_neg (by omega),if_pos (by omega)]
theorem lc_end_old {v n : Int} {g : Nat -> Int} (h : v <= n) (h0 : g 25 = 0) : lc v (upd g 25 (n + 1)) = lc v g := by
  unfold lc upd
  simp only [if_true,show ¬ (24 : Nat) = 25 by omega,if_false]
  rw [if_neg (by omega),if_neg (c := g 25 ≠ 0 /\ g 25 <= v) (by omega)]
section
variable {n l z x y : Int} {LS : List (Nat -> Int)}
theorem stp_end_old {v : Int} {i : Nat} (hi : i < LS.length) (h0 : gf LS i 25 = 0) (hv : v <= n) : stp v l z x y (setL LS i 25 (n + 1)) (setL LS i 25 (n + 1)).length = stp v l z x y LS LS.length := by
  rw [setL_len]
  refine stp_congr _ fun k hk => ?_
  rw [setL_gf _ _ _ _ _ hk]
  by_cases e : k = i
  . subst e; rw [if_pos rfl]; exact ⟨Tch_ext (sf_upd _ _) _ _ _ _,fun _ => lc_end_old hv h0⟩
  . rw [if_neg e]; exact ⟨rfl,fun _ => rfl⟩
theorem stp_app {v : Int} (f : Nat -> Int) (ver : Int) : stp v l z x y (LS ++ [lifeOf f ver]) LS.length = stp v l z x y LS LS.length :=
  stp_congr _ fun k hk => by rw [gf_left hk]; exact ⟨rfl,fun _ => rfl⟩
theorem stp_join_old {v : Int} (f : Nat -> Int) (hv : v <= n) : stp v l z x y (LS ++ [lifeOf f (n + 1)]) (LS ++ [lifeOf f (n + 1)]).length = stp v l z x y LS LS.length := by
  have := stp_nn v l z x y LS LS.length
  rw [List.length_append,List.length_singleton,stp_no,stp_app]
  rw [stp_app,gf_last,lc_life_old hv,decide_eq_false (by omega),Bool.false_and]
theorem stp_join_new (f : Nat -> Int) (hn : 0 <= n) : stp (n + 1) l z x y (LS ++ [lifeOf f (n + 1)]) (LS ++ [lifeOf f (n + 1)]).length = bif Tch f l z x y then n + 1 else stp (n + 1) l z x y LS LS.length := by
  have hle := stp_le (v := n + 1) (LS := LS) (l := l) (z := z) (x := x) (y := y) (M := n + 1) (by omega) LS.length fun k _ => lc_le (by omega)
  rw [List.length_append, List.length_singleton]
  cases ht : Tch f l z x y with
  | false => rw [stp_no, stp_app]; · rfl
             rw [gf_last, Tch_ext (sf_life f (n + 1)), ht, Bool.and_false]
  | true =>
    by_cases c : stp (n + 1) l z x y LS LS.length < n + 1
    . rw [stp_yes, gf_last, lc_life_new]; · rfl
      rw [stp_app, gf_last, Tch_ext (sf_life f (n + 1)), ht, Bool.and_true, lc_life_new]
      exact decide_eq_true c
    . rw [stp_no, stp_app]
      . show _ = n + 1; omega
      . rw [stp_app, gf_last, Tch_ext (sf_life f (n + 1)), ht, Bool.and_true, lc_life_new]
        exact decide_eq_false c
end
theorem bnd_join {LS : List (Nat -> Int)} {n m : Int} (hB : Bnd LS n) (hm : 0 <= m) (hnm : n <= m) (f : Nat -> Int) : Bnd (LS ++ [lifeOf f m]) m := by
  intro k hk
  by_cases c : k < LS.length
  . have := hB k c; rw [gf_left c]; omega
  . have : k = LS.length := by simp at hk; omega
    subst this; rw [gf_last]; simp [lifeOf]; exact hm
theorem q_callC {ops : Array Oper} {w : World} {Q : Act -> Prop} {a : Act} {o : Oper} {rest : List Oper} (hw : Region.wanted o (yielded ops a.tmps) = true) (f : FuncId) (args : Array Value) (h0 : ∀ w',(execOp a.eval o).run Tryz.prog w' = .ok (.enter f args) w') (v : Value)
    (hc : ∀ w',Below w.heap.size w w' -> Calls Tryz.prog f args w' fun e w'' => e = .returned v /\ Below w'.heap.size w' w'') (hk : wpQuiet Tryz.prog ops (Cq w) Q rest (a.put o.dst v)) :
    wpQuiet Tryz.prog ops (Cq w) Q (o :: rest) a :=
  BigFrame.wpQuiet_want hw fun _ hK => ⟨v,fun w' hw' => by
    unfold Oper.quietAt; rw [h0 w']
    exact ⟨rfl,(hc w' hw').mono fun e w'' h => ⟨h.1,Below.trans hw' (h.2.mono hw'.size)⟩⟩,hK _ hk⟩
theorem eF_mkE (e : Nat -> Int) : eF (mkE e) = mk (eF e) := by
  funext j
  unfold eF mkE editOf
  rw [if_neg (by omega),show 1 + j - 1 = j by omega]
  rfl
theorem Tryz.info3 : (Tryz.prog.info? 3).map (fun i => (i.zero,i.size,i.bytes)) = some (some (.int .i64 0),1,8) := by kernel_rfl
theorem ap_int {ops : Array Oper} {rest : List Oper} {o : Oper} {a : Act} {Q : Exit -> Act -> World -> Prop} (hgd : o.guard = none) (s x : Operand)
    (ho : o.op = .call { callee := .builtin .append,args := #[s,x],argTypes := #[131,131] })
    (W : World) (B : Nat) (v : Value) (l : List (Nat -> Int)) (b : Int) (hs : a.eval s = v) (hown : OwnC 3 1 W B v l) (hx : a.eval x = .slice (some ⟨W.heap.size,0,none⟩) 1 1)
    (hlen : l.length <= 1000) (hB : B <= W.heap.size)
    (h : ∀ v' w',OwnC 3 1 w' B v' (l ++ [fun _ => b]) -> (W.alloc (.cells #[.int .i64 b] 3)).grownBy w' v.ownBlock -> (v'.ownBlock = v.ownBlock \/ ∀ g,v'.ownBlock = some g -> W.heap.size < g) -> wpList Tryz.prog ops Q rest (a.put o.dst v') w') :
    wpList Tryz.prog ops Q (o :: rest) a (W.alloc (.cells #[.int .i64 b] 3)) := by
  obtain ⟨i0,hi,hz0,hz1,hz2⟩ := info_parts Tryz.info3
  refine ap_own _ hgd s x 131 ho B 3 i0 (.int .i64 0) 1 8 Tryz.underlying131 hi hz0 hz1 hz2 rfl (by decide) v l.length (fl 1 l) hs (World.ownsRow.alloc hown _) ⟨W.heap.size,0,none⟩ 1 [.int .i64 b] hx rfl ?_ ?_ ?_ ?_ ?_ ?_
  . intro j u hj
    rw [Addr.add_mid,Nat.zero_add,blk_cells (heap_alloc_new W (.cells #[.int .i64 b] 3 (0,0)))]
    simpa using hj
  . intro u hu; simp at hu; subst hu; rfl
  . omega
  . omega
  . simp; omega
  . intro v' w' r1 r2 r3
    refine h v' w' ?_ r2 ?_
    . unfold OwnC
      rw [fl_snoc]
      simpa [cc] using r1
    . rcases r3 with r3 | r3
      . exact Or.inl r3
      . right
        intro g hg
        have := r3 g hg
        simp at this
        omega
theorem allR_of {fs : Nat -> Nat -> Int} {n : Nat} (h : ∀ i,i < n -> Rt (fs i)) : allR fs n = true := by
  simp only [allR,List.all_eq_true,List.mem_range]
  exact fun i hi => right_in (h i hi)
theorem pOk {fs : Nat -> Nat -> Int} {n : Nat} {l z x y : Int} (he : keyErr l z x y = 0) (hn : n <= 40) (hr : ∀ i,i < n -> Rt (fs i)) : pErr fs n l z x y = 0 /\ pPic fs n l z x y = pic fs n l z x y 64 := by
  unfold pErr pPic
  rw [if_pos he,if_pos he,if_neg (by omega),if_neg (by omega),allR_of hr]
  exact ⟨rfl,rfl⟩
def tile (FL : List (Nat -> Int)) (l z x y : Int) : ByteArray := ⟨(pic (gf FL) FL.length l z x y 64).toArray⟩
theorem tile_size (FL : List (Nat -> Int)) (l z x y : Int) : (tile FL l z x y).size = 64 := by unfold tile; rw [size_of_len,pic_len]
theorem paint_tile {FL : List (Nat -> Int)} {l z x y : Int} (he : keyErr l z x y = 0) (hn : FL.length <= 40) (hr : ∀ i,i < FL.length -> Rt (gf FL i)) (v : Value) (W : World) (h : FsAt W v FL.length (gf FL)) :
    Calls Tryz.prog 28 #[v,.agg #[.int .i64 l,.int .i64 z,.int .i64 x,.int .i64 y]] W fun e w' => e = .returned (.tuple #[.string (tile FL l z x y),.int .i64 0]) /\ Below W.heap.size W w' := by
  have q := Paint_any v FL.length (gf FL) l z x y W h
  obtain ⟨a,b⟩ := pOk he hn hr
  rw [a,b] at q
  exact q
def inV (v : Int) (g : Nat -> Int) : Bool := decide (g 24 <= v) && (decide (g 25 = 0) || decide (v < g 25))
set_option maxHeartbeats 1600000 in
theorem isIn_any (g : Nat -> Int) (v : Int) (w : World) :
    Calls Tryz.prog 127 #[.agg (cc 26 g),.int .i64 v] w fun e w' => e = .returned (.bool (inV v g)) /\ Below w.heap.size w w' := by
  have c25 := cc_at 26 g 25 (by decide)
  have c24 := cc_at 26 g 24 (by decide)
  have HB := hide (below_one w (.cells (cc 26 g) 195))
  obtain ⟨G,hG⟩ : ∃ G,g 25 = G := ⟨_,rfl⟩
  obtain ⟨C,hC⟩ : ∃ G,g 24 = G := ⟨_,rfl⟩
  have HL : Hid (inV v g = (decide (C <= v) && (decide (G = 0) || decide (v < G)))) := by show inV v g = _; rw [inV,hG,hC]
  rw [hG] at c25
  rw [hC] at c24
  clear hG hC
  by_cases h1 : C <= v
  . by_cases h2 : G = 0
    . subst h2
      go_enter Tryz.func127,Tryz.ntmps127
      go_wp2
      go_ret
      exact ⟨ret_bool (by rw [unhide HL,decide_eq_true h1]; rfl),unhide HB⟩
    . by_cases h3 : v < G
      . go_enter Tryz.func127,Tryz.ntmps127
        go_wp2
        go_ret
        exact ⟨ret_bool (by rw [unhide HL,decide_eq_true h1,decide_eq_true h3,Bool.or_true]; rfl),unhide HB⟩
      . go_enter Tryz.func127,Tryz.ntmps127
        go_wp2
        go_ret
        exact ⟨ret_bool (by rw [unhide HL,decide_eq_true h1,decide_eq_false h2,decide_eq_false (by omega)]; simp [h2]),unhide HB⟩
  . go_enter Tryz.func127,Tryz.ntmps127
    go_wp2
    go_ret
    exact ⟨ret_bool (by rw [unhide HL,decide_eq_false (by omega)]; rfl),unhide HB⟩
structure StP (w : World) (sb : Nat) (keep ver : Int) (sl pv : Value) (LS PL : List (Nat -> Int)) : Prop where
  blk : w.heap[sb]? = some (.cells #[.int .i64 keep,.int .i64 ver,sl,pv] 133 (0,0))
  own : OwnC 195 26 w (sb + 1) sl LS
  pins : OwnC 3 1 w (sb + 1) pv PL
theorem StP.lt {w : World} {sb : Nat} {keep ver : Int} {sl pv : Value} {LS PL : List (Nat -> Int)} (h : StP w sb keep ver sl pv LS PL) : sb < w.heap.size := (Array.getElem?_eq_some_iff.1 h.blk).1
theorem StP.on {w w' : World} {sb : Nat} {keep ver : Int} {sl pv : Value} {LS PL : List (Nat -> Int)} (h : StP w sb keep ver sl pv LS PL) (hb : Below w.heap.size w w') : StP w' sb keep ver sl pv LS PL := ⟨blk_on h.blk hb,h.own.on hb,h.pins.on hb⟩
theorem StP.cells {w : World} {sb : Nat} {keep ver : Int} {sl pv : Value} {LS PL : List (Nat -> Int)} (h : StP w sb keep ver sl pv LS PL) : w.cell? ⟨sb,0,none⟩ = some (.int .i64 keep) /\ w.cell? ⟨sb,1,none⟩ = some (.int .i64 ver) /\ w.cell? ⟨sb,2,none⟩ = some sl /\ w.cell? ⟨sb,3,none⟩ = some pv :=
  ⟨(blk_cells h.blk 0).trans rfl,(blk_cells h.blk 1).trans rfl,(blk_cells h.blk 2).trans rfl,(blk_cells h.blk 3).trans rfl⟩
def hasP (PL : List (Nat -> Int)) (v : Int) : Bool := (List.range PL.length).any fun i => decide (gf PL i 0 = v)
theorem hasP_yes {PL : List (Nat -> Int)} {v : Int} {i : Nat} (hi : i < PL.length) (h : gf PL i 0 = v) : hasP PL v = true := by
  simp only [hasP,List.any_eq_true,List.mem_range,decide_eq_true_eq]; exact ⟨i,hi,h⟩
theorem hasP_no {PL : List (Nat -> Int)} {v : Int} (h : ∀ i,i < PL.length -> gf PL i 0 ≠ v) : hasP PL v = false := by
  rw [Bool.eq_false_iff]; intro ht
  simp only [hasP,List.any_eq_true,List.mem_range,decide_eq_true_eq] at ht
  obtain ⟨i,hi,e⟩ := ht
  exact h i hi e
theorem OwnC.ints {w : World} {B : Nat} {v : Value} {l : List (Nat -> Int)} (h : OwnC 3 1 w B v l) (hl : l.length <= 1000) : ∃ oa cap,v = .slice oa l.length cap /\ (0 < l.length -> ∃ b off,oa = some ⟨b,off,none⟩ /\ b < w.heap.size /\ ∀ i,i < l.length -> w.cell? ⟨b,off + i,none⟩ = some (.int .i64 (gf l i 0))) := by
  obtain ⟨oa,cap,e,_,hc⟩ := h.at (by unfold maxLen; omega)
  refine ⟨oa,cap,e,fun h0 => ?_⟩
  obtain ⟨b,off,e',hb,hc⟩ := hc h0
  exact ⟨b,off,e',hb,fun i hi => by have := hc i hi 0 (by omega); rwa [Nat.mul_one,Nat.add_zero] at this⟩
set_option maxHeartbeats 1600000 in
theorem hasPin_any (sb : Nat) (keep ver : Int) (sl pv : Value) (LS PL : List (Nat -> Int)) (v : Int) (w : World) (hs : StP w sb keep ver sl pv LS PL) (hl : PL.length <= 100) :
    Calls Tryz.prog 126 #[.pointer (some ⟨sb,0,none⟩),.int .i64 v] w fun e w' => e = .returned (.bool (hasP PL v)) /\ w = w' := by
  obtain ⟨_,_,_,s3⟩ := hs.cells
  obtain ⟨oa,cap,rfl,hc⟩ := hs.pins.ints (by omega)
  have HC := hide hc
  clear hs hc
  go_enter Tryz.func126,Tryz.ntmps126
  go_wp2_with fail
  go_loop [5] (fun i => ∃ k : Nat,k <= PL.length /\ i = .int .i64 k /\ Hid (∀ i,i < k -> gf PL i 0 ≠ v)) (fun i => PL.length - (intOf i).toNat)
  case atStart => exact ⟨0,by omega,rfl,hide (fun i hi => absurd hi (by omega))⟩
  case round =>
    obtain ⟨k,hk,rfl,hno⟩ := hrel
    by_cases hlt : k < PL.length
    . have hkn : (k : Int) < PL.length := by omega
      obtain ⟨b,off,rfl,_,hc0⟩ := unhide HC (by omega)
      have ck := hc0 k hlt
      clear hc0
      obtain ⟨G,hG⟩ : ∃ I,gf PL k 0 = I := ⟨_,rfl⟩
      rw [hG] at ck
      by_cases h0 : G = v
      . have H := hide (hasP_yes hlt (hG.trans h0))
        subst h0
        go_wp2_with fail
        go_ret
        exact ⟨ret_bool (unhide H).symm,rfl⟩
      . go_wp2_with fail
        go_round
        case rel => exact ⟨k + 1,by omega,by go_num,hide (fun i hi => by
          by_cases e : i = k
          . subst e; rw [hG]; exact h0
          . exact unhide hno i (by omega))⟩
        case measure => simp [intOf]; omega
    . have hkn : k = PL.length := by omega
      have H := hide (hasP_no (v := v) (by rw [<- hkn]; exact unhide hno))
      subst hkn
      go_wp2_with fail
      go_ret
      exact ⟨ret_bool (unhide H).symm,rfl⟩
def heldB (keep ver : Int) (PL : List (Nat -> Int)) (v : Int) : Bool := decide (0 <= v) && decide (v <= ver) && (decide (ver - keep <= v) || hasP PL v)
set_option maxHeartbeats 1600000 in
theorem isHeld_any (sb : Nat) (keep ver : Int) (sl pv : Value) (LS PL : List (Nat -> Int)) (v : Int) (w : World) (hs : StP w sb keep ver sl pv LS PL) (hl : PL.length <= 100) (hk : 0 <= keep /\ keep <= 4) (hv : 0 <= ver /\ ver <= 100) :
    Calls Tryz.prog 105 #[.pointer (some ⟨sb,0,none⟩),.int .i64 v] w fun e w' => e = .returned (.bool (heldB keep ver PL v)) /\ Below w.heap.size w w' := by
  obtain ⟨s0,s1,_,_⟩ := hs.cells
  have HS := hide hs
  clear hs
  by_cases h1 : v < 0
  . have H : Hid (heldB keep ver PL v = false) := by show heldB keep ver PL v = false; unfold heldB; rw [decide_eq_false (by omega)]; rfl
    go_enter Tryz.func105,Tryz.ntmps105
    go_wp2_with fail
    go_ret
    exact ⟨ret_bool (unhide H).symm,Below.refl _ _⟩
  . by_cases h2 : ver < v
    . have H : Hid (heldB keep ver PL v = false) := by show heldB keep ver PL v = false; unfold heldB; rw [decide_eq_false (show ¬ v <= ver by omega),Bool.and_false]; rfl
      go_enter Tryz.func105,Tryz.ntmps105
      go_wp2_with fail
      go_ret
      exact ⟨ret_bool (unhide H).symm,Below.refl _ _⟩
    . have e1 : IntKind.i64.wrap (ver - keep) = ver - keep := i64_in _ (by omega)
      have HP := fun W h => hasPin_any sb keep ver sl pv LS PL v W h hl
      have H : Hid (heldB keep ver PL v = (decide (ver - keep <= v) || hasP PL v)) := by show heldB keep ver PL v = _; unfold heldB; rw [decide_eq_true (show 0 <= v by omega),decide_eq_true (show v <= ver by omega)]; rfl
      by_cases h3 : ver - keep <= v
      . have hd : decide (ver - keep <= v) = true := decide_eq_true h3
        go_enter Tryz.func105,Tryz.ntmps105
        go_wp2_with fail
        go_quiet (fail)
        go_wp2_with fail
        go_ret
        refine ⟨ret_bool (by rw [unhide H,hd]; rfl),?_⟩
        repeat first | exact Below.refl _ _ | refine below_drewN ?_ _ | refine Below.drew ?_
      . have hd : decide (ver - keep <= v) = false := decide_eq_false h3
        obtain ⟨P,hP⟩ : ∃ P,hasP PL v = P := ⟨_,rfl⟩
        rw [hP] at HP
        have HQ : Hid (∀ W,Below w.heap.size w W -> Calls Tryz.prog 126 #[.pointer (some ⟨sb,0,none⟩),.int .i64 v] W fun e w' => e = .returned (.bool P) /\ Below W.heap.size W w') := fun W hW => (HP W ((unhide HS).on hW)).mono fun e w' h => ⟨h.1,by rw [<- h.2]; exact Below.refl _ _⟩
        have hl3 := (unhide HS).lt
        clear HP
        go_enter Tryz.func105,Tryz.ntmps105
        go_wp2
        refine region_bq (by kernel_rfl) (by kernel_rfl) ?_
        refine q_move rfl _ rfl (.int .i64 v) rfl ?_
        simp only [Act.put,qA,qB,qC]
        refine q_move rfl _ rfl (.pointer (some ⟨sb,0,none⟩)) rfl ?_
        simp only [Act.put,qA,qB,qC]
        refine q_val rfl (.pointer (some ⟨sb,0,none⟩)) (fun _ _ => by simp [go_sem]) ?_
        simp only [Act.put,qA,qB,qC]
        refine q_val rfl (.pointer (some ⟨sb,1,none⟩)) (fun _ _ => by simp [go_sem]) ?_
        simp only [Act.put,qA,qB,qC]
        refine q_val rfl (.int .i64 ver) (fun w' h => by simp [go_sem,(h.cell (p := ⟨sb,1,none⟩) hl3).trans s1]) ?_
        simp only [Act.put,qA,qB,qC]
        refine q_move rfl _ rfl (.pointer (some ⟨sb,0,none⟩)) rfl ?_
        simp only [Act.put,qA,qB,qC]
        refine q_val rfl (.pointer (some ⟨sb,0,none⟩)) (fun _ _ => by simp [go_sem]) ?_
        simp only [Act.put,qA,qB,qC]
        refine q_val rfl (.pointer (some ⟨sb,0,none⟩)) (fun _ _ => by simp [go_sem]) ?_
        simp only [Act.put,qA,qB,qC]
        refine q_val rfl (.int .i64 keep) (fun w' h => by simp [go_sem,(h.cell (p := ⟨sb,0,none⟩) hl3).trans s0]) ?_
        simp only [Act.put,qA,qB,qC]
        refine q_val rfl (.int .i64 (ver - keep)) (fun _ _ => by simp [go_sem,e1]) ?_
        simp only [Act.put,qA,qB,qC]
        refine q_val rfl (.bool false) (fun _ _ => by simp [go_sem]; omega) ?_
        simp only [Act.put,qA,qB,qC]
        refine q_move rfl _ rfl (.bool false) rfl ?_
        simp only [Act.put,qA,qB,qC]
        refine q_move (by kernel_rfl) _ rfl (.pointer (some ⟨sb,0,none⟩)) rfl ?_
        simp only [Act.put,qA,qB,qC]
        refine q_move (by kernel_rfl) _ rfl (.int .i64 v) rfl ?_
        simp only [Act.put,qA,qB,qC]
        refine q_callC (by kernel_rfl) 126 #[.pointer (some ⟨sb,0,none⟩),.int .i64 v] (fun _ => by simp [go_sem]) _ (unhide HQ) ?_
        simp only [Act.put,qA,qB,qC]
        refine q_val rfl (.bool P) (fun _ _ => by simp [go_sem]) ?_
        simp only [Act.put,qA,qB,qC]
        refine q_assign rfl _ rfl (.bool P) rfl ?_
        simp only [Act.put,qA,qB,qC]
        refine wpQuiet_nil ?_
        intro w6 hw6
        have HB6 := hide hw6
        clear hw6 s0 s1
        go_wp2_with fail
        go_ret
        exact ⟨ret_bool (by rw [unhide H,hd,hP]; rfl),unhide HB6⟩
theorem Version_any (sb : Nat) (keep ver : Int) (sl pv : Value) (LS PL : List (Nat -> Int)) (w : World) (hs : StP w sb keep ver sl pv LS PL) :
    Calls Tryz.prog 40 #[.pointer (some ⟨sb,0,none⟩)] w fun e w' => e = .returned (.int .i64 ver) /\ w = w' := by
  obtain ⟨_,s1,_,_⟩ := hs.cells
  go_enter Tryz.func40,Tryz.ntmps40
  go_wp2_with fail
  go_ret
  exact ⟨rfl,rfl⟩
def Cand (LS : List (Nat -> Int)) (v a : Int) (i : Nat) : Prop := inV v (gf LS i) = true /\ a < gf LS i 0
def Nx (LS : List (Nat -> Int)) (v a : Int) (k : Nat) (fnd : Bool) (T : Nat -> Int) : Prop :=
  (fnd = false /\ ∀ i,i < k -> ¬ Cand LS v a i) \/ (fnd = true /\ ∃ i,i < k /\ Cand LS v a i /\ T = gf LS i /\ ∀ j,j < k -> Cand LS v a j -> gf LS i 0 <= gf LS j 0)
theorem Nx.skip {LS : List (Nat -> Int)} {v a : Int} {k : Nat} {fnd : Bool} {T : Nat -> Int} (h : Nx LS v a k fnd T) (hc : ¬ Cand LS v a k) : Nx LS v a (k + 1) fnd T := by
  rcases h with ⟨e,h⟩ | ⟨e,i,hi,h1,h2,h3⟩
  . refine Or.inl ⟨e,fun i hi => ?_⟩
    by_cases q : i = k
    . subst q; exact hc
    . exact h i (by omega)
  . refine Or.inr ⟨e,i,by omega,h1,h2,fun j hj hcj => ?_⟩
    by_cases q : j = k
    . subst q; exact absurd hcj hc
    . exact h3 j (by omega) hcj
theorem Nx.leave {LS : List (Nat -> Int)} {v a : Int} {k : Nat} {T : Nat -> Int} (h : Nx LS v a k true T) (hle : ¬ gf LS k 0 < T 0) : Nx LS v a (k + 1) true T := by
  rcases h with ⟨e,_⟩ | ⟨e,i,hi,h1,h2,h3⟩
  . cases e
  . refine Or.inr ⟨e,i,by omega,h1,h2,fun j hj hcj => ?_⟩
    by_cases q : j = k
    . subst q; rw [h2] at hle; omega
    . exact h3 j (by omega) hcj
theorem Nx.take {LS : List (Nat -> Int)} {v a : Int} {k : Nat} {fnd : Bool} {T : Nat -> Int} (h : Nx LS v a k fnd T) (hc : Cand LS v a k) (hlt : fnd = true -> gf LS k 0 < T 0) : Nx LS v a (k + 1) true (gf LS k) := by
  refine Or.inr ⟨rfl,k,by omega,hc,rfl,fun j hj hcj => ?_⟩
  by_cases q : j = k
  . subst q; exact Int.le_refl _
  . rcases h with ⟨_,h⟩ | ⟨e,i,hi,h1,h2,h3⟩
    . exact absurd hcj (h j (by omega))
    . have := h3 j (by omega) hcj
      have := hlt e
      rw [h2] at this
      omega
theorem res_cell_tmp {P : Program} {fn : Func} {p q : Tmp} {ty : TypeId} (h : fn.results = #[.cell p ty,.tmp q]) (tmps : Array Value) (w : World) (g : Nat) (t : TypeId) (cs : Array Value) (fr : Nat × Nat) (d : TypeDesc) (b : Value)
    (hp : tmps.getD p undef = .pointer (some ⟨g,0,none⟩)) (hq : tmps.getD q undef = b) (hg : w.heap[g]? = some (.cells cs t fr))
    (hu : P.underlying ty = some d) (hd : (match d with | .struct _ | .array _ _ => true | _ => false) = true) (hi : (P.info? ty).map (·.size) = some cs.size) :
    (results fn tmps).run P w = .ok (.tuple #[.agg cs,b]) w := by
  have hp' : tmps[p]?.getD undef = .pointer (some ⟨g,0,none⟩) := by simpa using hp
  have hq' : tmps[q]?.getD undef = b := by simpa using hq
  simp [results,h,hp',hq',asAddr,run_loadVar_row w g t ty cs fr d hg hu hd hi]
set_option maxHeartbeats 6400000 in
theorem next_any (sb : Nat) (keep ver : Int) (sl pv : Value) (LS PL : List (Nat -> Int)) (v a : Int) (w : World) (hs : StP w sb keep ver sl pv LS PL) (hl : LS.length <= 1000) :
    Calls Tryz.prog 106 #[.pointer (some ⟨sb,0,none⟩),.int .i64 v,.int .i64 a] w fun e w' => (∃ fnd T,e = .returned (.tuple #[.agg (fc T),.bool fnd]) /\ Nx LS v a LS.length fnd T) /\ Below w.heap.size w w' := by
  obtain ⟨t1,t2,t3⟩ := two_blocks w (.cells (fc zf) 86 (0,0)) (.cells (fc zf) 86 (0,0))
  have hlt := hs.lt
  obtain ⟨_,_,s2,_⟩ := hs.cells
  obtain ⟨oa,cap,rfl,_,hc⟩ := hs.own.at (by unfold maxLen; omega)
  have HC := hide hc
  have hz1 : (w.alloc (.cells (fc zf) 86)).heap.size = w.heap.size + 1 := by simp
  have HT1 := hide t1
  have HT3 := hide t3
  have hT2 := setRow_heap _ _ _ (fc zf) _ _ t2
  have HT2 := hide hT2
  have HT1' := hide ((setRow_other (show w.heap.size + 1 ≠ w.heap.size by omega) (fc zf)).trans t1)
  have HT3' := hide (below_setRow t3 (show w.heap.size <= w.heap.size + 1 by omega) (fc zf))
  clear hs hc t1 t3 hT2
  go_enter Tryz.func106,Tryz.ntmps106
  go_wp2_with (first | refine al26 rfl rfl w.heap.size rfl ?_ | refine al26 rfl rfl (w.heap.size + 1) hz1 ?_ | refine bld26 rfl rfl ?_ | refine st26 rfl _ _ rfl (w.heap.size + 1) zf rfl rfl zf t2 ?_)
  go_loopw [9,10,11] (fun fd i _ wr => ∃ (k : Nat) (fnd : Bool) (T : Nat -> Int),k <= LS.length /\ i = .int .i64 k /\ fd = .bool fnd /\ wr.heap[w.heap.size]? = some (.cells (fc zf) 86 (0,0)) /\ wr.heap[w.heap.size + 1]? = some (.cells (fc T) 86 (0,0)) /\ Hid (Nx LS v a k fnd T) /\ Below w.heap.size w wr) (fun _ i _ _ => LS.length - (intOf i).toNat)
  case atStart => exact ⟨0,false,zf,by omega,rfl,rfl,unhide HT1',unhide HT2,hide (Or.inl ⟨rfl,fun i hi => absurd hi (by omega)⟩),unhide HT3'⟩
  case round =>
    obtain ⟨k,fnd,T,hk,rfl,rfl,hg0,hg1,hNx,hb⟩ := hrel
    have r2 := (hb.cell (p := ⟨sb,2,none⟩) hlt).trans s2
    clear t2 s2
    by_cases hlk : k < LS.length
    . have hkn : (k : Int) < LS.length := by omega
      obtain ⟨b,off,rfl,hbl,hc0⟩ := unhide HC (by omega)
      have hrgW : ∀ W,Below w.heap.size w W -> W.rangeAt b (off + k * 26) (cc 26 (gf LS k)).toList := fun W h => cs_rng (fun i hi j hj => (h.cell (p := ⟨b,off + i * 26 + j,none⟩) hbl).trans (hc0 i hi j hj)) hlk
      have hrF := life_F (hrgW wr hb)
      have hA := heap_alloc_new wr (.cells (fc zf) 86 (0,0))
      have hA1 := setRow_heap _ _ _ (fc (gf LS k)) _ _ hA
      have hl0 : w.heap.size < wr.heap.size := (Array.getElem?_eq_some_iff.1 hg0).1
      have hl1 : w.heap.size + 1 < wr.heap.size := (Array.getElem?_eq_some_iff.1 hg1).1
      have q0 := (setRow_other (show wr.heap.size ≠ w.heap.size by omega) (fc (gf LS k))).trans ((Below.heap_alloc wr (.cells (fc zf) 86) w.heap.size hl0).trans hg0)
      have q1 := (setRow_other (show wr.heap.size ≠ w.heap.size + 1 by omega) (fc (gf LS k))).trans ((Below.heap_alloc wr (.cells (fc zf) 86) (w.heap.size + 1) hl1).trans hg1)
      have hb2 := below_setRow (below_alloc hb (Nat.le_refl _) (.cells (fc zf) 86)) (show w.heap.size <= wr.heap.size by omega) (fc (gf LS k))
      have hzr : (w.heap.size : Nat) <= wr.heap.size := by omega
      have s2' := (hb2.cell (p := ⟨sb,2,none⟩) hlt).trans ((hb.cell (p := ⟨sb,2,none⟩) hlt).symm.trans r2)
      have hrg2 := hrgW _ hb2
      have hA1c := blk_cells hA1
      have f0 := fc_at (gf LS k) 0 (by decide)
      obtain ⟨Id,hId⟩ : ∃ I,gf LS k 0 = I := ⟨_,rfl⟩
      rw [hId] at f0
      have HA1 := hide hA1
      have HQ0 := hide q0
      have HQ1 := hide q1
      have HB2 := hide hb2
      clear hrgW hc0 hb hb2 q0 q1
      by_cases hia : Id <= a
      . have HN := hide ((unhide hNx).skip (fun hc => by have := hc.2; omega))
        go_wp2_with (first | refine ldm26 rfl _ rfl b (off + k * 26) rfl (gf LS k) hrF ?_ | refine al26 rfl rfl wr.heap.size rfl ?_ | refine st26 rfl _ _ rfl wr.heap.size (gf LS k) rfl rfl zf hA ?_)
        go_roundw
        case rel => exact ⟨k + 1,fnd,T,by omega,by go_num,rfl,unhide HQ0,unhide HQ1,HN,unhide HB2⟩
        case measure => simp [intOf]; omega
      . go_wp2_with (first | refine ldm26 rfl _ rfl b (off + k * 26) rfl (gf LS k) hrF ?_ | refine al26 rfl rfl wr.heap.size rfl ?_ | refine st26 rfl _ _ rfl wr.heap.size (gf LS k) rfl rfl zf hA ?_ | refine ldm80 (by kernel_rfl) _ rfl b (off + k * 26) rfl (gf LS k) hrg2 ?_)
        refine (isIn_any (gf LS k) v _).mono ?_
        rintro e w3 ⟨rfl,hb3⟩
        have p0 := blk_on (unhide HQ0) hb3
        have p1 := blk_on (unhide HQ1) hb3
        have pA := blk_on (unhide HA1) hb3
        have pAc := blk_cells pA
        have p1c := blk_cells p1
        have hb4 := (unhide HB2).trans (hb3.mono (unhide HB2).size)
        have HB4 := hide hb4
        clear hb3 hb4 hrF hA hA1 hA1c s2' hrg2 hg0 hg1
        cases hin : inV v (gf LS k) with
        | false =>
          have HN := hide ((unhide hNx).skip (fun hc => by rw [hc.1] at hin; cases hin))
          go_wp2_with fail
          go_roundw
          case rel => exact ⟨k + 1,fnd,T,by omega,by go_num,rfl,p0,p1,HN,unhide HB4⟩
          case measure => simp [intOf]; omega
        | true =>
          have hcand : Cand LS v a k := ⟨hin,by rw [hId]; omega⟩
          have HCD := hide hcand
          clear hcand
          have hs1 := setRow_heap _ _ _ (fc (gf LS k)) _ _ p1
          have hs0 := (setRow_other (show w.heap.size + 1 ≠ w.heap.size by omega) (fc (gf LS k))).trans p0
          have HS1 := hide hs1
          have HS0 := hide hs0
          have HB5 := hide (below_setRow (unhide HB4) (show w.heap.size <= w.heap.size + 1 by omega) (fc (gf LS k)))
          clear hs1 hs0
          cases fnd with
          | false =>
            have HN := hide ((unhide hNx).take (unhide HCD) (fun h => by cases h))
            go_wp2_with (first | refine ld26 rfl _ rfl _ rfl (gf LS k) pA ?_ | refine st26 rfl _ _ rfl (w.heap.size + 1) (gf LS k) rfl rfl T p1 ?_)
            go_roundw
            case rel => exact ⟨k + 1,true,gf LS k,by omega,by go_num,rfl,unhide HS0,unhide HS1,HN,unhide HB5⟩
            case measure => simp [intOf]; omega
          | true =>
            have t0 := fc_at T 0 (by decide)
            obtain ⟨T0,hT0⟩ : ∃ I,T 0 = I := ⟨_,rfl⟩
            rw [hT0] at t0
            by_cases hless : Id < T0
            . have HN := hide ((unhide hNx).take (unhide HCD) (fun _ => by rw [hId,hT0]; exact hless))
              go_wp2_with (first | refine ld26 rfl _ rfl _ rfl (gf LS k) pA ?_ | refine st26 rfl _ _ rfl (w.heap.size + 1) (gf LS k) rfl rfl T p1 ?_)
              go_roundw
              case rel => exact ⟨k + 1,true,gf LS k,by omega,by go_num,rfl,unhide HS0,unhide HS1,HN,unhide HB5⟩
              case measure => simp [intOf]; omega
            . have HN := hide ((unhide hNx).leave (by rw [hId,hT0]; exact hless))
              go_wp2_with fail
              go_roundw
              case rel => exact ⟨k + 1,true,T,by omega,by go_num,rfl,p0,p1,HN,unhide HB4⟩
              case measure => simp [intOf]; omega
    . have hkn : k = LS.length := by omega
      subst hkn
      have HZ2 := setRow_heap _ _ _ (fc T) _ _ hg0
      have HBe := hide (below_setRow hb (Nat.le_refl _) (fc T))
      clear hb
      go_wp2_with (first | refine ld26 rfl _ rfl _ rfl T hg1 ?_ | refine st26 rfl _ _ rfl w.heap.size T rfl rfl zf hg0 ?_)
      refine bodyPost_ret (v := .tuple #[.agg (fc T),.bool fnd]) (res_cell_tmp Tryz.results106 _ _ w.heap.size 86 (fc T) (0,0) _ (.bool fnd) rfl rfl HZ2 Tryz.underlying86 rfl (szf _)) rfl ⟨⟨fnd,T,rfl,unhide hNx⟩,unhide HBe⟩
def cle (FL : List (Nat -> Int)) (a : Int) : Nat -> Nat
  | 0 => 0
  | k + 1 => if gf FL k 0 <= a then cle FL a k + 1 else cle FL a k
theorem cle_le (FL : List (Nat -> Int)) (a : Int) : ∀ k,cle FL a k <= k
  | 0 => Nat.le_refl _
  | k + 1 => by rw [cle]; have := cle_le FL a k; split <;> omega
theorem cle_all {FL : List (Nat -> Int)} {a : Int} : ∀ k,(∀ j,j < k -> gf FL j 0 <= a) -> cle FL a k = k
  | 0,_ => rfl
  | k + 1,h => by rw [cle,if_pos (h k (by omega)),cle_all k fun j hj => h j (by omega)]
theorem cle_none {FL : List (Nat -> Int)} {a : Int} : ∀ k,(∀ j,j < k -> a < gf FL j 0) -> cle FL a k = 0
  | 0,_ => rfl
  | k + 1,h => by rw [cle,if_neg (by have := h k (by omega); omega),cle_none k fun j hj => h j (by omega)]
theorem cle_congr {FL : List (Nat -> Int)} {a b : Int} : ∀ k,(∀ j,j < k -> (gf FL j 0 <= a ↔ gf FL j 0 <= b)) -> cle FL a k = cle FL b k
  | 0,_ => rfl
  | k + 1,h => by
    rw [cle,cle,cle_congr k fun j hj => h j (by omega)]
    by_cases c : gf FL k 0 <= a
    . rw [if_pos c,if_pos ((h k (by omega)).1 c)]
    . rw [if_neg c,if_neg (fun q => c ((h k (by omega)).2 q))]
theorem cle_more {FL : List (Nat -> Int)} {a b : Int} (j0 : Nat) (h1 : ¬ gf FL j0 0 <= a) (h2 : gf FL j0 0 <= b) : ∀ k,j0 < k -> (∀ j,j < k -> j ≠ j0 -> (gf FL j 0 <= a ↔ gf FL j 0 <= b)) -> cle FL b k = cle FL a k + 1
  | 0,h,_ => by omega
  | k + 1,h,hi => by
    by_cases e : j0 = k
    . subst e
      rw [cle,cle,if_pos h2,if_neg h1,cle_congr j0 fun j hj => hi j (by omega) (by omega)]
    . rw [cle,cle,cle_more j0 h1 h2 k (by omega) fun j hj => hi j (by omega)]
      by_cases c : gf FL k 0 <= a
      . rw [if_pos c,if_pos ((hi k (by omega) (fun q => e q.symm)).1 c)]
      . rw [if_neg c,if_neg (fun q => c ((hi k (by omega) (fun q => e q.symm)).2 q))]
structure RelV (v : Int) (LS FL : List (Nat -> Int)) : Prop where
  fwd : ∀ i,i < LS.length -> inV v (gf LS i) = true -> ∃ j,j < FL.length /\ SF (gf LS i) (gf FL j)
  fro : ∀ j,j < FL.length -> ∃ i,i < LS.length /\ inV v (gf LS i) = true /\ SF (gf LS i) (gf FL j)
  rt : ∀ j,j < FL.length -> Rt (gf FL j)
  dis : ∀ j j',j < FL.length -> j' < FL.length -> gf FL j 0 = gf FL j' 0 -> j = j'
  le40 : FL.length <= 40
theorem RelV.found {v a : Int} {LS FL : List (Nat -> Int)} {T : Nat -> Int} (h : RelV v LS FL) (hN : Nx LS v a LS.length true T) : ∃ j,j < FL.length /\ SF T (gf FL j) /\ a < T 0 /\ cle FL (T 0) FL.length = cle FL a FL.length + 1 := by
  rcases hN with ⟨e,_⟩ | ⟨_,i,hi,hc,rfl,hm⟩
  . cases e
  . obtain ⟨j,hj,hs⟩ := h.fwd i hi hc.1
    have e0 := hs 0 (by omega)
    refine ⟨j,hj,hs,hc.2,?_⟩
    have ha := hc.2
    refine cle_more j (by rw [<- e0]; omega) (by rw [<- e0]; exact Int.le_refl _) _ hj fun q hq hne => ⟨fun hh => by omega,fun hh => ?_⟩
    by_cases c : gf FL q 0 <= a
    . exact c
    . exfalso
      obtain ⟨i',hi',hin',hs'⟩ := h.fro q hq
      have e1 := hs' 0 (by omega)
      have := hm i' hi' ⟨hin',by omega⟩
      exact hne (h.dis q j hq hj (by omega))
theorem RelV.ended {v a : Int} {LS FL : List (Nat -> Int)} {T : Nat -> Int} (h : RelV v LS FL) (hN : Nx LS v a LS.length false T) : cle FL a FL.length = FL.length := by
  rcases hN with ⟨_,hno⟩ | ⟨e,_⟩
  . refine cle_all _ fun j hj => ?_
    obtain ⟨i,hi,hin,hs⟩ := h.fro j hj
    have e0 := hs 0 (by omega)
    by_cases c : gf FL j 0 <= a
    . exact c
    . exact absurd ⟨hin,by omega⟩ (hno i hi)
  . cases e
def pid (a : Int) (R : List (Nat -> Int)) : Nat -> Int
  | 0 => a
  | i + 1 => gf R i 0
structure RdP (FL : List (Nat -> Int)) (a : Int) (R : List (Nat -> Int)) : Prop where
  mem : ∀ i,i < R.length -> ∃ j,j < FL.length /\ SF (gf R i) (gf FL j)
  ris : ∀ i,i < R.length -> pid a R i < gf R i 0
  cnt : cle FL (pid a R R.length) FL.length = cle FL a FL.length + R.length
theorem pid_left {a : Int} {R : List (Nat -> Int)} {f : Nat -> Int} {i : Nat} (h : i <= R.length) : pid a (R ++ [f]) i = pid a R i := by
  cases i with
  | zero => rfl
  | succ i => show gf (R ++ [f]) i 0 = gf R i 0; rw [gf_left (by omega)]
theorem rdP_nil (FL : List (Nat -> Int)) (a : Int) : RdP FL a [] := ⟨fun i hi => by simp at hi,fun i hi => by simp at hi,by simp [pid]⟩
theorem RdP.add {FL R : List (Nat -> Int)} {a : Int} {T : Nat -> Int} (h : RdP FL a R) (hT : ∃ j,j < FL.length /\ SF T (gf FL j) /\ pid a R R.length < T 0 /\ cle FL (T 0) FL.length = cle FL (pid a R R.length) FL.length + 1) : RdP FL a (R ++ [T]) := by
  obtain ⟨j,hj,hs,hlt,hc⟩ := hT
  refine ⟨fun i hi => ?_,fun i hi => ?_,?_⟩
  . by_cases c : i < R.length
    . rw [gf_left c]; exact h.mem i c
    . have : i = R.length := by simp at hi; omega
      subst this; rw [gf_last]; exact ⟨j,hj,hs⟩
  . by_cases c : i < R.length
    . rw [gf_left c,pid_left (by omega)]; exact h.ris i c
    . have : i = R.length := by simp at hi; omega
      subst this; rw [gf_last,pid_left (Nat.le_refl _)]; exact hlt
  . rw [List.length_append,List.length_singleton]
    show cle FL (gf (R ++ [T]) R.length 0) FL.length = _
    rw [gf_last,hc,h.cnt]; omega
theorem ownC_empty (T : TypeId) (m : Nat) (w : World) (B : Nat) (hB : B <= w.heap.size) : OwnC T m (w.alloc (.cells #[] T)) B (.slice (some ⟨w.heap.size,0,none⟩) 0 0) [] :=
  ⟨by simp [fl],Or.inr ⟨w.heap.size,0,#[],rfl,hB,heap_alloc_new w (.cells #[] T (0,0)),Nat.le_refl _,by unfold maxLen; omega,by simp,by simp [fl]⟩⟩
set_option maxHeartbeats 1600000 in
theorem Read_no (sb : Nat) (keep ver : Int) (sl pv : Value) (LS PL : List (Nat -> Int)) (v a n : Int) (w : World) (hs : StP w sb keep ver sl pv LS PL) (hp : PL.length <= 100) (hk : 0 <= keep /\ keep <= 4) (hv : 0 <= ver /\ ver <= 100) (hh : heldB keep ver PL v = false) :
    Calls Tryz.prog 76 #[.pointer (some ⟨sb,0,none⟩),.int .i64 v,.int .i64 a,.int .i64 n] w fun e w' => e = .returned (.tuple #[.slice none 0 0,.int .i64 12]) /\ Below w.heap.size w w' := by
  have H := isHeld_any sb keep ver sl pv LS PL v w hs hp hk hv
  rw [hh] at H
  clear hs
  go_enter Tryz.func76,Tryz.ntmps76
  go_wp2_with fail
  refine H.mono ?_
  rintro e w1 ⟨rfl,hb1⟩
  have HB := hide hb1
  clear hb1
  go_wp2_with fail
  go_ret2
  exact ⟨rfl,unhide HB⟩
set_option maxHeartbeats 6400000 in
theorem Read_any (sb : Nat) (keep ver : Int) (sl pv : Value) (LS PL FL : List (Nat -> Int)) (v a : Int) (n : Nat) (w : World) (hs : StP w sb keep ver sl pv LS PL) (hl : LS.length <= 1000) (hp : PL.length <= 100) (hk : 0 <= keep /\ keep <= 4) (hv : 0 <= ver /\ ver <= 100) (hh : heldB keep ver PL v = true)
    (hR : RelV v LS FL) (hn : 1 <= n /\ n <= 8) :
    Calls Tryz.prog 76 #[.pointer (some ⟨sb,0,none⟩),.int .i64 v,.int .i64 a,.int .i64 n] w fun e w' => (∃ R rv,e = .returned (.tuple #[rv,.int .i64 0]) /\ OwnC 86 24 w' w.heap.size rv R /\ RdP FL a R /\ R.length <= n /\ (R.length = n \/ cle FL (pid a R R.length) FL.length = FL.length)) /\ Below w.heap.size w w' := by
  have H := isHeld_any sb keep ver sl pv LS PL v w hs hp hk hv
  rw [hh] at H
  have HS := hide hs
  have HR := hide hR
  have n1 : ¬ (n : Int) < 1 := by omega
  have n2 : ¬ (8 : Int) < n := by omega
  clear hs hR
  go_enter Tryz.func76,Tryz.ntmps76
  go_wp2_with fail
  refine H.mono ?_
  rintro e w1 ⟨rfl,hb1⟩
  have HO1 := hide (ownC_empty 86 24 w1 w.heap.size hb1.size)
  have hz1 : w.heap.size <= w1.heap.size := hb1.size
  have HB1 := hide (hb1.alloc hb1.size (.cells #[] 86))
  clear hb1 H
  go_wp2_with fail
  go_loopw [2,10,11,12,13] (fun av cv i _ _ wr => ∃ R : List (Nat -> Int),R.length <= n /\ i = .int .i64 R.length /\ Hid (av = .int .i64 (pid a R R.length)) /\ OwnC 86 24 wr w.heap.size cv R /\ Hid (RdP FL a R) /\ Below w.heap.size w wr) (fun _ _ i _ _ _ => n - (intOf i).toNat)
  case atStart => exact ⟨[],by simp,rfl,hide rfl,unhide HO1,hide (rdP_nil FL a),unhide HB1⟩
  case round =>
    obtain ⟨R,hRn,rfl,hav,ho,hRd,hb⟩ := hrel
    obtain ⟨A,hA⟩ : ∃ A,pid a R R.length = A := ⟨_,rfl⟩
    have hav' := unhide hav
    rw [hA] at hav'
    subst hav'
    clear hav
    by_cases hlt : R.length < n
    . have hkn : (R.length : Int) < n := by omega
      have HNX := hide (next_any sb keep ver sl pv LS PL v A wr ((unhide HS).on (hb.mono (Nat.le_refl _))) hl)
      have HO := hide ho
      have HBr := hide hb
      clear ho hb
      go_wp2_with fail
      refine (unhide HNX).mono ?_
      rintro e w2 ⟨⟨fnd,T,rfl,hNx⟩,hb2⟩
      have hAl := heap_alloc_new w2 (.cells (fc zf) 86 (0,0))
      have hA1 := setRow_heap _ _ _ (fc T) _ _ hAl
      have hbw := (unhide HBr).trans (hb2.mono (unhide HBr).size)
      have hsz : w.heap.size <= w2.heap.size := hbw.size
      have hb3 := below_setRow (below_alloc hbw (Nat.le_refl _) (.cells (fc zf) 86)) hsz (fc T)
      have ho2 := (unhide HO).on hb2
      have ho3 : OwnC 86 24 ((w2.alloc (.cells (fc zf) 86)).setRow w2.heap.size (fc T)) w.heap.size u10 R := (ho2.alloc (.cells (fc zf) 86)).same (fun g hg => setRow_other (by have := (ho2.lt g hg).2; omega) _)
      have hz3 : w.heap.size <= ((w2.alloc (.cells (fc zf) 86)).setRow w2.heap.size (fc T)).heap.size := hb3.size
      have hz2 : wr.heap.size <= w2.heap.size := hb2.size
      have HNx := hide hNx
      have HB3 := hide hb3
      have HO3 := hide ho3
      clear hb2 hbw hb3 ho2 hNx HNX
      cases fnd with
      | false =>
        have HE := hide ((unhide HR).ended (unhide HNx))
        go_wp2_with (first | refine al26 rfl rfl w2.heap.size rfl ?_ | refine st26 rfl _ _ rfl w2.heap.size T rfl rfl zf hAl ?_)
        go_ret2
        exact ⟨⟨R,_,rfl,unhide HO3,unhide hRd,by omega,Or.inr (by rw [hA]; exact unhide HE)⟩,unhide HB3⟩
      | true =>
        have HE := hide ((unhide HR).found (unhide HNx))
        have hA1c := blk_cells hA1
        have f0 := fc_at T 0 (by decide)
        obtain ⟨I,hI⟩ : ∃ I,T 0 = I := ⟨_,rfl⟩
        rw [hI] at f0
        have hA4 := heap_alloc_new ((w2.alloc (.cells (fc zf) 86)).setRow w2.heap.size (fc T)) (.cells (fc T) 86 (0,0))
        obtain ⟨v7,w7,hr7,ho7,hg7⟩ := run_apF (((w2.alloc (.cells (fc zf) 86)).setRow w2.heap.size (fc T)).alloc (.cells (fc T) 86)) w.heap.size u10 R [T] (ho3.alloc _) ((w2.alloc (.cells (fc zf) 86)).setRow w2.heap.size (fc T)).heap.size 0 1 (fun i hi j hj => by
          obtain rfl : i = 0 := by simp at hi; omega
          rw [blk_cells hA4]
          simpa [gf] using fc_at T j hj) (by simp; omega) (by simp; omega)
        have hb7 := ((unhide HB3).alloc hz3 (.cells (fc T) 86)).grown hg7 (by simp; omega) (fun q hq => (ho3.lt q hq).1)
        have hc7 : w7.cell? ⟨w2.heap.size,0,none⟩ = some (.int .i64 I) := by
          have hl2 : w2.heap.size < ((w2.alloc (.cells (fc zf) 86)).setRow w2.heap.size (fc T)).heap.size := (Array.getElem?_eq_some_iff.1 hA1).1
          rw [World.cell?_of_block (a := ⟨w2.heap.size,0,none⟩) ((hg7.block w2.heap.size (by simp; omega) (fun e => by have := ((unhide HO).lt w2.heap.size e.symm).2; omega)).trans (Below.heap_alloc _ _ _ hl2)),hA1c 0]
          exact f0
        have HB7 := hide hb7
        have HO7 := hide ho7
        clear hb7 ho7 hg7 hA4 ho3 hA1c
        go_wp2_with (first | refine al26 rfl rfl w2.heap.size rfl ?_ | refine st26 rfl _ _ rfl w2.heap.size T rfl rfl zf hAl ?_ | refine ld26 rfl _ rfl _ rfl T hA1 ?_ | refine bs34 rfl _ rfl T rfl _ rfl ?_ | (at_builtin; refine wl_apF hr7 rfl (.tmp 40) (.tmp 42) rfl rfl rfl rfl ?_))
        go_roundw
        case rel => exact ⟨R ++ [T],by simp; omega,by simp,hide (by rw [List.length_append,List.length_singleton]; show _ = Value.int .i64 (gf (R ++ [T]) R.length 0); rw [gf_last,hI]),unhide HO7,hide ((unhide hRd).add (by rw [hA]; exact unhide HE)),unhide HB7⟩
        case measure => simp [intOf]; omega
    . have hkn : R.length = n := by omega
      have hkn' : ¬ (R.length : Int) < n := by omega
      go_wp2_with fail
      go_ret2
      exact ⟨⟨R,_,rfl,ho,unhide hRd,by omega,Or.inl hkn⟩,hb⟩
def ri (PI : List Int) : List (Nat -> Int) := PI.map fun x _ => x
theorem ri_len (PI : List Int) : (ri PI).length = PI.length := by simp [ri]
theorem ri_gf {PI : List Int} {i : Nat} (h : i < PI.length) : gf (ri PI) i 0 = PI[i] := by
  unfold gf ri; rw [List.getElem?_map,List.getElem?_eq_getElem h]; rfl
theorem ri_app (A : List Int) (x : Int) : ri (A ++ [x]) = ri A ++ [fun _ => x] := by simp [ri]
theorem hasP_ri (PI : List Int) (v : Int) : hasP (ri PI) v = decide (v ∈ PI) := by
  by_cases h : v ∈ PI
  . obtain ⟨i,hi,e⟩ := List.mem_iff_getElem.1 h
    rw [decide_eq_true h]
    exact hasP_yes (by rw [ri_len]; exact hi) (by rw [ri_gf hi]; exact e)
  . rw [decide_eq_false h]
    exact hasP_no fun i hi e => h (by rw [ri_len] at hi; rw [ri_gf hi] at e; rw [<- e]; exact List.getElem_mem hi)
structure Fr (S : Nat -> Prop) (w w' : World) : Prop where
  os : w'.os = w.os
  tape : w'.tape = w.tape
  output : w'.output = w.output
  size : w.heap.size <= w'.heap.size
  block : ∀ k,k < w.heap.size -> ¬ S k -> w'.heap[k]? = w.heap[k]?
def PinR (sb : Nat) (keep ver : Int) (sl pv : Value) (LS : List (Nat -> Int)) (PI : List Int) (v : Int) (w : World) (e : Ending) (w' : World) : Prop :=
  (heldB keep ver (ri PI) v = false /\ e = .returned (.int .i64 12) /\ Below w.heap.size w w') \/ (heldB keep ver (ri PI) v = true /\ 6 <= PI.length /\ e = .returned (.int .i64 13) /\ Below w.heap.size w w') \/
  (heldB keep ver (ri PI) v = true /\ PI.length < 6 /\ e = .returned (.int .i64 0) /\ Fr (fun k => k = sb \/ pv.ownBlock = some k) w w' /\ ∃ pv',StP w' sb keep ver sl pv' LS (ri (PI ++ [v])) /\ (pv'.ownBlock = pv.ownBlock \/ ∀ g,pv'.ownBlock = some g -> w.heap.size <= g))
set_option maxHeartbeats 3200000 in
theorem Pin_any (sb : Nat) (keep ver : Int) (sl pv : Value) (LS : List (Nat -> Int)) (PI : List Int) (v : Int) (w : World) (hs : StP w sb keep ver sl pv LS (ri PI)) (hdj : ∀ g,pv.ownBlock = some g -> sl.ownBlock ≠ some g) (hl : PI.length <= 6) (hk : 0 <= keep /\ keep <= 4) (hv : 0 <= ver /\ ver <= 100) :
    Calls Tryz.prog 73 #[.pointer (some ⟨sb,0,none⟩),.int .i64 v] w fun e w' => PinR sb keep ver sl pv LS PI v w e w' := by
  have H := isHeld_any sb keep ver sl pv LS (ri PI) v w hs (by rw [ri_len]; omega) hk hv
  have HS := hide hs
  have HDJ := hide hdj
  clear hs hdj
  cases hh : heldB keep ver (ri PI) v with
  | false =>
    rw [hh] at H
    go_enter Tryz.func73,Tryz.ntmps73
    go_wp2_with fail
    refine H.mono ?_
    rintro e w1 ⟨rfl,hb1⟩
    have HH : Hid (PinR sb keep ver sl pv LS PI v w (.returned (.int .i64 12)) w1) := Or.inl ⟨hh,rfl,hb1⟩
    clear hb1 H
    go_wp2_with fail
    go_ret
    exact unhide HH
  | true =>
    rw [hh] at H
    go_enter Tryz.func73,Tryz.ntmps73
    go_wp2_with fail
    refine H.mono ?_
    rintro e w1 ⟨rfl,hb1⟩
    have hs1 := (unhide HS).on hb1
    obtain ⟨_,_,_,s3⟩ := hs1.cells
    have hlen : (ri PI).length = PI.length := ri_len PI
    have hlt := (unhide HS).lt
    have HS1 := hide hs1
    have HB1 := hide hb1
    obtain ⟨oa,cap,hpv⟩ : ∃ oa cap,pv = .slice oa (ri PI).length cap := by
      rcases hs1.pins.2 with ⟨h,h0⟩ | ⟨g,c,cur,h,_⟩
      . exact ⟨none,0,by rw [h0]; exact h⟩
      . exact ⟨_,_,h⟩
    subst hpv
    clear hs1 hb1 H
    by_cases h6 : 6 <= PI.length
    . have h6' : (6 : Int) <= (ri PI).length := by omega
      have HH : Hid (PinR sb keep ver sl (.slice oa (ri PI).length cap) LS PI v w (.returned (.int .i64 13)) w1) := Or.inr (Or.inl ⟨hh,h6,rfl,unhide HB1⟩)
      clear hlen
      go_wp2_with fail
      go_ret
      exact unhide HH
    . have h6' : ¬ (6 : Int) <= (ri PI).length := by omega
      have hL : (ri PI).length <= 1000 := by omega
      have hB : sb + 1 <= w1.heap.size := by have := (unhide HS1).lt; omega
      have hown := (unhide HS1).pins
      clear hlen
      go_wp2_with (at_builtin; refine ap_int rfl (.tmp 19) (.tmp 21) rfl _ (sb + 1) _ (ri PI) v rfl hown rfl hL hB ?_)
      intro v5 w5 ho5 hg5 hd5
      have hz5 : w1.heap.size + 1 <= w5.heap.size := by have := hg5.size; simpa using this
      have bk : ∀ q,q < w1.heap.size -> (Value.slice oa (ri PI).length cap).ownBlock ≠ some q -> w5.heap[q]? = w1.heap[q]? := fun q hq hne => (hg5.block q (by simp; omega) (fun e => hne e.symm)).trans (Below.heap_alloc _ _ _ hq)
      have hs5 : w5.heap[sb]? = some (.cells #[.int .i64 keep,.int .i64 ver,sl,.slice oa (ri PI).length cap] 133 (0,0)) := (bk sb (by omega) (fun e => by have := (hown.lt sb e).1; omega)).trans (unhide HS1).blk
      have c5 := (blk_cells hs5 3).trans (show _ = some (Value.slice oa (ri PI).length cap) from rfl)
      have fz5 := frz_blk hs5 3
      obtain ⟨o5,n5,k5,hv5⟩ : ∃ oa n cap,v5 = .slice oa n cap := by
        rcases ho5.2 with ⟨h,_⟩ | ⟨g,c,cur,h,_⟩
        . exact ⟨_,_,_,h⟩
        . exact ⟨_,_,_,h⟩
      subst hv5
      have hsl := (unhide HS1).own
      have HH : Hid (PinR sb keep ver sl (.slice oa (ri PI).length cap) LS PI v w (.returned (.int .i64 0)) (w5.setCell ⟨sb,3,none⟩ (.slice o5 n5 k5))) := by
        have b1 := unhide HB1
        refine Or.inr (Or.inr ⟨hh,by omega,rfl,⟨hg5.os.trans b1.os,hg5.tape.trans b1.tape,hg5.output.trans b1.output,?_,?_⟩,_,⟨blk_set hs5 _,?_,?_⟩,?_⟩)
        . have := b1.size; simp only [World.setCell,Array.size_modify]; omega
        . intro q hq hn
          rw [Below.heap_setCell _ _ _ _ (fun e => hn (Or.inl e)),bk q (by have := b1.size; omega) (fun e => hn (Or.inr e)),b1.block q hq]
        . refine hsl.same fun g hg => (Below.heap_setCell _ _ _ _ (by have := (hsl.lt g hg).1; simp; omega)).trans (bk g (hsl.lt g hg).2 (fun e => unhide HDJ g e hg))
        . rw [ri_app]
          exact OwnC.same ho5 fun g hg => Below.heap_setCell _ _ _ _ (by have := (OwnC.lt ho5 g hg).1; simp; omega)
        . rcases hd5 with d | d
          . exact Or.inl d
          . exact Or.inr fun g hg => by have := d g hg; have := b1.size; omega
      clear hs5 hsl bk ho5 hg5 hd5 hown s3
      go_wp2_with fail
      go_ret
      exact unhide HH
def UnpR (sb : Nat) (keep ver : Int) (sl : Value) (LS : List (Nat -> Int)) (PI : List Int) (v : Int) (w : World) (e : Ending) (w' : World) : Prop :=
  (v ∉ PI /\ e = .returned (.int .i64 12) /\ Below w.heap.size w w') \/ (v ∈ PI /\ e = .returned (.int .i64 0) /\ Fr (fun k => k = sb) w w' /\ ∃ pv',StP w' sb keep ver sl pv' LS (ri (PI.erase v)) /\ ∀ g,pv'.ownBlock = some g -> w.heap.size <= g)
theorem take_erase {PI : List Int} {v : Int} {k : Nat} (hk : k < PI.length) : (PI.take (k + 1)).erase v = if v ∈ PI.take k then (PI.take k).erase v ++ [PI[k]] else if PI[k] = v then PI.take k else PI.take k ++ [PI[k]] := by
  have e : PI.take (k + 1) = PI.take k ++ [PI[k]] := by rw [List.take_add_one,List.getElem?_eq_getElem hk]; rfl
  rw [e,List.erase_append]
  by_cases c : v ∈ PI.take k
  . rw [if_pos c,if_pos c]
  . rw [if_neg c,if_neg c]
    by_cases d : PI[k] = v
    . rw [if_pos d,d]; simp
    . rw [if_neg d,List.erase_of_not_mem (by simp [Ne.symm d])]
theorem mem_take_succ {PI : List Int} {v : Int} {k : Nat} (hk : k < PI.length) : v ∈ PI.take (k + 1) ↔ v ∈ PI.take k \/ v = PI[k] := by
  have e : PI.take (k + 1) = PI.take k ++ [PI[k]] := by rw [List.take_add_one,List.getElem?_eq_getElem hk]; rfl
  rw [e,List.mem_append,List.mem_singleton]
set_option maxHeartbeats 6400000 in
theorem Unpin_any (sb : Nat) (keep ver : Int) (sl pv : Value) (LS : List (Nat -> Int)) (PI : List Int) (v : Int) (w : World) (hs : StP w sb keep ver sl pv LS (ri PI)) (hl : PI.length <= 6) :
    Calls Tryz.prog 78 #[.pointer (some ⟨sb,0,none⟩),.int .i64 v] w fun e w' => UnpR sb keep ver sl LS PI v w e w' := by
  obtain ⟨_,_,_,s3⟩ := hs.cells
  have hlt := hs.lt
  obtain ⟨oa,cap,rfl,hc⟩ := hs.pins.ints (by rw [ri_len]; omega)
  have HC := hide hc
  have HS := hide hs
  have HO0 := hide (ownC_empty 3 1 w w.heap.size (Nat.le_refl _))
  have hlen := ri_len PI
  obtain ⟨n,hn⟩ : ∃ n,PI.length = n := ⟨_,rfl⟩
  have HN := hide hn
  have hrn : (ri PI).length = n := by omega
  rw [hrn] at s3 HC HS
  clear hc hs hlen
  go_enter Tryz.func78,Tryz.ntmps78
  go_wp2_with fail
  go_loopw [5,6,7] (fun lv fv i wr => ∃ (k : Nat),k <= n /\ i = .int .i64 k /\ Hid (fv = .bool (decide (v ∈ PI.take k))) /\ OwnC 3 1 wr w.heap.size lv (ri ((PI.take k).erase v)) /\ Below w.heap.size w wr) (fun _ _ i _ => n - (intOf i).toNat)
  case atStart => exact ⟨0,by omega,rfl,hide (by simp),unhide HO0,below_one _ _⟩
  case round =>
    obtain ⟨k,hk,rfl,hfv,ho,hb⟩ := hrel
    have hfv' := unhide hfv
    clear hfv
    have r3 := (hb.cell (p := ⟨sb,3,none⟩) hlt).trans s3
    by_cases hlk : k < n
    . have hkn : (k : Int) < n := by omega
      have hkP : k < PI.length := by rw [unhide HN]; exact hlk
      obtain ⟨b,off,rfl,hbl,hc0⟩ := unhide HC (by omega)
      have ck := (hb.cell (p := ⟨b,off + k,none⟩) hbl).trans (hc0 k hlk)
      rw [ri_gf hkP] at ck
      have HTE := hide (take_erase (v := v) hkP)
      have HMT := hide (mem_take_succ (v := v) hkP)
      obtain ⟨X,hX⟩ : ∃ X,PI[k] = X := ⟨_,rfl⟩
      rw [hX] at ck HTE HMT
      have hsz : w.heap.size <= wr.heap.size := hb.size
      have hL : (ri ((PI.take k).erase v)).length <= 1000 := by
        rw [ri_len]
        have := List.length_erase_le (a := v) (l := PI.take k)
        have h2 : (PI.take k).length <= k := by simp; omega
        omega
      have HBr := hide hb
      clear hc0 hb
      by_cases hin : v ∈ PI.take k
      . rw [decide_eq_true hin] at hfv'
        subst hfv'
        have HD : Hid (decide (v ∈ PI.take (k + 1)) = true) := decide_eq_true ((unhide HMT).2 (Or.inl hin))
        have HL : Hid ((PI.take (k + 1)).erase v = (PI.take k).erase v ++ [X]) := by show (PI.take (k + 1)).erase v = _; rw [unhide HTE,if_pos hin]
        by_cases hx : X = v
        . subst hx
          go_wp2_with (at_builtin; refine ap_int rfl (.tmp 31) (.tmp 39) rfl _ w.heap.size _ (ri ((PI.take k).erase X)) X rfl ho rfl hL hsz ?_)
          intro v5 w5 ho5 hg5 hd5
          have hb5 := ((unhide HBr).alloc hsz (.cells #[.int .i64 X] 3)).grown hg5 (by simp; omega) (fun q hq => (ho.lt q hq).1)
          have HO5 := hide ho5
          clear ho5 hg5 hd5 ck r3 ho
          go_wp2_with fail
          go_roundw
          case rel => exact ⟨k + 1,by omega,by go_num,hide (by rw [unhide HD]),by rw [unhide HL,ri_app]; exact unhide HO5,hb5⟩
          case measure => simp [intOf]; omega
        . go_wp2_with (at_builtin; refine ap_int rfl (.tmp 31) (.tmp 39) rfl _ w.heap.size _ (ri ((PI.take k).erase v)) X rfl ho rfl hL hsz ?_)
          intro v5 w5 ho5 hg5 hd5
          have hb5 := ((unhide HBr).alloc hsz (.cells #[.int .i64 X] 3)).grown hg5 (by simp; omega) (fun q hq => (ho.lt q hq).1)
          have HO5 := hide ho5
          clear ho5 hg5 hd5 ck r3 ho
          go_wp2_with fail
          go_roundw
          case rel => exact ⟨k + 1,by omega,by go_num,hide (by rw [unhide HD]),by rw [unhide HL,ri_app]; exact unhide HO5,hb5⟩
          case measure => simp [intOf]; omega
      . rw [decide_eq_false hin] at hfv'
        subst hfv'
        have her : (PI.take k).erase v = PI.take k := List.erase_of_not_mem hin
        by_cases hx : X = v
        . have HD : Hid (decide (v ∈ PI.take (k + 1)) = true) := decide_eq_true ((unhide HMT).2 (Or.inr hx.symm))
          have HL : Hid ((PI.take (k + 1)).erase v = (PI.take k).erase v) := by show (PI.take (k + 1)).erase v = _; rw [unhide HTE,if_neg hin,if_pos hx,her]
          have HO5 := hide ho
          subst hx
          clear ho her
          go_wp2_with fail
          go_roundw
          case rel => exact ⟨k + 1,by omega,by go_num,hide (by rw [unhide HD]),by rw [unhide HL]; exact unhide HO5,unhide HBr⟩
          case measure => simp [intOf]; omega
        . have HD : Hid (decide (v ∈ PI.take (k + 1)) = false) := decide_eq_false (fun h => by rcases (unhide HMT).1 h with h | h; exact hin h; exact hx h.symm)
          have HL : Hid ((PI.take (k + 1)).erase v = (PI.take k).erase v ++ [X]) := by show (PI.take (k + 1)).erase v = _; rw [unhide HTE,if_neg hin,if_neg hx,her]
          clear her
          go_wp2_with (at_builtin; refine ap_int rfl (.tmp 31) (.tmp 39) rfl _ w.heap.size _ (ri ((PI.take k).erase v)) X rfl ho rfl hL hsz ?_)
          intro v5 w5 ho5 hg5 hd5
          have hb5 := ((unhide HBr).alloc hsz (.cells #[.int .i64 X] 3)).grown hg5 (by simp; omega) (fun q hq => (ho.lt q hq).1)
          have HO5 := hide ho5
          clear ho5 hg5 hd5 ck r3 ho
          go_wp2_with fail
          go_roundw
          case rel => exact ⟨k + 1,by omega,by go_num,hide (by rw [unhide HD]),by rw [unhide HL,ri_app]; exact unhide HO5,hb5⟩
          case measure => simp [intOf]; omega
    . have hkn : k = n := by omega
      subst hkn
      have htk : PI.take k = PI := List.take_of_length_le (by rw [unhide HN]; omega)
      rw [htk] at hfv' ho
      by_cases hin : v ∈ PI
      . rw [decide_eq_true hin] at hfv'
        subst hfv'
        have hsr := (hb.block sb hlt).trans (unhide HS).blk
        have fz := frz_blk hsr 3
        obtain ⟨o5,n5,k5,hv5⟩ : ∃ oa n cap,u5 = .slice oa n cap := by
          rcases ho.2 with ⟨h,_⟩ | ⟨g,c,cur,h,_⟩
          . exact ⟨_,_,_,h⟩
          . exact ⟨_,_,_,h⟩
        subst hv5
        have hsl := (unhide HS).own
        have HH : Hid (UnpR sb keep ver sl LS PI v w (.returned (.int .i64 0)) (wr.setCell ⟨sb,3,none⟩ (.slice o5 n5 k5))) := by
          refine Or.inr ⟨hin,rfl,⟨hb.os,hb.tape,hb.output,by have := hb.size; simpa [World.setCell] using this,fun q hq hn => ?_⟩,_,⟨blk_set hsr _,?_,?_⟩,fun g hg => (ho.lt g hg).1⟩
          . rw [Below.heap_setCell _ _ _ _ (fun e => hn e),hb.block q hq]
          . exact hsl.same fun g hg => (Below.heap_setCell _ _ _ _ (by have := (hsl.lt g hg).1; simp; omega)).trans (hb.block g (hsl.lt g hg).2)
          . exact (ho.same fun g hg => Below.heap_setCell _ _ _ _ (by have := (ho.lt g hg).1; simp; omega)).mono (by omega)
        clear hb ho hsr hsl s3
        go_wp2_with fail
        go_ret
        exact unhide HH
      . rw [decide_eq_false hin] at hfv'
        subst hfv'
        have HH : Hid (UnpR sb keep ver sl LS PI v w (.returned (.int .i64 12)) wr) := Or.inl ⟨hin,rfl,hb⟩
        clear hb ho
        go_wp2_with fail
        go_ret
        exact unhide HH
theorem inV_end {v n : Int} {g : Nat -> Int} (hv : v <= n) (hn : 0 <= n) (h0 : g 25 = 0) : inV v (upd g 25 (n + 1)) = inV v g := by
  unfold inV upd
  simp only [if_true,show ¬ (24 : Nat) = 25 by omega,if_false,h0]
  rw [decide_eq_true (show v < n + 1 by omega),decide_eq_false (show ¬ n + 1 = 0 by omega)]
  simp
theorem inV_new {v n : Int} {f : Nat -> Int} (hv : v <= n) : inV v (lifeOf f (n + 1)) = false := by
  unfold inV lifeOf
  simp only [show ¬ (24 : Nat) < 24 by omega,if_false,if_true]
  rw [decide_eq_false (by omega)]; rfl
theorem inV_now {n : Int} {g : Nat -> Int} (h : g 24 <= n /\ g 25 <= n) : inV n g = decide (g 25 = 0) := by
  unfold inV
  rw [decide_eq_true h.1,decide_eq_false (show ¬ n < g 25 by omega)]
  simp
theorem RelV.end_ {v n : Int} {LS G : List (Nat -> Int)} (h : RelV v LS G) (hv : v <= n) (hn : 0 <= n) {i : Nat} (hi : gf LS i 25 = 0) : RelV v (setL LS i 25 (n + 1)) G := by
  have key : ∀ k,k < LS.length -> inV v (gf (setL LS i 25 (n + 1)) k) = inV v (gf LS k) /\ SF (gf (setL LS i 25 (n + 1)) k) (gf LS k) := by
    intro k hk
    rw [setL_gf _ _ _ _ _ hk]
    by_cases e : k = i
    . subst e; rw [if_pos rfl]; exact ⟨inV_end hv hn hi,sf_upd _ _⟩
    . rw [if_neg e]; exact ⟨rfl,fun _ _ => rfl⟩
  refine ⟨fun k hk hin => ?_,fun j hj => ?_,h.rt,h.dis,h.le40⟩
  . rw [setL_len] at hk
    rw [(key k hk).1] at hin
    obtain ⟨j,hj,hs⟩ := h.fwd k hk hin
    exact ⟨j,hj,(key k hk).2.trans hs⟩
  . obtain ⟨k,hk,hin,hs⟩ := h.fro j hj
    exact ⟨k,by rw [setL_len]; exact hk,by rw [(key k hk).1]; exact hin,(key k hk).2.trans hs⟩
theorem RelV.join {v n : Int} {LS G : List (Nat -> Int)} (h : RelV v LS G) (hv : v <= n) (f : Nat -> Int) : RelV v (LS ++ [lifeOf f (n + 1)]) G := by
  refine ⟨fun k hk hin => ?_,fun j hj => ?_,h.rt,h.dis,h.le40⟩
  . by_cases c : k < LS.length
    . rw [gf_left c] at hin ⊢; exact h.fwd k c hin
    . have : k = LS.length := by simp at hk; omega
      subst this; rw [gf_last,inV_new hv] at hin; cases hin
  . obtain ⟨k,hk,hin,hs⟩ := h.fro j hj
    exact ⟨k,by simp; omega,by rw [gf_left hk]; exact hin,by rw [gf_left hk]; exact hs⟩
theorem bnd_end' {LS : List (Nat -> Int)} {m : Int} (hB : Bnd LS m) (i : Nat) : Bnd (setL LS i 25 m) m := by
  intro k hk
  rw [setL_len] at hk
  have := hB k hk
  rw [setL_gf _ _ _ _ _ hk]
  by_cases e : k = i
  . subst e; rw [if_pos rfl]; simp only [upd]; simp; omega
  . rw [if_neg e]; exact this
theorem EditR.keeps {n : Int} {e : Nat -> Int} {LS LS' : List (Nat -> Int)} (h : EditR (n + 1) e LS 0 LS') (hn : 0 <= n) (hB : Bnd LS (n + 1)) : Bnd LS' (n + 1) /\ ∀ v,v <= n -> ∀ G,RelV v LS G -> RelV v LS' G := by
  rcases h with ⟨_,hP⟩ | ⟨_,hD⟩ | ⟨_,_,q,_⟩
  . rcases hP with ⟨_,q,_⟩ | ⟨_,⟨i,hF,_,rfl⟩ | ⟨_,_,q,_⟩ | ⟨_,_,_,rfl⟩⟩
    . omega
    . exact ⟨bnd_join (bnd_end' hB i) (by omega) (Int.le_refl _) _,fun v hv G hR => (hR.end_ hv hn hF.2.1.1).join hv _⟩
    . omega
    . exact ⟨bnd_join hB (by omega) (Int.le_refl _) _,fun v hv G hR => hR.join hv _⟩
  . rcases hD with ⟨i,hF,_,rfl⟩ | ⟨_,q,_⟩
    . exact ⟨bnd_end' hB i,fun v hv G hR => hR.end_ hv hn hF.2.1.1⟩
    . omega
  . omega
theorem batch_joint {n : Int} {es : Nat -> Nat -> Int} {LS FL : List (Nat -> Int)} (hn : 0 <= n) (hR : Rel LS FL) (hB : Bnd LS (n + 1)) : ∀ {k : Nat} {LSk FLk : List (Nat -> Int)},(∀ i,i < k -> Rt (eF (es i))) -> AppK (n + 1) es LS k LSk -> EdK es FL k FLk ->
    Rel LSk FLk /\ Bnd LSk (n + 1) /\ ∀ v,v <= n -> ∀ G,RelV v LS G -> RelV v LSk G
  | 0,_,_,_,h1,h2 => by
    rw [show _ = LS from h1,show _ = FL from h2]; exact ⟨hR,hB,fun _ _ _ h => h⟩
  | k + 1,_,_,hr,⟨LSm,a1,a2⟩,⟨FLm,b1,b2⟩ => by
    obtain ⟨q1,q2,q3⟩ := batch_joint hn hR hB (fun i hi => hr i (by omega)) a1 b1
    obtain ⟨_,q4⟩ := q1.step (by omega) (hr k (by omega)) b2 a2
    obtain ⟨q5,q6⟩ := a2.keeps hn q2
    exact ⟨q4,q5,fun v hv G h => q6 v hv G (q3 v hv G h)⟩
theorem AppK.pre {ver : Int} {es : Nat -> Nat -> Int} {LS : List (Nat -> Int)} : ∀ {m : Nat} {L : List (Nat -> Int)},AppK ver es LS m L -> ∀ j,j < m -> ∃ A B,AppK ver es LS j A /\ EditR ver (es j) A 0 B
  | 0,_,_,j,hj => by omega
  | m + 1,_,⟨LSm,a1,a2⟩,j,hj => by
    by_cases c : j = m
    . subst c; exact ⟨LSm,_,a1,a2⟩
    . exact a1.pre j (by omega)
theorem EdK.pre {es : Nat -> Nat -> Int} {L : List (Nat -> Int)} : ∀ {m : Nat} {F : List (Nat -> Int)},EdK es L m F -> ∀ j,j < m -> ∃ A B,EdK es L j A /\ EdR (es j) A B
  | 0,_,_,j,hj => by omega
  | m + 1,_,⟨FLm,a1,a2⟩,j,hj => by
    by_cases c : j = m
    . subst c; exact ⟨FLm,_,a1,a2⟩
    . exact a1.pre j (by omega)
theorem relV_now {n : Int} {LS FL : List (Nat -> Int)} (h : Rel LS FL) (hB : Bnd LS n) (h40 : FL.length <= 40) : RelV n LS FL := by
  refine ⟨fun i hi hin => ?_,fun j hj => ?_,h.rt,h.dis,h40⟩
  . rw [inV_now (hB i hi),decide_eq_true_eq] at hin
    exact h.fwd i hi hin
  . obtain ⟨i,hi,h25,hs⟩ := h.fro j hj
    exact ⟨i,hi,by rw [inV_now (hB i hi)]; exact decide_eq_true h25,hs⟩
theorem relV_nil : RelV 0 [] [] := relV_now rel_nil (fun i hi => by simp at hi) (by simp)
theorem OwnC.ty {T : TypeId} {m : Nat} {w : World} {B : Nat} {v : Value} {l : List (Nat -> Int)} (h : OwnC T m w B v l) {g : Nat} (hg : v.ownBlock = some g) : ∃ cur,w.heap[g]? = some (.cells cur T (0,0)) := by
  rcases h.2 with ⟨rfl,_⟩ | ⟨g',cap,cur,rfl,_,hh,_⟩
  . simp [Value.ownBlock] at hg
  . simp only [Value.ownBlock,Option.some.injEq] at hg
    subst hg; exact ⟨cur,hh⟩
theorem blk_ne {w : World} {g g' : Nat} {c c' : Array Value} {T T' : TypeId} {f f' : Nat × Nat} (h : w.heap[g]? = some (.cells c T f)) (h' : w.heap[g']? = some (.cells c' T' f')) (hT : T ≠ T') : g ≠ g' := by
  intro e; subst e; rw [h] at h'; simp only [Option.some.injEq,Obj.cells.injEq] at h'; exact hT h'.2.1
theorem KOk.err {k : K4} (h : KOk k) : keyErr k.l k.z k.x k.y = 0 := by
  have h1 := h.l
  have h2 := h.z
  have h3 := h.x
  have h4 := h.y
  unfold keyErr
  rw [if_neg (by omega),if_neg (by omega),if_neg (by omega)]
theorem StP.sto {w : World} {sb : Nat} {keep ver : Int} {sl pv : Value} {LS PL : List (Nat -> Int)} (h : StP w sb keep ver sl pv LS PL) : Sto w sb keep ver sl pv LS := ⟨h.blk,h.own⟩
def stK (v : Int) (k : K4) (LS : List Ft) : Int := stp v k.l k.z k.x k.y LS LS.length
set_option maxHeartbeats 3200000 in
theorem isUnchanged_any (fb : Nat) (X : FV) (ver : Int) (sl pv : Value) (LS PL : List Ft) (l z x y reads : Int) (w : World) (hf : FBlk w fb X) (hs : StP w X.sb 0 ver sl pv LS PL) (hl : LS.length <= 1000) (hk : KOk ⟨l,z,x,y⟩) (hv : 0 <= ver) :
    Calls Tryz.prog 110 #[.pointer (some ⟨fb,0,none⟩),.agg #[.int .i64 l,.int .i64 z,.int .i64 x,.int .i64 y],.int .i64 reads] w fun e w' => e = .returned (.bool (decide (stK ver ⟨l,z,x,y⟩ LS <= reads))) /\ Below w.heap.size w w' := by
  have hlt0 := blk_lt hf
  have he := hk.err
  have hb0 := (Below.refl w.heap.size w).alloc (Nat.le_refl _) (.cells #[.int .i64 l,.int .i64 z,.int .i64 x,.int .i64 y] 39)
  have hA := heap_alloc_new w (.cells #[.int .i64 l,.int .i64 z,.int .i64 x,.int .i64 y] 39 (0,0))
  have hz1 : (w.alloc (.cells #[.int .i64 l,.int .i64 z,.int .i64 x,.int .i64 y] 39)).heap.size = w.heap.size + 1 := by simp
  have c6 := (hb0.cell (p := ⟨fb,6,none⟩) hlt0).trans hf.cells.2.2.2.2.2.2.1
  have hs1 := hs.on hb0
  have V := Version_any X.sb 0 ver sl pv LS PL _ hs1
  have hF : ∀ W,Below (w.alloc (.cells #[.int .i64 l,.int .i64 z,.int .i64 x,.int .i64 y] 39)).heap.size (w.alloc (.cells #[.int .i64 l,.int .i64 z,.int .i64 x,.int .i64 y] 39)) W -> W.cell? ⟨fb,6,none⟩ = some (.pointer (some ⟨X.sb,0,none⟩)) := fun W h => (h.cell (p := ⟨fb,6,none⟩) (by show fb < _; omega)).trans c6
  have hK : ∀ W,Below (w.alloc (.cells #[.int .i64 l,.int .i64 z,.int .i64 x,.int .i64 y] 39)).heap.size (w.alloc (.cells #[.int .i64 l,.int .i64 z,.int .i64 x,.int .i64 y] 39)) W -> W.rangeAt w.heap.size 0 #[.int .i64 l,.int .i64 z,.int .i64 x,.int .i64 y].toList := fun W h => rng_blk (blk_on hA h)
  have ST : ∀ W,Below (w.alloc (.cells #[.int .i64 l,.int .i64 z,.int .i64 x,.int .i64 y] 39)).heap.size (w.alloc (.cells #[.int .i64 l,.int .i64 z,.int .i64 x,.int .i64 y] 39)) W -> Calls Tryz.prog 122 #[.pointer (some ⟨X.sb,0,none⟩),.int .i64 ver,.agg #[.int .i64 l,.int .i64 z,.int .i64 x,.int .i64 y]] W fun e w' => e = .returned (.tuple #[.int .i64 (stp ver l z x y LS LS.length),.int .i64 0]) /\ Below W.heap.size W w' := fun W h => Stamp_any X.sb 0 ver sl pv LS ver l z x y W (hs1.on h).sto hl he ⟨hv,Int.le_refl _⟩
  have HB0 := hide hb0
  unfold stK
  clear hf hs hs1 hb0 he hk
  generalize stp ver l z x y LS LS.length = S at ST ⊢
  go_enter Tryz.func110,Tryz.ntmps110
  go_wp2_with fail
  refine V.mono ?_
  rintro e w9 ⟨rfl,rfl⟩
  go_wp2_with fail
  refine region_bq (by kernel_rfl) (by kernel_rfl) ?_
  refine q_move rfl _ rfl (.pointer (some ⟨fb,0,none⟩)) rfl ?_
  simp only [Act.put,qA,qB,qC]
  refine q_val rfl (.pointer (some ⟨fb,0,none⟩)) (fun w' hw' => by simp [go_sem]) ?_
  simp only [Act.put,qA,qB,qC]
  refine q_val rfl (.pointer (some ⟨fb,6,none⟩)) (fun w' hw' => by simp [go_sem]) ?_
  simp only [Act.put,qA,qB,qC]
  refine q_val rfl (.pointer (some ⟨X.sb,0,none⟩)) (fun w' hw' => by simp [go_sem,hF w' hw']) ?_
  simp only [Act.put,qA,qB,qC]
  refine q_move rfl _ rfl (.int .i64 ver) rfl ?_
  simp only [Act.put,qA,qB,qC]
  refine q_load rfl 39 _ rfl (w.heap.size) (0) rfl (#[.int .i64 l,.int .i64 z,.int .i64 x,.int .i64 y]) _ Tryz.underlying39 rfl (sz39 _ _ _ _) (hK) ?_
  simp only [Act.put,qA,qB,qC]
  refine q_callC rfl 122 (#[.pointer (some ⟨X.sb,0,none⟩),.int .i64 ver,.agg #[.int .i64 l,.int .i64 z,.int .i64 x,.int .i64 y]]) (fun _ => by simp [go_sem]) (.tuple #[.int .i64 S,.int .i64 0]) (ST) ?_
  simp only [Act.put,qA,qB,qC]
  refine q_move rfl _ rfl (.tuple #[.int .i64 S,.int .i64 0]) rfl ?_
  simp only [Act.put,qA,qB,qC]
  refine q_val rfl (.int .i64 S) (fun w' hw' => by simp [go_sem]) ?_
  simp only [Act.put,qA,qB,qC]
  refine q_val rfl (.int .i64 0) (fun w' hw' => by simp [go_sem]) ?_
  simp only [Act.put,qA,qB,qC]
  refine q_assign rfl _ rfl (.int .i64 S) rfl ?_
  simp only [Act.put,qA,qB,qC]
  refine q_assign rfl _ rfl (.int .i64 0) rfl ?_
  simp only [Act.put,qA,qB,qC]
  refine wpQuiet_nil ?_
  intro w2 hw2
  have HB2 := hide ((unhide HB0).trans (hw2.mono (by simp)))
  clear hw2 hF hK ST V hA c6
  go_wp2_with fail
  go_ret
  exact ⟨rfl,unhide HB2⟩
set_option maxHeartbeats 3200000 in
theorem isServed_any (fb : Nat) (X : FV) (ver : Int) (sl pv : Value) (LS PL : List Ft) (n l z x y a d reads : Int) (w : World) (hf : FBlk w fb X) (hs : StP w X.sb 0 ver sl pv LS PL) (hl : LS.length <= 1000) (hk : KOk ⟨l,z,x,y⟩) (hv : 0 <= ver) :
    Calls Tryz.prog 109 #[.pointer (some ⟨fb,0,none⟩),.agg #[.int .i64 n,.int .i64 l,.int .i64 z,.int .i64 x,.int .i64 y,.int .i64 a,.int .i64 d],.int .i64 reads] w fun e w' => e = .returned (.bool (decide (a <= reads) || decide (stK ver ⟨l,z,x,y⟩ LS <= reads))) /\ Below w.heap.size w w' := by
  have hb0 := (Below.refl w.heap.size w).alloc (Nat.le_refl _) (.cells #[.int .i64 n,.int .i64 l,.int .i64 z,.int .i64 x,.int .i64 y,.int .i64 a,.int .i64 d] 138)
  have U := isUnchanged_any fb X ver sl pv LS PL l z x y reads _ (blk_on hf hb0) (hs.on hb0) hl hk hv
  have HB0 := hide hb0
  clear hf hs hb0 hk
  by_cases c : a <= reads
  . go_enter Tryz.func109,Tryz.ntmps109
    go_wp2_with fail
    go_ret
    exact ⟨ret_bool (by simp [c]),unhide HB0⟩
  . go_enter Tryz.func109,Tryz.ntmps109
    go_wp2_with fail
    refine U.mono ?_
    rintro e w9 ⟨rfl,hb9⟩
    have HB9 := hide ((unhide HB0).trans (hb9.mono (by simp)))
    clear hb9
    go_wp2_with fail
    go_ret
    exact ⟨ret_bool (by rw [decide_eq_false (show ¬ a <= reads by omega)]; rfl),unhide HB9⟩
theorem filter_snoc {α : Type} {l : List α} {k : Nat} {a : α} (p : α -> Bool) (h : l[k]? = some a) : (l.take (k + 1)).filter p = (l.take k).filter p ++ (if p a = true then [a] else []) := by
  rw [take_succ h,List.filter_append]
  by_cases c : p a = true
  . rw [if_pos c]; simp [c]
  . rw [if_neg c]; simp [c]
theorem OwnR.sl {α : Type} {R : Row α} {T : TypeId} {w : World} {v : Value} {l : List α} (h : OwnR R T w v l) : ∃ oa n c,v = .slice oa n c := by
  rcases h with ⟨rfl,_⟩ | ⟨g,off,c,cur,rfl,_⟩
  . exact ⟨_,_,_,rfl⟩
  . exact ⟨_,_,_,rfl⟩
set_option maxHeartbeats 6400000 in
theorem endForsaken_any (fb : Nat) (X : FV) (ls : List K4) (ws : List Req) (w : World) (hf : FBlk w fb X) (hv : AtR rReq w X.wv ws) (ho : OwnR rKey 39 w X.lv ls) (hs : ∀ r ∈ ws,Small r.k) (hl : ws.length <= 100000000) (hll : ls.length <= 10000000) :
    Calls Tryz.prog 72 #[.pointer (some ⟨fb,0,none⟩)] w fun e w' => e = .returned (.tuple #[]) /\ (∃ lv',FBlk w' fb { X with lv := lv' } /\ OwnR rKey 39 w' lv' (ls.filter fun b => decide (0 < countFor ws b)) /\ ∀ g,lv'.ownBlock = some g -> w.heap.size <= g) /\ Frm (fun k => k = fb) w w' := by
  have hlt0 := blk_lt hf
  obtain ⟨oa,cap,e,hcap,hm,hc⟩ := ho.at
  have HC := hide hc
  have HF := hide hf
  have HV := hide hv
  have HS := hide hs
  unfold maxLen at hm
  have hN := ownR_lit (R := rKey) (T := 39) w [] #[] rfl (by simp)
  have hB1 := (Below.refl w.heap.size w).alloc (Nat.le_refl _) (.cells #[] 39)
  have HN := hide hN
  have HB1 := hide hB1
  have c8 : w.cell? ⟨fb,8,none⟩ = some (.slice oa ls.length cap) := by rw [<- e]; exact hf.cells.2.2.2.2.2.2.2.2.1
  have HC8 := hide c8
  clear hf ho hc hN hB1 e c8 hv hs
  go_enter Tryz.func72,Tryz.ntmps72
  go_wp2_with fail
  go_loopw [2,3] (fun lv i wr => ∃ k : Nat,k <= ls.length /\ i = .int .i64 k /\ OwnR rKey 39 wr lv ((ls.take k).filter fun b => decide (0 < countFor ws b)) /\ Hid (∀ g,lv.ownBlock = some g -> w.heap.size <= g) /\ Below w.heap.size w wr) (fun _ i _ => ls.length - (intOf i).toNat)
  case atStart => exact ⟨0,by omega,rfl,by simpa using unhide HN,hide (fun g hg => by simp [Value.ownBlock] at hg; omega),unhide HB1⟩
  case round =>
    obtain ⟨k,hk,rfl,hown,hfr,hb⟩ := hrel
    have hsz := hb.size
    have r8 := (hb.cell (p := ⟨fb,8,none⟩) hlt0).trans (unhide HC8)
    by_cases hlt : k < ls.length
    . have hkn : (k : Int) < ls.length := by omega
      obtain ⟨b,off,rfl,hbl,hc0⟩ := unhide HC (by omega)
      obtain ⟨⟨rl,rz,rx,ry⟩,ht⟩ : ∃ t,ls[k]? = some t := ⟨_,List.getElem?_eq_getElem hlt⟩
      have hrg0 : w.rangeAt b (off + k * 4) #[.int .i64 rl,.int .i64 rz,.int .i64 rx,.int .i64 ry].toList := AtR.key hc0 ht
      have hrg := rng_in hrg0 hb hbl
      have CF := countFor_any fb X ws rl rz rx ry wr (blk_on (unhide HF) hb) ((unhide HV).on hb) (unhide HS) hl
      have HB := hide hb
      have HR0 := hide hrg0
      have HO := hide hown
      clear hb hc0 hrg0 hown
      go_wp2_with (refine ldG 39 #[.int .i64 rl,.int .i64 rz,.int .i64 rx,.int .i64 ry] Tryz.underlying39 rfl (sz39 _ _ _ _) b (off + k * 4) hrg rfl _ rfl rfl ?_)
      refine CF.mono ?_
      rintro e w2 ⟨rfl,hb2⟩
      have hB2 := (unhide HB).trans (hb2.mono (unhide HB).size)
      have hrg2 := rng_in (unhide HR0) hB2 hbl
      have q8 := (hB2.cell (p := ⟨fb,8,none⟩) hlt0).trans (unhide HC8)
      have hown2 := (unhide HO).on hb2
      have hsz2 := hB2.size
      have HB2 := hide hB2
      have hfs := filter_snoc (fun b => decide (0 < countFor ws b)) ht
      obtain ⟨C,hC⟩ : ∃ C,countFor ws ⟨rl,rz,rx,ry⟩ = C := ⟨_,rfl⟩
      rw [hC] at hfs
      rw [hC]
      clear CF hb2 hB2 hrg r8
      by_cases hp : 0 < C
      . have hp' : (0 : Int) < C := by omega
        rw [if_pos (by simpa using hp)] at hfs
        have hat := at_new rKey 39 w2 ⟨rl,rz,rx,ry⟩ #[.int .i64 rl,.int .i64 rz,.int .i64 rx,.int .i64 ry] rfl
        have hownA := hown2.on ((Below.refl _ _).alloc (Nat.le_refl _) (.cells #[.int .i64 rl,.int .i64 rz,.int .i64 rx,.int .i64 ry] 39))
        obtain ⟨v3,w3,r1,r2,r3,r4⟩ := apKey hownA hat (by have := List.length_filter_le (fun b => decide (0 < countFor ws b)) (ls.take k); simp at this ⊢; omega)
        rw [<- hfs] at r2
        have HO3 := hide r2
        have HB3 := hide (((unhide HB2).alloc hsz2 (.cells #[.int .i64 rl,.int .i64 rz,.int .i64 rx,.int .i64 ry] 39)).grown r3 (by simp; omega) (fun g hg => unhide hfr g hg))
        have HFR := hide (show ∀ g,v3.ownBlock = some g -> w.heap.size <= g from fun g hg => by
          rcases r4 with r4 | r4
          . exact unhide hfr g (r4 ▸ hg)
          . have := r4 g hg; simp at this; omega)
        clear hown2 hat hownA r2 r3 r4 hfs hp hC
        go_wp2_with (first | refine ldG 39 #[.int .i64 rl,.int .i64 rz,.int .i64 rx,.int .i64 ry] Tryz.underlying39 rfl (sz39 _ _ _ _) b (off + k * 4) hrg2 rfl _ rfl rfl ?_ | refine wlV _ _ (bsKey rl rz rx ry _ _ _ rfl rfl _) rfl ?_ | (at_builtin; refine wlR 93 r1 rfl _ _ rfl rfl rfl rfl ?_))
        go_roundw
        case rel => exact ⟨k + 1,by omega,by go_num,unhide HO3,unhide HFR,unhide HB3⟩
        case measure => simp [intOf]; omega
      . have hp' : ¬ (0 : Int) < C := by omega
        rw [if_neg (by simpa using hp),List.append_nil] at hfs
        rw [<- hfs] at hown2
        have HO3 := hide hown2
        clear hown2 hfs hp hC
        go_wp2_with fail
        go_roundw
        case rel => exact ⟨k + 1,by omega,by go_num,unhide HO3,hfr,unhide HB2⟩
        case measure => simp [intOf]; omega
    . have hkn : k = ls.length := by omega
      have hfb := blk_on (unhide HF) hb
      have hfz := frzF hfb 8
      have htl : ls.take k = ls := by rw [hkn,List.take_length]
      rw [htl] at hown
      have HH : Hid ((∃ lv',FBlk (wr.setCell ⟨fb,8,none⟩ u2) fb { X with lv := lv' } /\ OwnR rKey 39 (wr.setCell ⟨fb,8,none⟩ u2) lv' (ls.filter fun b => decide (0 < countFor ws b)) /\ ∀ g,lv'.ownBlock = some g -> w.heap.size <= g) /\ Frm (fun k => k = fb) w (wr.setCell ⟨fb,8,none⟩ u2)) :=
        ⟨⟨u2,FBlk.set hfb 8 u2 (FV.set_lv X u2),hown.same (fun g hg => Below.heap_setCell _ _ _ _ (by have := unhide hfr g hg; show g ≠ fb; omega)),unhide hfr⟩,(Frm.of_below hb).setCell u2 (fun _ => rfl)⟩
      obtain ⟨oa4,n4,c4,rfl⟩ := hown.sl
      clear hown hb hfb htl
      subst hkn
      go_wp2_with fail
      exact bodyPost_end (results_none Tryz.results72 _ _ _) rfl ⟨rfl,unhide HH⟩
theorem sz138 (n l z x y a d : Int) : (Tryz.prog.info? 138).map (·.size) = some (#[Value.int .i64 n,Value.int .i64 l,Value.int .i64 z,Value.int .i64 x,Value.int .i64 y,Value.int .i64 a,Value.int .i64 d] : Array Value).size := by kernel_rfl
def lateR (ws : List Req) (now : Int) : List Rep := (ws.filter fun r => decide (r.due <= now)).map fun r => ⟨r.who,504,⟨#[]⟩,⟨#[]⟩⟩
def lateL (ws : List Req) (now : Int) : List Req := ws.filter fun r => decide (¬ r.due <= now)
theorem lateR_snoc {ws : List Req} {k : Nat} {r : Req} (now : Int) (h : ws[k]? = some r) : lateR (ws.take (k + 1)) now = lateR (ws.take k) now ++ (if r.due <= now then [⟨r.who,504,⟨#[]⟩,⟨#[]⟩⟩] else []) := by
  unfold lateR
  rw [filter_snoc _ h,List.map_append]
  congr 1
  by_cases c : r.due <= now <;> simp [c]
theorem lateL_snoc {ws : List Req} {k : Nat} {r : Req} (now : Int) (h : ws[k]? = some r) : lateL (ws.take (k + 1)) now = lateL (ws.take k) now ++ (if r.due <= now then [] else [r]) := by
  unfold lateL
  rw [filter_snoc _ h]
  congr 1
  by_cases c : r.due <= now <;> simp [c]
theorem lateR_len (ws : List Req) (now : Int) : (lateR ws now).length <= ws.length := by unfold lateR; rw [List.length_map]; exact List.length_filter_le _ _
theorem lateL_len (ws : List Req) (now : Int) : (lateL ws now).length <= ws.length := List.length_filter_le _ _
theorem fresh_of {v v' : Value} {B n : Nat} (hfr : ∀ g,v.ownBlock = some g -> B <= g) (r4 : v'.ownBlock = v.ownBlock \/ ∀ g,v'.ownBlock = some g -> n <= g) (hn : B <= n) : ∀ g,v'.ownBlock = some g -> B <= g := fun g hg => by
  rcases r4 with r4 | r4
  . exact hfr g (r4 ▸ hg)
  . have := r4 g hg; omega
set_option maxHeartbeats 6400000 in
theorem answerLate_any (fb : Nat) (X : FV) (ws : List Req) (w : World) (hf : FBlk w fb X) (ho : OwnR rReq 138 w X.wv ws) (hl : ws.length <= 10000000) :
    Calls Tryz.prog 71 #[.pointer (some ⟨fb,0,none⟩)] w fun e w' => (∃ rv,e = .returned rv /\ OwnR rRep 35 w' rv (lateR ws X.nw) /\ ∀ g,rv.ownBlock = some g -> w.heap.size <= g) /\ (∃ wv',FBlk w' fb { X with wv := wv' } /\ OwnR rReq 138 w' wv' (lateL ws X.nw) /\ ∀ g,wv'.ownBlock = some g -> w.heap.size <= g) /\ Frm (fun k => k = fb) w w' := by
  have hlt0 := blk_lt hf
  obtain ⟨oa,cap,e,hcap,hm,hc⟩ := ho.at
  have HC := hide hc
  have HF := hide hf
  unfold maxLen at hm
  have hz1 : (w.alloc (.cells #[] 35)).heap.size = w.heap.size + 1 := by simp
  have hB1 := (Below.refl w.heap.size w).alloc (Nat.le_refl _) (.cells #[] 35)
  have hB2 := hB1.alloc (by simp) (.cells #[] 138)
  have hN := (ownR_lit (R := rRep) (T := 35) w [] #[] rfl (by simp)).on ((Below.refl _ _).alloc (Nat.le_refl _) (.cells #[] 138))
  have hM := ownR_lit (R := rReq) (T := 138) (w.alloc (.cells #[] 35)) [] #[] rfl (by simp)
  have HN := hide hN
  have HM := hide hM
  have HB1 := hide hB2
  obtain ⟨nw,hnw⟩ : ∃ nw,X.nw = nw := ⟨_,rfl⟩
  have c7 : w.cell? ⟨fb,7,none⟩ = some (.slice oa ws.length cap) := by rw [<- e]; exact hf.cells.2.2.2.2.2.2.2.1
  have c3 : w.cell? ⟨fb,3,none⟩ = some (.int .i64 nw) := by rw [<- hnw]; exact hf.cells.2.2.2.1
  have HC7 := hide c7
  have HC3 := hide c3
  rw [hnw]
  have HNW := hide hnw
  clear hf ho hc hN hM hB1 hB2 e c7 c3 hnw
  go_enter Tryz.func71,Tryz.ntmps71
  go_wp2_with fail
  go_loopw [3,4,5,6] (fun rv lv i _ wr => ∃ k : Nat,k <= ws.length /\ i = .int .i64 k /\ OwnR rRep 35 wr rv (lateR (ws.take k) nw) /\ OwnR rReq 138 wr lv (lateL (ws.take k) nw) /\ Hid (∀ g,rv.ownBlock = some g -> w.heap.size <= g) /\ Hid (∀ g,lv.ownBlock = some g -> w.heap.size <= g) /\ Below w.heap.size w wr) (fun _ _ i _ _ => ws.length - (intOf i).toNat)
  case atStart => exact ⟨0,by omega,rfl,by simpa [lateR] using unhide HN,by simpa [lateL] using unhide HM,hide (fun g hg => by simp [Value.ownBlock] at hg; omega),hide (fun g hg => by simp [Value.ownBlock] at hg; omega),unhide HB1⟩
  case round =>
    obtain ⟨k,hk,rfl,hown,hownL,hfr,hfrL,hb⟩ := hrel
    have hsz := hb.size
    have r7 := (hb.cell (p := ⟨fb,7,none⟩) hlt0).trans (unhide HC7)
    by_cases hlt : k < ws.length
    . have hkn : (k : Int) < ws.length := by omega
      obtain ⟨b,off,rfl,hbl,hc0⟩ := unhide HC (by omega)
      obtain ⟨⟨rn,⟨rl,rz,rx,ry⟩,ra,rd⟩,ht⟩ : ∃ t,ws[k]? = some t := ⟨_,List.getElem?_eq_getElem hlt⟩
      have hrg : wr.rangeAt b (off + k * 7) #[.int .i64 rn,.int .i64 rl,.int .i64 rz,.int .i64 rx,.int .i64 ry,.int .i64 ra,.int .i64 rd].toList := rng_in (AtR.req hc0 ht) hb hbl
      have hA := heap_alloc_new wr (.cells #[.int .i64 rn,.int .i64 rl,.int .i64 rz,.int .i64 rx,.int .i64 ry,.int .i64 ra,.int .i64 rd] 138 (0,0))
      have hbA := (Below.refl wr.heap.size wr).alloc (Nat.le_refl _) (.cells #[.int .i64 rn,.int .i64 rl,.int .i64 rz,.int .i64 rx,.int .i64 ry,.int .i64 ra,.int .i64 rd] 138)
      have hF3 : ∀ W,Below (wr.alloc (.cells #[.int .i64 rn,.int .i64 rl,.int .i64 rz,.int .i64 rx,.int .i64 ry,.int .i64 ra,.int .i64 rd] 138)).heap.size (wr.alloc (.cells #[.int .i64 rn,.int .i64 rl,.int .i64 rz,.int .i64 rx,.int .i64 ry,.int .i64 ra,.int .i64 rd] 138)) W -> W.cell? ⟨fb,3,none⟩ = some (.int .i64 nw) := fun W h => ((hb.trans ((hbA.trans (h.mono (by simp))).mono hb.size)).cell (p := ⟨fb,3,none⟩) hlt0).trans (unhide HC3)
      have hD6 : ∀ W,Below (wr.alloc (.cells #[.int .i64 rn,.int .i64 rl,.int .i64 rz,.int .i64 rx,.int .i64 ry,.int .i64 ra,.int .i64 rd] 138)).heap.size (wr.alloc (.cells #[.int .i64 rn,.int .i64 rl,.int .i64 rz,.int .i64 rx,.int .i64 ry,.int .i64 ra,.int .i64 rd] 138)) W -> W.cell? ⟨wr.heap.size,6,none⟩ = some (.int .i64 rd) := fun W h => (blk_cells (blk_on hA h) 6).trans rfl
      clear hc0
      go_wp2_with (refine ldG 138 #[.int .i64 rn,.int .i64 rl,.int .i64 rz,.int .i64 rx,.int .i64 ry,.int .i64 ra,.int .i64 rd] Tryz.underlying138 rfl (sz138 _ _ _ _ _ _ _) b (off + k * 7) hrg rfl _ rfl rfl ?_)
      refine region_bq (by kernel_rfl) (by kernel_rfl) ?_
      refine q_val rfl (.pointer (some ⟨wr.heap.size,6,none⟩)) (fun w' hw' => by simp [go_sem]) ?_
      simp only [Act.put,qA,qB,qC]
      refine q_val rfl (.int .i64 rd) (fun w' hw' => by simp [go_sem,hD6 w' hw']) ?_
      simp only [Act.put,qA,qB,qC]
      refine q_move rfl _ rfl (.pointer (some ⟨fb,0,none⟩)) rfl ?_
      simp only [Act.put,qA,qB,qC]
      refine q_val rfl (.pointer (some ⟨fb,0,none⟩)) (fun w' hw' => by simp [go_sem]) ?_
      simp only [Act.put,qA,qB,qC]
      refine q_val rfl (.pointer (some ⟨fb,3,none⟩)) (fun w' hw' => by simp [go_sem]) ?_
      simp only [Act.put,qA,qB,qC]
      refine q_val rfl (.int .i64 nw) (fun w' hw' => by simp [go_sem,hF3 w' hw']) ?_
      simp only [Act.put,qA,qB,qC]
      refine q_val rfl (.bool (decide (rd <= nw))) (fun w' hw' => by simp [go_sem]) ?_
      simp only [Act.put,qA,qB,qC]
      refine wpQuiet_nil ?_
      intro w2 hw2
      have hA2 := blk_on hA hw2
      have hbW := hbA.trans (hw2.mono (by simp))
      have hown2 := hown.on hbW
      have hownL2 := hownL.on hbW
      have hb2 := hb.trans (hbW.mono hb.size)
      have hsz2 := hb2.size
      have hlr := lateR_snoc nw ht
      have hll := lateL_snoc nw ht
      have hlen1 := lateR_len (ws.take k) nw
      have hlen2 := lateL_len (ws.take k) nw
      rw [List.length_take] at hlen1 hlen2
      have HB2 := hide hb2
      have hlt2 : w.heap.size <= wr.heap.size := hsz
      clear hF3 hD6 hA hbA hw2 hbW hb hb2 hown hownL hrg r7
      dsimp only at hlr hll
      by_cases hp : rd <= nw
      . rw [if_pos hp] at hlr
        rw [if_pos hp,List.append_nil] at hll
        have hat := at_new rRep 35 w2 ⟨rn,504,⟨#[]⟩,⟨#[]⟩⟩ #[.int .i64 rn,.int .i64 504,.string ⟨#[]⟩,.string ⟨#[]⟩] rfl
        have hbA := (Below.refl w2.heap.size w2).alloc (Nat.le_refl _) (.cells #[.int .i64 rn,.int .i64 504,.string ⟨#[]⟩,.string ⟨#[]⟩] 35)
        have hownA := hown2.on hbA
        have hownLA := hownL2.on hbA
        obtain ⟨v3,w3,r1,r2,r3,r4⟩ := apRep hownA hat (by simp; omega)
        rw [<- hlr] at r2
        rw [<- hll] at hownLA
        have hc0 := (blk_cells hA2 0).trans (show _ = some (Value.int .i64 rn) from rfl)
        have HO3 := hide r2
        have HL3 := hide (hownLA.same (w' := w3) fun g hg => r3.block g (hownLA.lt hg) (fun q => by
          obtain ⟨c1,d1⟩ := hownA.ty q.symm
          exact own_ne hownLA d1 (by decide) g hg rfl))
        have HB3 := hide (((unhide HB2).alloc hsz2 (.cells #[.int .i64 rn,.int .i64 504,.string ⟨#[]⟩,.string ⟨#[]⟩] 35)).grown r3 (by simp; omega) (fun g hg => unhide hfr g hg))
        have HFR := hide (fresh_of (unhide hfr) r4 (by simp; omega))
        clear hown2 hownL2 hat hownA hownLA r2 r3 r4 hlr hll hbA hA2
        go_wp2_with (first | refine wlV _ _ (bsRep rn 504 ⟨#[]⟩ ⟨#[]⟩ _ _ _ rfl rfl _) rfl ?_ | (at_builtin; refine wlR 64 r1 rfl _ _ rfl rfl rfl rfl ?_))
        go_roundw
        case rel => exact ⟨k + 1,by omega,by go_num,unhide HO3,unhide HL3,unhide HFR,hfrL,unhide HB3⟩
        case measure => simp [intOf]; omega
      . rw [if_neg hp,List.append_nil] at hlr
        rw [if_neg hp] at hll
        have hat := at_new rReq 138 w2 ⟨rn,⟨rl,rz,rx,ry⟩,ra,rd⟩ #[.int .i64 rn,.int .i64 rl,.int .i64 rz,.int .i64 rx,.int .i64 ry,.int .i64 ra,.int .i64 rd] rfl
        have hbA := (Below.refl w2.heap.size w2).alloc (Nat.le_refl _) (.cells #[.int .i64 rn,.int .i64 rl,.int .i64 rz,.int .i64 rx,.int .i64 ry,.int .i64 ra,.int .i64 rd] 138)
        have hownA := hown2.on hbA
        have hownLA := hownL2.on hbA
        obtain ⟨v3,w3,r1,r2,r3,r4⟩ := apReq hownLA hat (by simp; omega)
        rw [<- hll] at r2
        rw [<- hlr] at hownA
        have HL3 := hide r2
        have HO3 := hide (hownA.same (w' := w3) fun g hg => r3.block g (hownA.lt hg) (fun q => by
          obtain ⟨c1,d1⟩ := hownLA.ty q.symm
          exact own_ne hownA d1 (by decide) g hg rfl))
        have HB3 := hide (((unhide HB2).alloc hsz2 (.cells #[.int .i64 rn,.int .i64 rl,.int .i64 rz,.int .i64 rx,.int .i64 ry,.int .i64 ra,.int .i64 rd] 138)).grown r3 (by simp; omega) (fun g hg => unhide hfrL g hg))
        have HFR := hide (fresh_of (unhide hfrL) r4 (by simp; omega))
        have hrg2 : w2.rangeAt wr.heap.size 0 #[.int .i64 rn,.int .i64 rl,.int .i64 rz,.int .i64 rx,.int .i64 ry,.int .i64 ra,.int .i64 rd].toList := rng_blk hA2
        clear hown2 hownL2 hat hownA hownLA r2 r3 r4 hlr hll hbA hA2
        go_wp2_with (first | refine ldG 138 #[.int .i64 rn,.int .i64 rl,.int .i64 rz,.int .i64 rx,.int .i64 ry,.int .i64 ra,.int .i64 rd] Tryz.underlying138 rfl (sz138 _ _ _ _ _ _ _) wr.heap.size 0 hrg2 rfl _ rfl rfl ?_ | refine wlV _ _ (bsReq rn rl rz rx ry ra rd _ _ _ rfl rfl _) rfl ?_ | (at_builtin; refine wlR 92 r1 rfl _ _ rfl rfl rfl rfl ?_))
        go_roundw
        case rel => exact ⟨k + 1,by omega,by go_num,unhide HO3,unhide HL3,hfr,unhide HFR,unhide HB3⟩
        case measure => simp [intOf]; omega
    . have hkn : k = ws.length := by omega
      have hnw := unhide HNW
      subst hnw
      have hfb := blk_on (unhide HF) hb
      have hfz := frzF hfb 7
      have htl : ws.take k = ws := by rw [hkn,List.take_length]
      rw [htl] at hown hownL
      have HH : Hid (∀ rv,rv = u3 -> (∃ rv',Ending.returned rv = .returned rv' /\ OwnR rRep 35 (wr.setCell ⟨fb,7,none⟩ u4) rv' (lateR ws X.nw) /\ ∀ g,rv'.ownBlock = some g -> w.heap.size <= g) /\ (∃ wv',FBlk (wr.setCell ⟨fb,7,none⟩ u4) fb { X with wv := wv' } /\ OwnR rReq 138 (wr.setCell ⟨fb,7,none⟩ u4) wv' (lateL ws X.nw) /\ ∀ g,wv'.ownBlock = some g -> w.heap.size <= g) /\ Frm (fun k => k = fb) w (wr.setCell ⟨fb,7,none⟩ u4)) := by
        rintro rv rfl
        exact ⟨⟨_,rfl,hown.same (fun g hg => Below.heap_setCell _ _ _ _ (by have := unhide hfr g hg; show g ≠ fb; omega)),unhide hfr⟩,⟨u4,FBlk.set hfb 7 u4 (FV.set_wv X u4),hownL.same (fun g hg => Below.heap_setCell _ _ _ _ (by have := unhide hfrL g hg; show g ≠ fb; omega)),unhide hfrL⟩,(Frm.of_below hb).setCell u4 (fun _ => rfl)⟩
      obtain ⟨oa4,n4,c4,rfl⟩ := hownL.sl
      obtain ⟨oa3,n3,c3,rfl⟩ := hown.sl
      clear hown hownL hb hfb htl
      subst hkn
      go_wp2_with fail
      go_ret
      exact unhide HH _ rfl
def goodK (ver : Int) (LS : List Ft) (ts : List Tile) (reads : Int) (r : Req) : Option Tile :=
  match findT ts r.k with
  | some t => if decide (r.asked <= reads) || decide (stK ver r.k LS <= reads) then some t else none
  | none => none
def fineRr (ver : Int) (LS : List Ft) (ts : List Tile) (reads : Int) (ws : List Req) : List Rep := ws.filterMap fun r => (goodK ver LS ts reads r).map fun t => ⟨r.who,200,t.body,t.tag⟩
def fineLl (ver : Int) (LS : List Ft) (ts : List Tile) (reads : Int) (ws : List Req) : List Req := ws.filter fun r => (goodK ver LS ts reads r).isNone
section
variable {ver : Int} {LS : List Ft} {ts : List Tile} {reads : Int} {ws : List Req} {k : Nat} {r : Req}
theorem fineR_some {t : Tile} (h : ws[k]? = some r) (hg : goodK ver LS ts reads r = some t) : fineRr ver LS ts reads (ws.take (k + 1)) = fineRr ver LS ts reads (ws.take k) ++ [⟨r.who,200,t.body,t.tag⟩] /\ fineLl ver LS ts reads (ws.take (k + 1)) = fineLl ver LS ts reads (ws.take k) := by
  unfold fineRr fineLl
  rw [filter_snoc _ h,take_succ h,List.filterMap_append]
  simp [hg]
theorem fineR_none (h : ws[k]? = some r) (hg : goodK ver LS ts reads r = none) : fineRr ver LS ts reads (ws.take (k + 1)) = fineRr ver LS ts reads (ws.take k) /\ fineLl ver LS ts reads (ws.take (k + 1)) = fineLl ver LS ts reads (ws.take k) ++ [r] := by
  unfold fineRr fineLl
  rw [filter_snoc _ h,take_succ h,List.filterMap_append]
  simp [hg]
theorem fineR_len : (fineRr ver LS ts reads ws).length <= ws.length := List.length_filterMap_le _ _
theorem fineL_len : (fineLl ver LS ts reads ws).length <= ws.length := List.length_filter_le _ _
end
set_option maxHeartbeats 12800000 in
theorem answerFine_any (fb : Nat) (X : FV) (ver : Int) (sl pv : Value) (LS PL : List Ft) (ws : List Req) (tsv : Value) (ts : List Tile) (reads : Int) (w : World) (hf : FBlk w fb X) (hs : StP w X.sb 0 ver sl pv LS PL) (hLS : LS.length <= 1000) (hv : 0 <= ver) (ho : OwnR rReq 138 w X.wv ws) (hk : ∀ r ∈ ws,KOk r.k) (hat : AtR rTile w tsv ts) (hl : ws.length <= 10000000) :
    Calls Tryz.prog 79 #[.pointer (some ⟨fb,0,none⟩),tsv,.int .i64 reads] w fun e w' => (∃ rv,e = .returned rv /\ OwnR rRep 35 w' rv (fineRr ver LS ts reads ws) /\ ∀ g,rv.ownBlock = some g -> w.heap.size <= g) /\ (∃ wv',FBlk w' fb { X with wv := wv' } /\ OwnR rReq 138 w' wv' (fineLl ver LS ts reads ws) /\ ∀ g,wv'.ownBlock = some g -> w.heap.size <= g) /\ Frm (fun k => k = fb) w w' := by
  have hlt0 := blk_lt hf
  obtain ⟨oa,cap,e,hcap,hm,hc⟩ := ho.at
  have HC := hide hc
  have HF := hide hf
  have HS := hide hs
  have HK := hide hk
  have HAT := hide hat
  have htsl : ∃ ta tn tc,tsv = .slice ta tn tc := by obtain ⟨a1,a2,a3,_⟩ := hat; exact ⟨_,_,_,a3⟩
  unfold maxLen at hm
  have hB1 := (Below.refl w.heap.size w).alloc (Nat.le_refl _) (.cells #[] 35)
  have hB2 := hB1.alloc (by simp) (.cells #[] 138)
  have hN := (ownR_lit (R := rRep) (T := 35) w [] #[] rfl (by simp)).on ((Below.refl _ _).alloc (Nat.le_refl _) (.cells #[] 138))
  have hM := ownR_lit (R := rReq) (T := 138) (w.alloc (.cells #[] 35)) [] #[] rfl (by simp)
  have HN := hide hN
  have HM := hide hM
  have HB1 := hide hB2
  have c7 : w.cell? ⟨fb,7,none⟩ = some (.slice oa ws.length cap) := by rw [<- e]; exact hf.cells.2.2.2.2.2.2.2.1
  have HC7 := hide c7
  clear hf ho hc hN hM hB1 hB2 e c7 hs hk hat
  obtain ⟨ta,tn,tc,rfl⟩ := htsl
  go_enter Tryz.func79,Tryz.ntmps79
  go_wp2_with fail
  go_loopw [7,8,9,10,11,12] (fun rv lv i _ _ _ wr => ∃ k : Nat,k <= ws.length /\ i = .int .i64 k /\ OwnR rRep 35 wr rv (fineRr ver LS ts reads (ws.take k)) /\ OwnR rReq 138 wr lv (fineLl ver LS ts reads (ws.take k)) /\ Hid (∀ g,rv.ownBlock = some g -> w.heap.size <= g) /\ Hid (∀ g,lv.ownBlock = some g -> w.heap.size <= g) /\ Below w.heap.size w wr) (fun _ _ i _ _ _ _ => ws.length - (intOf i).toNat)
  case atStart => exact ⟨0,by omega,rfl,by simpa [fineRr] using unhide HN,by simpa [fineLl] using unhide HM,hide (fun g hg => by simp [Value.ownBlock] at hg; omega),hide (fun g hg => by simp [Value.ownBlock] at hg; omega),unhide HB1⟩
  case round =>
    obtain ⟨k,hk,rfl,hown,hownL,hfr,hfrL,hb⟩ := hrel
    have hsz := hb.size
    have r7 := (hb.cell (p := ⟨fb,7,none⟩) hlt0).trans (unhide HC7)
    by_cases hlt : k < ws.length
    . have hkn : (k : Int) < ws.length := by omega
      obtain ⟨b,off,rfl,hbl,hc0⟩ := unhide HC (by omega)
      obtain ⟨⟨rn,⟨rl,rz,rx,ry⟩,ra,rd⟩,ht⟩ : ∃ t,ws[k]? = some t := ⟨_,List.getElem?_eq_getElem hlt⟩
      have hrg : wr.rangeAt b (off + k * 7) #[.int .i64 rn,.int .i64 rl,.int .i64 rz,.int .i64 rx,.int .i64 ry,.int .i64 ra,.int .i64 rd].toList := rng_in (AtR.req hc0 ht) hb hbl
      have hko := unhide HK _ (List.mem_of_getElem? ht)
      dsimp only at hko
      have hA := heap_alloc_new wr (.cells #[.int .i64 rn,.int .i64 rl,.int .i64 rz,.int .i64 rx,.int .i64 ry,.int .i64 ra,.int .i64 rd] 138 (0,0))
      have hbA := (Below.refl wr.heap.size wr).alloc (Nat.le_refl _) (.cells #[.int .i64 rn,.int .i64 rl,.int .i64 rz,.int .i64 rx,.int .i64 ry,.int .i64 ra,.int .i64 rd] 138)
      have hbA0 := hb.trans (hbA.mono hb.size)
      have FI := find_any _ ts rl rz rx ry _ ((unhide HAT).on hbA0)
      have hlen1 := fineR_len (ver := ver) (LS := LS) (ts := ts) (reads := reads) (ws := ws.take k)
      have hlen2 := fineL_len (ver := ver) (LS := LS) (ts := ts) (reads := reads) (ws := ws.take k)
      rw [List.length_take] at hlen1 hlen2
      have HO := hide (hown.on hbA)
      have HOL := hide (hownL.on hbA)
      have HBA0 := hide hbA0
      have HHA := hide hA
      clear hc0 hb hown hownL hbA hbA0
      go_wp2_with (refine ldG 138 #[.int .i64 rn,.int .i64 rl,.int .i64 rz,.int .i64 rx,.int .i64 ry,.int .i64 ra,.int .i64 rd] Tryz.underlying138 rfl (sz138 _ _ _ _ _ _ _) b (off + k * 7) hrg rfl _ rfl rfl ?_)
      refine FI.mono ?_
      rintro e w2 ⟨rfl,hb2⟩
      have hA2 := blk_on (unhide HHA) hb2
      have hown2 := (unhide HO).on hb2
      have hownL2 := (unhide HOL).on hb2
      have hB2 := (unhide HBA0).trans (hb2.mono (unhide HBA0).size)
      have hsz2 : wr.heap.size < w2.heap.size := blk_lt hA2
      have hT0 := heap_alloc_new w2 (.cells (tv none) 136 (0,0))
      have hA3 := (heap_alloc_old w2 (.cells (tv none) 136) hsz2).trans hA2
      have hbT := (Below.refl w2.heap.size w2).alloc (Nat.le_refl _) (.cells (tv none) 136)
      clear FI hb2 hA hrg r7
      cases hfo : findT ts ⟨rl,rz,rx,ry⟩ with
      | none =>
        have hg : goodK ver LS ts reads ⟨rn,⟨rl,rz,rx,ry⟩,ra,rd⟩ = none := by unfold goodK; dsimp only; rw [hfo]
        obtain ⟨hr1,hr2⟩ := fineR_none ht hg
        have hS1 := setRow_heap _ _ _ (tv none) _ _ hT0
        have hA4 := (setRow_other (show w2.heap.size ≠ wr.heap.size by omega) (tv none)).trans hA3
        have hbS := below_setRow hbT (Nat.le_refl _) (tv none)
        have hB4 := hB2.trans (hbS.mono hB2.size)
        have hown4 := hown2.on hbS
        have hownL4 := hownL2.on hbS
        rw [<- hr1] at hown4
        have hatN := at_new rReq 138 ((w2.alloc (.cells (tv none) 136)).setRow w2.heap.size (tv none)) ⟨rn,⟨rl,rz,rx,ry⟩,ra,rd⟩ #[.int .i64 rn,.int .i64 rl,.int .i64 rz,.int .i64 rx,.int .i64 ry,.int .i64 ra,.int .i64 rd] rfl
        have hbA := (Below.refl ((w2.alloc (.cells (tv none) 136)).setRow w2.heap.size (tv none)).heap.size ((w2.alloc (.cells (tv none) 136)).setRow w2.heap.size (tv none))).alloc (Nat.le_refl _) (.cells #[.int .i64 rn,.int .i64 rl,.int .i64 rz,.int .i64 rx,.int .i64 ry,.int .i64 ra,.int .i64 rd] 138)
        have hownA := hown4.on hbA
        have hownLA := hownL4.on hbA
        obtain ⟨v3,w3,r1,r2,r3,r4⟩ := apReq hownLA hatN (by simp; omega)
        rw [<- hr2] at r2
        have HL3 := hide r2
        have HO3 := hide (hownA.same (w' := w3) fun g hg => r3.block g (hownA.lt hg) (fun q => by
          obtain ⟨c1,d1⟩ := hownLA.ty q.symm
          exact own_ne hownA d1 (by decide) g hg rfl))
        have HB3 := hide ((hB4.alloc hB4.size (.cells #[.int .i64 rn,.int .i64 rl,.int .i64 rz,.int .i64 rx,.int .i64 ry,.int .i64 ra,.int .i64 rd] 138)).grown r3 (by simp; have := hB4.size; omega) (fun g hg => unhide hfrL g hg))
        have HFR := hide (fresh_of (unhide hfrL) r4 (by simp; have := hB4.size; omega))
        have hrg2 : ((w2.alloc (.cells (tv none) 136)).setRow w2.heap.size (tv none)).rangeAt wr.heap.size 0 #[.int .i64 rn,.int .i64 rl,.int .i64 rz,.int .i64 rx,.int .i64 ry,.int .i64 ra,.int .i64 rd].toList := rng_blk hA4
        have HHT := hide hfo
        clear hown2 hownL2 hatN hownA hownLA r2 r3 r4 hr1 hr2 hbA hA2 hA3 hA4 hS1 hbS hB4 hB2 hown4 hownL4 hbT hg hfo
        go_wp2_with (first | refine stG 136 (tv none) (tv none) (sz136 none) (tv_one none) rfl w2.heap.size hT0 rfl _ _ rfl rfl rfl ?_ | refine ldG 138 #[.int .i64 rn,.int .i64 rl,.int .i64 rz,.int .i64 rx,.int .i64 ry,.int .i64 ra,.int .i64 rd] Tryz.underlying138 rfl (sz138 _ _ _ _ _ _ _) wr.heap.size 0 hrg2 rfl _ rfl rfl ?_ | refine wlV _ _ (bsReq rn rl rz rx ry ra rd _ _ _ rfl rfl _) rfl ?_ | (at_builtin; refine wlR 92 r1 rfl _ _ rfl rfl rfl rfl ?_))
        go_roundw
        case rel => exact ⟨k + 1,by omega,by go_num,unhide HO3,unhide HL3,hfr,unhide HFR,unhide HB3⟩
        case measure => simp [intOf]; omega
      | some t =>
        obtain ⟨⟨tl,tz,tx,ty⟩,tb,tt⟩ := t
        have hS1 := setRow_heap _ _ _ (tv (some ⟨⟨tl,tz,tx,ty⟩,tb,tt⟩)) _ _ hT0
        have hA4 := (setRow_other (show w2.heap.size ≠ wr.heap.size by omega) (tv (some ⟨⟨tl,tz,tx,ty⟩,tb,tt⟩))).trans hA3
        have hbS := below_setRow hbT (Nat.le_refl _) (tv (some ⟨⟨tl,tz,tx,ty⟩,tb,tt⟩))
        have hB4 := hB2.trans (hbS.mono hB2.size)
        have hown4 := hown2.on hbS
        have hownL4 := hownL2.on hbS
        have SV := isServed_any fb X ver sl pv LS PL rn rl rz rx ry ra rd reads ((w2.alloc (.cells (tv none) 136)).setRow w2.heap.size (tv (some ⟨⟨tl,tz,tx,ty⟩,tb,tt⟩))) (blk_on (unhide HF) hB4) ((unhide HS).on hB4) hLS hko hv
        have hrg2 : ((w2.alloc (.cells (tv none) 136)).setRow w2.heap.size (tv (some ⟨⟨tl,tz,tx,ty⟩,tb,tt⟩))).rangeAt wr.heap.size 0 #[.int .i64 rn,.int .i64 rl,.int .i64 rz,.int .i64 rx,.int .i64 ry,.int .i64 ra,.int .i64 rd].toList := rng_blk hA4
        have HHT := hide hfo
        have HB4 := hide hB4
        have HS1 := hide hS1
        have HA4 := hide hA4
        have HO4 := hide hown4
        have HOL4 := hide hownL4
        clear hown2 hownL2 hA2 hA3 hbS hB2 hbT hfo hB4 hS1 hA4 hown4 hownL4
        go_wp2_with (first | refine stG 136 (tv (some ⟨⟨tl,tz,tx,ty⟩,tb,tt⟩)) (tv none) (sz136 _) (tv_one _) rfl w2.heap.size hT0 rfl _ _ rfl rfl rfl ?_ | refine ldG 138 #[.int .i64 rn,.int .i64 rl,.int .i64 rz,.int .i64 rx,.int .i64 ry,.int .i64 ra,.int .i64 rd] Tryz.underlying138 rfl (sz138 _ _ _ _ _ _ _) wr.heap.size 0 hrg2 rfl _ rfl rfl ?_)
        refine SV.mono ?_
        rintro e w5 ⟨rfl,hb5⟩
        have hS5 := blk_on (unhide HS1) hb5
        have hA5 := blk_on (unhide HA4) hb5
        have hown5 := (unhide HO4).on hb5
        have hownL5 := (unhide HOL4).on hb5
        have hB5 := (unhide HB4).trans (hb5.mono (unhide HB4).size)
        have hsz5 := hB5.size
        clear SV hb5 hrg2 hT0
        cases hsv : (decide (ra <= reads) || decide (stK ver ⟨rl,rz,rx,ry⟩ LS <= reads)) with
        | true =>
          have hg : goodK ver LS ts reads ⟨rn,⟨rl,rz,rx,ry⟩,ra,rd⟩ = some ⟨⟨tl,tz,tx,ty⟩,tb,tt⟩ := by unfold goodK; dsimp only; rw [unhide HHT]; dsimp only; rw [if_pos hsv]
          obtain ⟨hr1,hr2⟩ := fineR_some ht hg
          have hatN := at_new rRep 35 w5 ⟨rn,200,tb,tt⟩ #[.int .i64 rn,.int .i64 200,.string tb,.string tt] rfl
          have hbA := (Below.refl w5.heap.size w5).alloc (Nat.le_refl _) (.cells #[.int .i64 rn,.int .i64 200,.string tb,.string tt] 35)
          have hownA := hown5.on hbA
          have hownLA := hownL5.on hbA
          obtain ⟨v3,w3,r1,r2,r3,r4⟩ := apRep hownA hatN (by simp; omega)
          dsimp only at hr1
          rw [<- hr1] at r2
          rw [<- hr2] at hownLA
          have HO3 := hide r2
          have HL3 := hide (hownLA.same (w' := w3) fun g hg => r3.block g (hownLA.lt hg) (fun q => by
            obtain ⟨c1,d1⟩ := hownA.ty q.symm
            exact own_ne hownLA d1 (by decide) g hg rfl))
          have HB3 := hide ((hB5.alloc hsz5 (.cells #[.int .i64 rn,.int .i64 200,.string tb,.string tt] 35)).grown r3 (by simp; omega) (fun g hg => unhide hfr g hg))
          have HFR := hide (fresh_of (unhide hfr) r4 (by simp; omega))
          have q0 := (blk_cells hA5 0).trans (show _ = some (Value.int .i64 rn) from rfl)
          have q4 := (blk_cells hS5 4).trans (show _ = some (Value.string tb) from rfl)
          have q5 := (blk_cells hS5 5).trans (show _ = some (Value.string tt) from rfl)
          clear hown5 hownL5 hatN hownA hownLA r2 r3 r4 hr1 hr2 hbA hA5 hS5 hB5 hg hsv
          go_wp2_with (first | refine wlV _ _ (bsRep rn 200 tb tt _ _ _ rfl rfl _) rfl ?_ | (at_builtin; refine wlR 64 r1 rfl _ _ rfl rfl rfl rfl ?_))
          go_roundw
          case rel => exact ⟨k + 1,by omega,by go_num,unhide HO3,unhide HL3,unhide HFR,hfrL,unhide HB3⟩
          case measure => simp [intOf]; omega
        | false =>
          have hg : goodK ver LS ts reads ⟨rn,⟨rl,rz,rx,ry⟩,ra,rd⟩ = none := by unfold goodK; dsimp only; rw [unhide HHT]; dsimp only; rw [if_neg (by rw [hsv]; simp)]
          obtain ⟨hr1,hr2⟩ := fineR_none ht hg
          have hatN := at_new rReq 138 w5 ⟨rn,⟨rl,rz,rx,ry⟩,ra,rd⟩ #[.int .i64 rn,.int .i64 rl,.int .i64 rz,.int .i64 rx,.int .i64 ry,.int .i64 ra,.int .i64 rd] rfl
          have hbA := (Below.refl w5.heap.size w5).alloc (Nat.le_refl _) (.cells #[.int .i64 rn,.int .i64 rl,.int .i64 rz,.int .i64 rx,.int .i64 ry,.int .i64 ra,.int .i64 rd] 138)
          have hownA := hown5.on hbA
          have hownLA := hownL5.on hbA
          obtain ⟨v3,w3,r1,r2,r3,r4⟩ := apReq hownLA hatN (by simp; omega)
          rw [<- hr2] at r2
          rw [<- hr1] at hownA
          have HL3 := hide r2
          have HO3 := hide (hownA.same (w' := w3) fun g hg => r3.block g (hownA.lt hg) (fun q => by
            obtain ⟨c1,d1⟩ := hownLA.ty q.symm
            exact own_ne hownA d1 (by decide) g hg rfl))
          have HB3 := hide ((hB5.alloc hsz5 (.cells #[.int .i64 rn,.int .i64 rl,.int .i64 rz,.int .i64 rx,.int .i64 ry,.int .i64 ra,.int .i64 rd] 138)).grown r3 (by simp; omega) (fun g hg => unhide hfrL g hg))
          have HFR := hide (fresh_of (unhide hfrL) r4 (by simp; omega))
          have hrg5 : w5.rangeAt wr.heap.size 0 #[.int .i64 rn,.int .i64 rl,.int .i64 rz,.int .i64 rx,.int .i64 ry,.int .i64 ra,.int .i64 rd].toList := rng_blk hA5
          clear hown5 hownL5 hatN hownA hownLA r2 r3 r4 hr1 hr2 hbA hA5 hS5 hB5 hg hsv
          go_wp2_with (first | refine ldG 138 #[.int .i64 rn,.int .i64 rl,.int .i64 rz,.int .i64 rx,.int .i64 ry,.int .i64 ra,.int .i64 rd] Tryz.underlying138 rfl (sz138 _ _ _ _ _ _ _) wr.heap.size 0 hrg5 rfl _ rfl rfl ?_ | refine wlV _ _ (bsReq rn rl rz rx ry ra rd _ _ _ rfl rfl _) rfl ?_ | (at_builtin; refine wlR 92 r1 rfl _ _ rfl rfl rfl rfl ?_))
          go_roundw
          case rel => exact ⟨k + 1,by omega,by go_num,unhide HO3,unhide HL3,hfr,unhide HFR,unhide HB3⟩
          case measure => simp [intOf]; omega
    . have hkn : k = ws.length := by omega
      have hfb := blk_on (unhide HF) hb
      have hfz := frzF hfb 7
      have htl : ws.take k = ws := by rw [hkn,List.take_length]
      rw [htl] at hown hownL
      have HH : Hid (∀ rv,rv = u7 -> (∃ rv',Ending.returned rv = .returned rv' /\ OwnR rRep 35 (wr.setCell ⟨fb,7,none⟩ u8) rv' (fineRr ver LS ts reads ws) /\ ∀ g,rv'.ownBlock = some g -> w.heap.size <= g) /\ (∃ wv',FBlk (wr.setCell ⟨fb,7,none⟩ u8) fb { X with wv := wv' } /\ OwnR rReq 138 (wr.setCell ⟨fb,7,none⟩ u8) wv' (fineLl ver LS ts reads ws) /\ ∀ g,wv'.ownBlock = some g -> w.heap.size <= g) /\ Frm (fun k => k = fb) w (wr.setCell ⟨fb,7,none⟩ u8)) := by
        rintro rv rfl
        exact ⟨⟨_,rfl,hown.same (fun g hg => Below.heap_setCell _ _ _ _ (by have := unhide hfr g hg; show g ≠ fb; omega)),unhide hfr⟩,⟨u8,FBlk.set hfb 7 u8 (FV.set_wv X u8),hownL.same (fun g hg => Below.heap_setCell _ _ _ _ (by have := unhide hfrL g hg; show g ≠ fb; omega)),unhide hfrL⟩,(Frm.of_below hb).setCell u8 (fun _ => rfl)⟩
      obtain ⟨oa4,n4,c4,rfl⟩ := hownL.sl
      obtain ⟨oa3,n3,c3,rfl⟩ := hown.sl
      clear hown hownL hb hfb htl
      subst hkn
      go_wp2_with fail
      go_ret
      exact unhide HH _ rfl
theorem ldcR (ev : Operand -> Value) (o : Oper) (x : Operand) (ty : TypeId) (ho : o.op = .load ty x) (a : Addr) (hx : ev x = .pointer (some a)) (cs : Array Value) {d : TypeDesc} (hu : Tryz.prog.underlying ty = some d) (hd : d.isRow = true) (hi : (Tryz.prog.info? ty).map (·.size) = some cs.size) (b off : Nat) (ha : a = ⟨b,off,none⟩) (w : World) (hc : w.rangeAt b off cs.toList) : (execOp ev o).run Tryz.prog w = .ok (.value (.agg cs)) w := by
  subst ha
  have := run_loadVar_mid (P := Tryz.prog) w b off ty cs.toList d hc hu hd (by simpa using hi)
  unfold execOp
  simp only [ho,hx,Instr.loadAt,Instr.sureAddr,Sem.run_bind,Sem.run_pure,Result.andThen_ok,this,Array.toArray_toList]
theorem stS (ev : Operand -> Value) (o : Oper) (x y : Operand) (t : TypeId) (ho : o.op = .store t x y) (hz : ∀ w,(sizeOf t).run Tryz.prog w = .ok 1 w) (fb i : Nat) (oa : Option Addr) (n c : Nat) (hx : ev x = .pointer (some ⟨fb,i,none⟩)) (hy : ev y = .slice oa n c) (w : World) {u : Value} (hc : w.cell? ⟨fb,i,none⟩ = some u) (hf : w.frozen? ⟨fb,i,none⟩ = false) : (execOp ev o).run Tryz.prog w = .ok .skip (w.setCell ⟨fb,i,none⟩ (.slice oa n c)) := by
  unfold execOp
  simp only [ho,hx,hy]
  simp [go_sem,hz,hc,hf]
set_option maxHeartbeats 6400000 in
theorem use_any (fb : Nat) (X : FV) (ts : List Tile) (tl tz tx ty : Int) (tb tt : ByteArray) (w : World) (hf : FBlk w fb X) (ho : OwnR rTile 136 w X.tv ts) (hl : ts.length <= 1000000) :
    Calls Tryz.prog 98 #[.pointer (some ⟨fb,10,none⟩),.agg #[.int .i64 tl,.int .i64 tz,.int .i64 tx,.int .i64 ty,.string tb,.string tt]] w fun e w' => e = .returned (.tuple #[]) /\ (∃ tv',FBlk w' fb { X with tv := tv' } /\ OwnR rTile 136 w' tv' (outT ts ⟨tl,tz,tx,ty⟩ ++ [⟨⟨tl,tz,tx,ty⟩,tb,tt⟩]) /\ ∀ g,tv'.ownBlock = some g -> w.heap.size <= g) /\ Frm (fun k => k = fb) w w' := by
  have hlt0 := blk_lt hf
  have hb0 := (Below.refl w.heap.size w).alloc (Nat.le_refl _) (.cells #[.int .i64 tl,.int .i64 tz,.int .i64 tx,.int .i64 ty,.string tb,.string tt] 136)
  have hA := heap_alloc_new w (.cells #[.int .i64 tl,.int .i64 tz,.int .i64 tx,.int .i64 ty,.string tb,.string tt] 136 (0,0))
  have TO := takeOut_any fb X ts tl tz tx ty _ (blk_on hf hb0) (ho.on hb0) (by omega)
  have HA := hide hA
  have HB0 := hide hb0
  clear hf ho hb0 hA
  go_enter Tryz.func98,Tryz.ntmps98
  go_wp2_with fail
  refine TO.mono ?_
  rintro e w2 ⟨rfl,⟨tv2,hf2,ho2,hfr2⟩,hF2⟩
  have hne : w.heap.size ≠ fb := by omega
  have hA2 := blk_frm (unhide HA) hF2 hne
  have hF02 : Frm (fun k => k = fb) w w2 := (Frm.of_below (unhide HB0)).then hF2 (fun _ _ h => h)
  have HA2 := hide hA2
  have HF2 := hide hf2
  have HO2 := hide ho2
  have HFR2 := hide (show ∀ g,tv2.ownBlock = some g -> w.heap.size + 1 <= g from fun g hg => by have := hfr2 g hg; simp at this; omega)
  have HF02 := hide hF02
  clear TO hf2 ho2 hfr2 hF2 hA2 hF02
  go_wp2_with fail
  refine wp_region_held (S := fun w' => w'.heap[w.heap.size]? = some (.cells #[.int .i64 tl,.int .i64 tz,.int .i64 tx,.int .i64 ty,.string tb,.string tt] 136 (0,0))) (by kernel_rfl) ?_
  change wpAnyH _ _ _ _ _ _ _ _ (World.drew _)
  have hS : (World.drew w2).heap[w.heap.size]? = some (.cells #[.int .i64 tl,.int .i64 tz,.int .i64 tx,.int .i64 ty,.string tb,.string tt] 136 (0,0)) := unhide HA2
  have hf3 : FBlk (World.drew w2) fb { X with tv := tv2 } := unhide HF2
  have ho3 : OwnR rTile 136 (World.drew w2) tv2 (outT ts ⟨tl,tz,tx,ty⟩) := unhide HO2
  have hF3 : Frm (fun k => k = fb) w (World.drew w2) := ⟨(unhide HF02).os,(unhide HF02).tape,(unhide HF02).output,(unhide HF02).size,(unhide HF02).block⟩
  have hfr3 := unhide HFR2
  generalize World.drew w2 = w3 at hS hf3 ho3 hF3 ⊢
  have hgl : w.heap.size < w3.heap.size := blk_lt hS
  have hfl : fb < w3.heap.size := blk_lt hf3
  have c11 : w3.cell? ⟨fb,11,none⟩ = some tv2 := (blk_cells hf3 11).trans rfl
  have hbA := (Below.refl w3.heap.size w3).alloc (Nat.le_refl _) (.cells #[.int .i64 tl,.int .i64 tz,.int .i64 tx,.int .i64 ty,.string tb,.string tt] 136)
  have hSA := blk_on hS hbA
  have hfA := blk_on hf3 hbA
  have c11A := (hbA.cell (p := ⟨fb,11,none⟩) hfl).trans c11
  have hat := at_new rTile 136 w3 ⟨⟨tl,tz,tx,ty⟩,tb,tt⟩ #[.int .i64 tl,.int .i64 tz,.int .i64 tx,.int .i64 ty,.string tb,.string tt] rfl
  have hoA := ho3.on hbA
  obtain ⟨v4,w4,r1,r2,r3,r4⟩ := apTile hoA hat (by have := outT_len ts ⟨tl,tz,tx,ty⟩; simp; omega)
  have hS4 := (r3.block w.heap.size (by simp; omega) (fun q => by have := hfr3 w.heap.size q.symm; omega)).trans hSA
  have hf4 : FBlk w4 fb { X with tv := tv2 } := (r3.block fb (by simp; omega) (fun q => own_ne hoA hfA (by decide) fb q.symm rfl)).trans hfA
  have hfz := frzF hf4 11
  have c114 : w4.cell? ⟨fb,11,none⟩ = some tv2 := (blk_cells hf4 11).trans rfl
  have hF4 := (hF3.then (Frm.of_below hbA) (fun _ _ h => h)).grown r3 (fun g hg hlt => by have := hfr3 g hg; omega)
  have hfr4 := fresh_of (B := w.heap.size) (fun g hg => by have := hfr3 g hg; omega) r4 (by simp; have := hF3.size; omega)
  obtain ⟨oa4,n4,k4,rfl⟩ := r2.sl
  have hf5 := FBlk.set hf4 11 (.slice oa4 n4 k4) (FV.set_tv { X with tv := tv2 } _)
  have ho5 : OwnR rTile 136 (w4.setCell ⟨fb,11,none⟩ (.slice oa4 n4 k4)) (.slice oa4 n4 k4) _ := r2.same (fun g hg => Below.heap_setCell _ _ _ _ (own_ne r2 hf4 (by decide) g hg))
  have hF5 := hF4.setCell (p := ⟨fb,11,none⟩) (.slice oa4 n4 k4) (fun _ => rfl)
  have hS5 := (Below.heap_setCell w4 ⟨fb,11,none⟩ (.slice oa4 n4 k4) w.heap.size (by show w.heap.size ≠ fb; omega)).trans hS4
  have HF5 := hide hf5
  have HO5 := hide ho5
  have HFF5 := hide hF5
  have HFR5 := hide hfr4
  obtain ⟨oa2,n2,k2,rfl⟩ := ho3.sl
  refine t_tk 0 rfl (.pointer (some ⟨fb,10,none⟩)) (by kernel_rfl) (fun _ _ _ h => h) rfl (fun w' hw' => by simp [go_sem]) hS ?_
  simp only [Act.put,qA,qB,qC]
  refine t_tk 1 rfl (.pointer (some ⟨fb,10,none⟩)) (by kernel_rfl) (fun _ _ _ h => h) rfl (fun w' hw' => by simp [go_sem]) hS ?_
  simp only [Act.put,qA,qB,qC]
  refine t_tk 2 rfl (.pointer (some ⟨fb,10,none⟩)) (by kernel_rfl) (fun _ _ _ h => h) rfl (fun w' hw' => by simp [go_sem]) hS ?_
  simp only [Act.put,qA,qB,qC]
  refine t_tk 3 rfl (.pointer (some ⟨fb,11,none⟩)) (by kernel_rfl) (fun _ _ _ h => h) rfl (fun w' hw' => by simp [go_sem]) hS ?_
  simp only [Act.put,qA,qB,qC]
  refine t_tk 5 rfl (.agg #[.int .i64 tl,.int .i64 tz,.int .i64 tx,.int .i64 ty,.string tb,.string tt]) (by kernel_rfl) (fun _ _ _ h => h) rfl (fun w' hw' => ldcR _ _ _ 136 rfl _ rfl _ Tryz.underlying136 rfl (sz136 (some ⟨⟨tl,tz,tx,ty⟩,tb,tt⟩)) w.heap.size 0 rfl _ (rng_blk hw')) hS ?_
  simp only [Act.put,qA,qB,qC]
  refine wpAnyH_all (rs := [4,6]) (by kernel_rfl) (by simp) ?_
  intro i hi
  simp only [List.mem_cons,List.not_mem_nil,or_false] at hi
  rcases hi with rfl | rfl
  . refine t_op 4 rfl rfl (.slice oa2 n2 k2) (w3) (by simp [go_sem,c11]) (hS) ?_
    simp only [Act.put,qA,qB,qC]
    refine wpAnyH_all (rs := [6]) (by kernel_rfl) (by simp) ?_
    intro i hi
    simp only [List.mem_singleton] at hi
    subst hi
    refine t_op 6 rfl rfl (.slice (some ⟨w3.heap.size,0,none⟩) 1 1) (w3.alloc (.cells #[.int .i64 tl,.int .i64 tz,.int .i64 tx,.int .i64 ty,.string tb,.string tt] 136)) (bsTile tl tz tx ty tb tt _ _ _ rfl rfl _) (hSA) ?_
    simp only [Act.put,qA,qB,qC]
    refine wpAnyH_all (rs := [7]) (by kernel_rfl) (by simp) ?_
    intro i hi
    simp only [List.mem_singleton] at hi
    subst hi
    refine t_op 7 rfl rfl (.slice oa4 n4 k4) (w4) (exR 95 r1 _ _ _ _ rfl rfl rfl rfl) (hS4) ?_
    simp only [Act.put,qA,qB,qC]
    refine t_tk 8 rfl (.pointer (some ⟨fb,10,none⟩)) (by kernel_rfl) (fun _ _ _ h => h) rfl (fun w' hw' => by simp [go_sem]) hS4 ?_
    simp only [Act.put,qA,qB,qC]
    refine t_tk 9 rfl (.pointer (some ⟨fb,11,none⟩)) (by kernel_rfl) (fun _ _ _ h => h) rfl (fun w' hw' => by simp [go_sem]) hS4 ?_
    simp only [Act.put,qA,qB,qC]
    refine wpAnyH_all (rs := [10]) (by kernel_rfl) (by simp) ?_
    intro i hi
    simp only [List.mem_singleton] at hi
    subst hi
    refine t_skip 10 rfl rfl (w4.setCell ⟨fb,11,none⟩ (.slice oa4 n4 k4)) (stS _ _ _ _ 95 rfl (fun _ => by simp [go_sem]) fb 11 oa4 n4 k4 rfl rfl w4 c114 hfz) (hS5) ?_
    simp only [Act.put]
    refine wpAnyH_done (by kernel_rfl) ?_ _
    clear hS hf3 ho3 hF3 hgl hfl c11 hbA hSA hfA c11A hat hoA r1 r3 r4 hS4 hf4 hfz c114 hF4 hf5 ho5 hF5 hS5 hfr4 r2 hfr3
    go_wp2_with fail
    exact bodyPost_end (results_none Tryz.results98 _ _ _) rfl ⟨rfl,⟨_,unhide HF5,unhide HO5,unhide HFR5⟩,unhide HFF5⟩
  . refine t_op 6 rfl rfl (.slice (some ⟨w3.heap.size,0,none⟩) 1 1) (w3.alloc (.cells #[.int .i64 tl,.int .i64 tz,.int .i64 tx,.int .i64 ty,.string tb,.string tt] 136)) (bsTile tl tz tx ty tb tt _ _ _ rfl rfl _) (hSA) ?_
    simp only [Act.put,qA,qB,qC]
    refine wpAnyH_all (rs := [4]) (by kernel_rfl) (by simp) ?_
    intro i hi
    simp only [List.mem_singleton] at hi
    subst hi
    refine t_op 4 rfl rfl (.slice oa2 n2 k2) (w3.alloc (.cells #[.int .i64 tl,.int .i64 tz,.int .i64 tx,.int .i64 ty,.string tb,.string tt] 136)) (by simp [go_sem,c11A]) (hSA) ?_
    simp only [Act.put,qA,qB,qC]
    refine wpAnyH_all (rs := [7]) (by kernel_rfl) (by simp) ?_
    intro i hi
    simp only [List.mem_singleton] at hi
    subst hi
    refine t_op 7 rfl rfl (.slice oa4 n4 k4) (w4) (exR 95 r1 _ _ _ _ rfl rfl rfl rfl) (hS4) ?_
    simp only [Act.put,qA,qB,qC]
    refine t_tk 8 rfl (.pointer (some ⟨fb,10,none⟩)) (by kernel_rfl) (fun _ _ _ h => h) rfl (fun w' hw' => by simp [go_sem]) hS4 ?_
    simp only [Act.put,qA,qB,qC]
    refine t_tk 9 rfl (.pointer (some ⟨fb,11,none⟩)) (by kernel_rfl) (fun _ _ _ h => h) rfl (fun w' hw' => by simp [go_sem]) hS4 ?_
    simp only [Act.put,qA,qB,qC]
    refine wpAnyH_all (rs := [10]) (by kernel_rfl) (by simp) ?_
    intro i hi
    simp only [List.mem_singleton] at hi
    subst hi
    refine t_skip 10 rfl rfl (w4.setCell ⟨fb,11,none⟩ (.slice oa4 n4 k4)) (stS _ _ _ _ 95 rfl (fun _ => by simp [go_sem]) fb 11 oa4 n4 k4 rfl rfl w4 c114 hfz) (hS5) ?_
    simp only [Act.put]
    refine wpAnyH_done (by kernel_rfl) ?_ _
    clear hS hf3 ho3 hF3 hgl hfl c11 hbA hSA hfA c11A hat hoA r1 r3 r4 hS4 hf4 hfz c114 hF4 hf5 ho5 hF5 hS5 hfr4 r2 hfr3
    go_wp2_with fail
    exact bodyPost_end (results_none Tryz.results98 _ _ _) rfl ⟨rfl,⟨_,unhide HF5,unhide HO5,unhide HFR5⟩,unhide HFF5⟩
end Go.Proofs.YtpopchckldbhdaaGreatDoor
namespace Go.Proofs.YtpopchckldbhdaaGreatDoor
section
variable {O : Ora} {F : FM}
theorem evict_sub (room n : Nat) : ∀ (m : Nat) (ts : List Tile),ts.length <= m -> (evict room n ts).Sublist ts /\ (n <= room -> bytesT (evict room n ts) + n <= room)
  | 0,ts,h => by
    obtain rfl : ts = [] := List.eq_nil_of_length_eq_zero (by omega)
    unfold evict
    exact ⟨List.Sublist.refl _,fun h => by simp only [bytesT]; omega⟩
  | m + 1,[],h => by unfold evict; exact ⟨List.Sublist.refl _,fun h => by simp only [bytesT]; omega⟩
  | m + 1,t :: ts,h => by
    unfold evict
    split
    . have hl := outT_len ts t.k
      have ih := evict_sub room n m (outT ts t.k) (by simp only [List.length_cons] at h; omega)
      exact ⟨(ih.1.trans (outT_sub ts t.k)).cons t,ih.2⟩
    . exact ⟨List.Sublist.refl _,fun _ => by omega⟩
structure CaOk (O : Ora) (F : FM) (ts : List Tile) : Prop where
  byt : bytesT ts <= F.room
  til : ∀ t ∈ ts,KOk t.k /\ t = F.tileOf O F.ver t.k
  tno : (ts.map Tile.k).Nodup
theorem CaOk.lay {ts : List Tile} (h : CaOk O F ts) {t : Tile} (ht : KOk t.k /\ t = F.tileOf O F.ver t.k) : CaOk O F (layT F.room ts t) := by
  unfold layT
  split
  . exact h
  . rename_i hr
    have he := evict_sub F.room t.body.size _ (outT ts t.k) (Nat.le_refl _)
    refine ⟨?_,?_,nodup_out h.tno t he.1⟩
    . rw [bytesT_app]
      have := he.2 (by omega)
      simp only [bytesT]; omega
    . intro u hu
      rcases List.mem_append.1 hu with hu | hu
      . exact h.til u ((outT_sub _ _).subset (he.1.subset hu))
      . simp at hu; subst hu; exact ht
theorem Ok.still (h : Ok O F) {k : K4} (hk : KOk k) {reads : Nat} (hr : reads <= F.ver) (hs : F.same O k reads = true) : F.tileOf O reads k = F.tileOf O F.ver k := by
  unfold FM.same FM.stamp at hs
  have := h.hi.still reads F.ver hr (Nat.le_refl _) k hk (by simpa using hs)
  unfold FM.tileOf FM.stamp
  rw [this.1,this.2]
theorem CaOk.layU (h : Ok O F) {reads : Nat} (hr : reads <= F.ver) : ∀ (us ts : List Tile),CaOk O F ts -> (∀ t ∈ us,KOk t.k /\ t = F.tileOf O reads t.k) -> CaOk O F (F.layU O reads ts us)
  | [],ts,hc,_ => hc
  | u :: us,ts,hc,hu => by
    unfold FM.layU
    rw [List.foldl_cons]
    refine CaOk.layU h hr us _ ?_ fun t ht => hu t (List.mem_cons_of_mem _ ht)
    split
    . rename_i hs
      have := hu u (List.mem_cons_self ..)
      exact hc.lay ⟨this.1,by rw [<- h.still this.1 hr hs]; exact this.2⟩
    . exact hc
theorem tilesOf_mem (F : FM) (f : Fl) {k : K4} (hk : KOk k) (hb : f.b = k.blk) : ∀ t ∈ F.tilesOf O f,KOk t.k /\ t.k.blk = f.b /\ t = F.tileOf O f.reads t.k := by
  intro t ht
  unfold FM.tilesOf at ht
  obtain ⟨k',hk',rfl⟩ := List.mem_map.1 ht
  rw [hb] at hk' ⊢
  have := (mem_keys hk).1 hk'
  exact ⟨this.1,this.2,rfl⟩
theorem tilesOf_find (F : FM) (f : Fl) {k : K4} (hk : KOk k) (hb : f.b = k.blk) (k' : K4) (hk' : KOk k') : findT (F.tilesOf O f) k' = if k'.blk = f.b then some (F.tileOf O f.reads k') else none := by
  cases e : findT (F.tilesOf O f) k' with
  | some t =>
    have h1 := findT_some e
    have h2 := tilesOf_mem F f hk hb t h1.1
    rw [<- h1.2,if_pos h2.2.1,<- h2.2.2]
  | none =>
    by_cases c : k'.blk = f.b
    . exfalso
      have := findT_none e (F.tileOf O f.reads k') (by unfold FM.tilesOf; rw [hb]; exact List.mem_map.2 ⟨k',(mem_keys hk).2 ⟨hk',by rw [c,hb]⟩,rfl⟩)
      exact this rfl
    . rw [if_neg c]
theorem Ok.good (h : Ok O F) {f : Fl} (hf : f ∈ F.fls) {r : Req} (hr : r ∈ F.waiting) : F.good O (F.tilesOf O f) f.reads r = if r.k.blk = f.b /\ (r.asked <= f.reads \/ F.same O r.k f.reads = true) then some (F.tileOf O f.reads r.k) else none := by
  obtain ⟨_,_,k,hk,hb⟩ := h.flt f hf
  unfold FM.good
  rw [tilesOf_find F f hk hb r.k (h.req r hr).2.2.2.1]
  by_cases c : r.k.blk = f.b
  . rw [if_pos c]
    dsimp only
    by_cases d : r.asked <= f.reads \/ F.same O r.k f.reads = true
    . rw [if_pos (show (decide (r.asked <= (f.reads : Int)) || F.same O r.k f.reads) = true by simpa using d),if_pos ⟨c,d⟩]
    . rw [if_neg (show ¬ (decide (r.asked <= (f.reads : Int)) || F.same O r.k f.reads) = true by simpa using d),if_neg (fun q => d q.2)]
  . rw [if_neg c,if_neg (fun q => c q.1)]
theorem mem_fls {i : Nat} {f : Fl} (h : F.wks[i]? = some (some f)) : f ∈ F.fls := by
  unfold FM.fls
  rw [List.mem_filterMap]
  exact ⟨some f,List.mem_of_getElem? h,rfl⟩
theorem Ok.take (h : Ok O F) {i : Nat} (hi : F.wks[i]? = some none) : Ok O (F.takeW i) := by
  unfold FM.takeW
  cases hl : F.line with
  | nil => exact h
  | cons b rest =>
    have hlt : i < F.wks.length := (List.getElem?_eq_some_iff.1 hi).1
    have hp : ((F.wks.set i (some ⟨b,F.ver,nsteps (F.FLs F.ver).length F.chunk,0⟩)).filterMap id).Perm (⟨b,F.ver,nsteps (F.FLs F.ver).length F.chunk,0⟩ :: F.fls) := by
      have h1 := fls_set F.wks i (some ⟨b,F.ver,nsteps (F.FLs F.ver).length F.chunk,0⟩) hlt
      rw [set_self F.wks i none hi] at h1
      exact h1
    obtain ⟨r0,hr0,e0⟩ := h.lin b (by rw [hl]; exact List.mem_cons_self ..)
    have hnod := h.nod
    rw [hl] at hnod
    refine { h with wn := ?_,fl := ?_,lin := ?_,nod := ?_,flt := ?_,pin := ?_,bus := ?_ }
    . show 1 <= (F.wks.set i _).length /\ (F.wks.set i _).length <= 4
      rw [List.length_set]; exact h.wn
    . intro r hr
      show r.k.blk ∈ rest \/ r.k.blk ∈ ((F.wks.set i _).filterMap id).map Fl.b
      have := h.fl r hr
      rw [hl] at this
      rcases this with q | q
      . rcases List.mem_cons.1 q with q | q
        . right
          rw [(hp.map Fl.b).mem_iff,q]
          exact List.mem_cons_self ..
        . exact Or.inl q
      . right
        rw [(hp.map Fl.b).mem_iff]
        exact List.mem_cons_of_mem _ q
    . intro c hc
      exact h.lin c (by rw [hl]; exact List.mem_cons_of_mem _ hc)
    . show (rest ++ ((F.wks.set i _).filterMap id).map Fl.b).Nodup
      refine ((hp.map Fl.b).append_left rest).nodup_iff.2 ?_
      exact (List.perm_middle.nodup_iff).2 hnod
    . intro f hf
      rcases List.mem_cons.1 (hp.mem_iff.1 hf) with rfl | hf
      . exact ⟨Nat.le_refl _,flOk_start _ _ _ _ h.ch.1,r0.k,(h.req r0 hr0).2.2.2.1,e0.symm⟩
      . exact h.flt f hf
    . show (F.PI ++ [(F.ver : Int)]).Perm (((F.wks.set i _).filterMap id).map _)
      refine List.Perm.trans ?_ (hp.map _).symm
      rw [List.map_cons]
      exact (List.perm_append_singleton _ _).trans (List.Perm.cons _ h.pin)
    . show ((F.wks.set i _).filterMap id).length <= F.started + 1
      rw [hp.length_eq,List.length_cons]
      have := h.bus
      omega
theorem Ok.step (h : Ok O F) {i : Nat} {f : Fl} (hi : F.wks[i]? = some (some f)) (h1 : 1 < f.left) : Ok O { F with wks := F.wks.set i (some (f.step (F.FLs f.reads).length F.chunk)) } := by
  have hlt : i < F.wks.length := (List.getElem?_eq_some_iff.1 hi).1
  have p1 := fls_set F.wks i (some (f.step (F.FLs f.reads).length F.chunk)) hlt
  have p2 : F.fls.Perm (f :: (F.wks.set i none).filterMap id) := fls_at hi
  have hb : (((F.wks.set i (some (f.step (F.FLs f.reads).length F.chunk))).filterMap id).map Fl.b).Perm (F.fls.map Fl.b) := (p1.map Fl.b).trans (p2.map Fl.b).symm
  have hf := h.flt f (mem_fls hi)
  refine { h with wn := ?_,fl := ?_,nod := ?_,flt := ?_,pin := ?_,bus := ?_ }
  . show 1 <= (F.wks.set i _).length /\ (F.wks.set i _).length <= 4
    rw [List.length_set]; exact h.wn
  . intro r hr
    rcases h.fl r hr with q | q
    . exact Or.inl q
    . exact Or.inr (hb.mem_iff.2 q)
  . exact (hb.append_left F.line).nodup_iff.2 h.nod
  . intro g hg
    rcases List.mem_cons.1 (p1.mem_iff.1 hg) with rfl | hg
    . exact ⟨hf.1,(hf.2.1.next h1).1,hf.2.2⟩
    . exact h.flt g (p2.mem_iff.2 (List.mem_cons_of_mem _ hg))
  . exact h.pin.trans ((p2.map fun f => (f.reads : Int)).trans (p1.map fun f => (f.reads : Int)).symm)
  . show ((F.wks.set i _).filterMap id).length <= F.started
    have e1 := p1.length_eq
    have e2 := p2.length_eq
    have := h.bus
    simp only [Option.toList,List.cons_append,List.nil_append,List.length_cons] at e1 e2
    omega
theorem Ok.finish (h : Ok O F) {i : Nat} {f : Fl} (hi : F.wks[i]? = some (some f)) : Ok O (F.finishW O i f).1 := by
  have hf0 := mem_fls hi
  have hf := h.flt f hf0
  obtain ⟨k,hk,hb⟩ := hf.2.2
  have p2 : F.fls.Perm (f :: (F.wks.set i none).filterMap id) := fls_at hi
  have hnod : (f.b :: (F.line ++ ((F.wks.set i none).filterMap id).map Fl.b)).Nodup := by
    have := ((p2.map Fl.b).append_left F.line).nodup_iff.1 h.nod
    exact (List.perm_middle.nodup_iff).1 this
  have hsub : (F.fineL O (F.tilesOf O f) f.reads).Sublist F.waiting := List.filter_sublist
  have hca := CaOk.layU h hf.1 (F.tilesOf O f) F.tiles ⟨h.byt,h.til,h.tno⟩ fun t ht => by have := tilesOf_mem F f hk hb t ht; exact ⟨this.1,this.2.2⟩
  have hstay : ∀ r ∈ F.waiting,r.k.blk ≠ f.b -> r ∈ F.fineL O (F.tilesOf O f) f.reads := by
    intro r hr hne
    unfold FM.fineL
    rw [List.mem_filter]
    exact ⟨hr,by rw [h.good hf0 hr,if_neg (fun q => hne q.1)]; rfl⟩
  refine { h with
    wn := ?_,wq := Nat.le_trans hsub.length_le h.wq,req := fun r hr => h.req r (hsub.subset hr),srt := h.srt.sublist hsub,fl := ?_,lin := ?_,nod := ?_,flt := ?_,pin := ?_,bus := ?_,
    byt := hca.byt,til := hca.til,tno := hca.tno }
  . show 1 <= (F.wks.set i _).length /\ (F.wks.set i _).length <= 4
    rw [List.length_set]; exact h.wn
  . intro r hr
    show r.k.blk ∈ (if 0 < countFor (F.fineL O (F.tilesOf O f) f.reads) f.b then F.line ++ [f.b] else F.line) \/ r.k.blk ∈ ((F.wks.set i none).filterMap id).map Fl.b
    have hr' : r ∈ F.fineL O (F.tilesOf O f) f.reads := hr
    by_cases c : r.k.blk = f.b
    . left
      rw [if_pos ((countFor_pos _ _).2 ⟨r,hr',c⟩),c]
      simp
    . rcases h.fl r (hsub.subset hr') with q | q
      . left; split
        . exact List.mem_append_left _ q
        . exact q
      . right
        rcases List.mem_cons.1 ((p2.map Fl.b).mem_iff.1 q) with q | q
        . exact absurd q c
        . exact q
  . intro c hc
    have hc' : c ∈ (if 0 < countFor (F.fineL O (F.tilesOf O f) f.reads) f.b then F.line ++ [f.b] else F.line) := hc
    show ∃ r ∈ F.fineL O (F.tilesOf O f) f.reads,_
    by_cases d : c ∈ F.line
    . obtain ⟨r,hr,e⟩ := h.lin c d
      refine ⟨r,hstay r hr (fun q => ?_),e⟩
      rw [e] at q
      exact (List.nodup_cons.1 hnod).1 (List.mem_append_left _ (q ▸ d))
    . split at hc'
      . rename_i q
        rcases List.mem_append.1 hc' with hc' | hc'
        . exact absurd hc' d
        . simp at hc'
          rw [hc']
          exact (countFor_pos _ _).1 q
      . exact absurd hc' d
  . show ((if 0 < countFor (F.fineL O (F.tilesOf O f) f.reads) f.b then F.line ++ [f.b] else F.line) ++ ((F.wks.set i none).filterMap id).map Fl.b).Nodup
    split
    . rw [List.append_assoc]
      exact (List.perm_middle.nodup_iff).2 hnod
    . exact (List.nodup_cons.1 hnod).2
  . intro g hg
    exact h.flt g (p2.mem_iff.2 (List.mem_cons_of_mem _ hg))
  . show (F.PI.erase (f.reads : Int)).Perm (((F.wks.set i none).filterMap id).map _)
    have := (h.pin.trans (p2.map _)).erase (f.reads : Int)
    rw [List.map_cons,List.erase_cons_head] at this
    exact this
  . show ((F.wks.set i none).filterMap id).length <= F.started
    have e2 := p2.length_eq
    have := h.bus
    simp only [List.length_cons] at e2
    omega
theorem Ok.work (h : Ok O F) (i : Nat) : Ok O (F.work O i).1 := by
  unfold FM.work
  cases e : F.wks[i]? with
  | none => exact h
  | some o =>
    cases o with
    | none => exact h.take e
    | some f =>
      dsimp only
      split
      . exact h.step e (by assumption)
      . exact h.finish e
theorem Ok.tick (h : Ok O F) : Ok O F.tick.1 := by
  have hsub : (F.waiting.filter fun r => decide (¬ r.due <= ((F.now + 1 : Nat) : Int))).Sublist F.waiting := List.filter_sublist
  have hsubl : (F.line.filter fun b => decide (0 < countFor (F.waiting.filter fun r => decide (¬ r.due <= ((F.now + 1 : Nat) : Int))) b)).Sublist F.line := List.filter_sublist
  refine { h with wq := Nat.le_trans hsub.length_le h.wq,req := ?_,srt := h.srt.sublist hsub,fl := ?_,lin := ?_,nod := ?_ }
  . intro r hr
    have h1 := h.req r (hsub.subset hr)
    have h2 : ¬ r.due <= ((F.now + 1 : Nat) : Int) := by simpa using (List.mem_filter.1 hr).2
    refine ⟨by show ((F.now + 1 : Nat) : Int) < r.due; omega,h1.2.1,h1.2.2.1,h1.2.2.2.1,h1.2.2.2.2.1,h1.2.2.2.2.2.1,by show r.due <= ((F.now + 1 : Nat) : Int) + F.wait; omega⟩
  . intro r hr
    rcases h.fl r (hsub.subset hr) with q | q
    . left
      show r.k.blk ∈ F.line.filter _
      rw [List.mem_filter]
      exact ⟨q,by rw [decide_eq_true_eq]; exact (countFor_pos _ _).2 ⟨r,hr,rfl⟩⟩
    . exact Or.inr q
  . intro b hb
    have := (List.mem_filter.1 hb).2
    rw [decide_eq_true_eq] at this
    exact (countFor_pos _ _).1 this
  . show (F.line.filter _ ++ F.fls.map Fl.b).Nodup
    exact (List.Sublist.append hsubl (List.Sublist.refl _)).nodup h.nod
structure Nxt (O : Ora) (LS : List Ft) (n : Nat) (FLs : Nat -> List Ft) (LS' FL' : List Ft) : Prop where
  hi : Hi O LS' (n + 1) (fun v => if v = n + 1 then FL' else FLs v)
  old : ∀ v : Nat,v <= n -> ∀ k,KOk k -> O.stamp LS' v k = O.stamp LS v k
theorem tileOf_old (F : FM) {LS' FL' : List Ft} (hx : Nxt O F.LS F.ver F.FLs LS' FL') {v : Nat} (hv : v <= F.ver) {k : K4} (hk : KOk k) : (F.write O LS' FL').tileOf O v k = F.tileOf O v k := by
  unfold FM.tileOf FM.stamp FM.write
  dsimp only
  rw [if_neg (by omega),hx.old v hv k hk]
theorem Ok.write (h : Ok O F) {LS' FL' : List Ft} (hv : F.ver < 100) (hx : Nxt O F.LS F.ver F.FLs LS' FL') : Ok O (F.write O LS' FL') := by
  have hsub : ((F.write O LS' FL').tiles).Sublist F.tiles := List.filter_sublist
  have hok : ∀ t ∈ (F.write O LS' FL').tiles,KOk t.k /\ t = (F.write O LS' FL').tileOf O (F.ver + 1) t.k := by
    intro t ht
    have h1 := h.til t (hsub.subset ht)
    refine ⟨h1.1,?_⟩
    have h2 : O.stamp LS' ((F.ver + 1 : Nat) : Int) t.k <= F.ver := by
      have : decide (O.stamp LS' ((F.ver + 1 : Nat) : Int) t.k <= F.ver) = true := (List.mem_filter.1 ht).2
      exact of_decide_eq_true this
    have h3 := hx.hi.still F.ver (F.ver + 1) (by omega) (Nat.le_refl _) t.k h1.1 h2
    have h4 := tileOf_old F hx (Nat.le_refl _) h1.1
    rw [h1.2,<- h4]
    unfold FM.tileOf FM.stamp FM.write
    dsimp only at h3 ⊢
    rw [h3.1,h3.2]
  refine { h with v100 := ?_,req := ?_,flt := ?_,hi := hx.hi,byt := Nat.le_trans (bytesT_sub hsub) h.byt,til := hok,tno := (hsub.map _).nodup h.tno }
  . show F.ver + 1 <= 100; omega
  . intro r hr
    have := h.req r hr
    exact ⟨this.1,this.2.1,by show r.asked <= ((F.ver + 1 : Nat) : Int); omega,this.2.2.2⟩
  . intro f hf
    have := h.flt f hf
    refine ⟨by show f.reads <= F.ver + 1; omega,?_,this.2.2⟩
    show FlOk (if f.reads = F.ver + 1 then FL' else F.FLs f.reads).length F.chunk f
    rw [if_neg (by omega)]
    exact this.2.1
end
end Go.Proofs.YtpopchckldbhdaaGreatDoor
