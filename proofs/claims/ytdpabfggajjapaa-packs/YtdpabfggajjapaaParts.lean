/-
  THE PLAIN MATHEMATICS of pictures, runs and bodies, over lists of bytes: no program in sight.
-/
namespace Go.Proofs.Ytdpabfggajjapaa
namespace Pt

/-- A picture. -/
def okPic (l : List UInt8) : Bool := decide (l.length = 64 ∧ ∀ c ∈ l, c.toNat ≤ 15)
theorem okPic_iff (l : List UInt8) : okPic l = true ↔ l.length = 64 ∧ ∀ c ∈ l, c.toNat ≤ 15 := by simp [okPic]

/-- A run's byte: of ink c, n + 1 long. -/
def runByte (n : Nat) (c : UInt8) : UInt8 := UInt8.ofNat (16 * n + c.toNat)

/-- The runs behind a run of ink c that has n + 1 pixels by now. -/
def go (c : UInt8) (n : Nat) : List UInt8 → List UInt8
  | [] => [runByte n c]
  | x :: r => if x = c ∧ n < 15 then go c (n + 1) r else runByte n c :: go x 0 r
def runs : List UInt8 → List UInt8
  | [] => []
  | x :: r => go x 0 r

/-- How many of the first n are c. -/
def lead (c : UInt8) : Nat → List UInt8 → Nat
  | 0, _ => 0
  | _ + 1, [] => 0
  | n + 1, x :: r => if x = c then lead c n r + 1 else 0

theorem lead_le (c : UInt8) : ∀ (n : Nat) (l : List UInt8), lead c n l ≤ n ∧ lead c n l ≤ l.length
  | 0, _ => by simp [lead]
  | _ + 1, [] => by simp [lead]
  | n + 1, x :: r => by
    have h := lead_le c n r
    unfold lead
    split <;> simp <;> omega

theorem go_lead (c : UInt8) : ∀ (r : List UInt8) (n m : Nat), n + m = 15 → go c n r = runByte (n + lead c m r) c :: runs (r.drop (lead c m r))
  | [], n, m, h => by cases m <;> simp [go, lead, runs]
  | x :: r, n, m, h => by
    cases m with
    | zero =>
      have hn : ¬ n < 15 := by omega
      simp [go, lead, runs, hn]
    | succ m =>
      have hn : n < 15 := by omega
      by_cases hx : x = c
      · subst hx
        have ih := go_lead x r (n + 1) m (by omega)
        simp only [go, lead, hn, and_self, if_true, ih]
        rw [show n + 1 + lead x m r = n + (lead x m r + 1) from by omega]
        simp
      · simp [go, lead, runs, hx]

theorem runs_cons (x : UInt8) (r : List UInt8) : runs (x :: r) = runByte (lead x 15 r) x :: runs (r.drop (lead x 15 r)) := by
  have := go_lead x r 0 15 rfl
  simpa [runs] using this

/-- What a list of runs spreads to. -/
def ofRun (b : UInt8) : List UInt8 := List.replicate (b.toNat / 16 + 1) (b % 16)
def spread (l : List UInt8) : List UInt8 := l.flatMap ofRun

theorem ofRun_runByte (n : Nat) (c : UInt8) (hn : n ≤ 15) (hc : c.toNat ≤ 15) : ofRun (runByte n c) = List.replicate (n + 1) c := by
  unfold ofRun runByte
  have h1 : (UInt8.ofNat (16 * n + c.toNat)).toNat = 16 * n + c.toNat := by simp; omega
  rw [h1]
  have h2 : (16 * n + c.toNat) / 16 = n := by omega
  have h3 : UInt8.ofNat (16 * n + c.toNat) % 16 = c := by
    apply UInt8.toNat_inj.1
    simp only [UInt8.toNat_mod, h1]
    have : (16 : UInt8).toNat = 16 := rfl
    rw [this]; omega
  rw [h2, h3]

theorem spread_go (c : UInt8) : ∀ (r : List UInt8) (n : Nat), n ≤ 15 → c.toNat ≤ 15 → (∀ x ∈ r, x.toNat ≤ 15) → spread (go c n r) = List.replicate (n + 1) c ++ r
  | [], n, hn, hc, _ => by simp [go, spread, ofRun_runByte n c hn hc]
  | x :: r, n, hn, hc, h => by
    unfold go
    by_cases hx : x = c ∧ n < 15
    · rw [if_pos hx]
      obtain ⟨rfl, hlt⟩ := hx
      rw [spread_go x r (n + 1) (by omega) hc (fun y hy => h y (by simp [hy]))]
      rw [List.replicate_succ' (n := n + 1)]
      simp
    · rw [if_neg hx]
      have ih := spread_go x r 0 (by omega) (h x (by simp)) (fun y hy => h y (by simp [hy]))
      simp only [spread, List.flatMap_cons] at ih ⊢
      rw [ih, ofRun_runByte n c hn hc]
      simp

theorem spread_runs (l : List UInt8) (h : ∀ x ∈ l, x.toNat ≤ 15) : spread (runs l) = l := by
  cases l with
  | nil => rfl
  | cons x r =>
    have := spread_go x r 0 (by omega) (h x (by simp)) (fun y hy => h y (by simp [hy]))
    simpa [runs] using this

/-- What runs weigh: how many pixels. -/
def wt (l : List UInt8) : Nat := (spread l).length
theorem wt_nil : wt [] = 0 := rfl
theorem wt_cons (b : UInt8) (l : List UInt8) : wt (b :: l) = b.toNat / 16 + 1 + wt l := by simp [wt, spread, ofRun]
theorem wt_append (a b : List UInt8) : wt (a ++ b) = wt a + wt b := by simp [wt, spread]
theorem wt_le : ∀ l : List UInt8, l.length ≤ wt l ∧ wt l ≤ 16 * l.length
  | [] => by simp [wt_nil]
  | b :: l => by
    have := wt_le l
    have hb : b.toNat < 256 := b.toNat_lt
    rw [wt_cons]
    simp only [List.length_cons]
    omega

/-- The sums. -/
def sum1 : List UInt8 → Nat
  | [] => 0
  | c :: r => c.toNat + sum1 r
/-- The weighed sum: the first of them weighs n. -/
def sum2 (n : Int) : List UInt8 → Int
  | [] => 0
  | c :: r => n * c.toNat + sum2 (n - 1) r
theorem sum1_append : ∀ a b : List UInt8, sum1 (a ++ b) = sum1 a + sum1 b
  | [], b => by simp [sum1]
  | c :: a, b => by simp [sum1, sum1_append a b]; omega
theorem sum2_append : ∀ (a b : List UInt8) (n : Int), sum2 n (a ++ b) = sum2 n a + sum2 (n - a.length) b
  | [], b, n => by simp [sum2]
  | c :: a, b, n => by
    simp only [List.cons_append, sum2, sum2_append a b (n - 1), List.length_cons]
    rw [show n - 1 - (a.length : Int) = n - ((a.length + 1 : Nat) : Int) from by omega]
    omega
theorem sum1_le : ∀ l : List UInt8, sum1 l ≤ 255 * l.length
  | [] => by simp [sum1]
  | c :: r => by
    have := sum1_le r
    have hc : c.toNat < 256 := c.toNat_lt
    simp only [sum1, List.length_cons]
    omega
theorem sum1_replicate (n : Nat) (c : UInt8) : sum1 (List.replicate n c) = n * c.toNat := by
  induction n with
  | zero => simp [sum1]
  | succ n ih => rw [List.replicate_succ, sum1, ih, Nat.succ_mul]; omega
theorem sum2_le : ∀ (l : List UInt8) (n : Int), (l.length : Int) ≤ n → n ≤ 64 → 0 ≤ sum2 n l ∧ sum2 n l ≤ 16320 * l.length
  | [], _, _, _ => by simp [sum2]
  | c :: r, n, h, h' => by
    have hc : c.toNat < 256 := c.toNat_lt
    simp only [List.length_cons] at h
    have ih := sum2_le r (n - 1) (by omega) (by omega)
    have h1 : 0 ≤ n * (c.toNat : Int) := Int.mul_nonneg (by omega) (by omega)
    have h2 : n * (c.toNat : Int) ≤ 64 * 255 := Int.mul_le_mul h' (by omega) (by omega) (by omega)
    simp only [sum2, List.length_cons]
    omega

/-- The check bytes. -/
def ch1 (l : List UInt8) : UInt8 := UInt8.ofNat ((1 + sum1 l) % 251)
def ch2 (l : List UInt8) : UInt8 := UInt8.ofNat ((64 + sum2 64 l) % 251).toNat
/-- A picture's body. -/
def body (l : List UInt8) : List UInt8 := 84 :: (runs l ++ [ch1 l, ch2 l])
/-- What lies between. -/
def mid (b : List UInt8) : List UInt8 := (b.drop 1).take (b.length - 3)
theorem mid_mk (a c d : UInt8) (r : List UInt8) : mid (a :: (r ++ [c, d])) = r := by simp [mid]
/-- Is it a body? -/
def okBody (b : List UInt8) : Bool := decide (7 ≤ b.length ∧ b.length ≤ 67) && (okPic (spread (mid b)) && decide (body (spread (mid b)) = b))
theorem okBody_iff (b : List UInt8) : okBody b = true ↔ (7 ≤ b.length ∧ b.length ≤ 67) ∧ okPic (spread (mid b)) = true ∧ body (spread (mid b)) = b := by simp [okBody]

theorem body_len (l : List UInt8) (h : okPic l = true) : 7 ≤ (body l).length ∧ (body l).length ≤ 67 := by
  obtain ⟨h1, h2⟩ := (okPic_iff l).1 h
  have hs := spread_runs l h2
  have hw : wt (runs l) = 64 := by simp [wt, hs, h1]
  have := wt_le (runs l)
  simp only [body, List.length_cons, List.length_append, List.length_nil]
  omega
theorem mid_body (l : List UInt8) : mid (body l) = runs l := mid_mk _ _ _ _
theorem spread_mid_body (l : List UInt8) (h : okPic l = true) : spread (mid (body l)) = l := by
  rw [mid_body, spread_runs l ((okPic_iff l).1 h).2]
theorem okBody_body (l : List UInt8) (h : okPic l = true) : okBody (body l) = true := by
  rw [okBody_iff, spread_mid_body l h]
  exact ⟨body_len l h, h, rfl⟩
theorem wt_mid (b : List UInt8) (h : okBody b = true) : wt (mid b) = 64 := ((okPic_iff _).1 ((okBody_iff b).1 h).2.1).1

/-! ### One byte less -/
theorem take_append_one (r : List UInt8) (z : UInt8) : (r ++ [z]).take ((r ++ [z]).length - 2) = r.take (r.length - 1) := by
  simp [List.take_append]
theorem wt_erase : ∀ (l : List UInt8) (k : Nat), k < l.length → wt (l.eraseIdx k) < wt l
  | [], k, h => by simp at h
  | b :: l, 0, _ => by simp [wt_cons]
  | b :: l, k + 1, h => by
    have := wt_erase l k (by simpa using h)
    simp only [List.eraseIdx_cons_succ, wt_cons]; omega
theorem wt_take_pred (l : List UInt8) (h : 0 < l.length) : wt (l.take (l.length - 1)) < wt l := by
  have := wt_erase l (l.length - 1) (by omega)
  rwa [List.eraseIdx_eq_take_drop_succ, List.drop_of_length_le (by omega), List.append_nil] at this
theorem mid_cons (a : UInt8) (z : List UInt8) : mid (a :: z) = z.take (z.length - 2) := by simp [mid]
theorem wt_mid_erase (a c d : UInt8) (r : List UInt8) (hr : 0 < r.length) (i : Nat) (hi : i < r.length + 3) :
    wt (mid ((a :: (r ++ [c, d])).eraseIdx i)) < wt r := by
  cases i with
  | zero =>
    cases r with
    | nil => simp at hr
    | cons x r => rw [List.eraseIdx_cons_zero, List.cons_append, mid_mk, wt_cons]; omega
  | succ k =>
    rw [List.eraseIdx_cons_succ, mid_cons]
    by_cases hk : k < r.length
    · rw [List.eraseIdx_append_of_lt_length hk, List.length_append]
      simp only [List.length_cons, List.length_nil, Nat.add_sub_cancel, List.take_left']
      exact wt_erase r k hk
    · have hk' : r.length ≤ k := by omega
      rw [List.eraseIdx_append_of_length_le hk']
      have : k - r.length = 0 ∨ k - r.length = 1 := by omega
      rcases this with h | h <;> rw [h] <;> simp only [List.eraseIdx_cons_zero, List.eraseIdx_cons_succ] <;> rw [take_append_one] <;> exact wt_take_pred r hr

theorem body_form (b : List UInt8) (h : okBody b = true) : ∃ l, okPic l = true ∧ b = body l := ⟨_, ((okBody_iff b).1 h).2.1, ((okBody_iff b).1 h).2.2.symm⟩

/-- A body without one of its bytes is none. -/
theorem less_none (b : List UInt8) (h : okBody b = true) (i : Nat) (hi : i < b.length) : okBody (b.eraseIdx i) = false := by
  obtain ⟨l, hl, rfl⟩ := body_form b h
  rw [Bool.eq_false_iff]
  intro h'
  have h1 := wt_mid _ h'
  have h2 := wt_mid _ h
  rw [mid_body] at h2
  have hw := wt_le (runs l)
  have := wt_mid_erase 84 (ch1 l) (ch2 l) (runs l) (by omega) i (by simpa [body] using hi)
  rw [show body l = 84 :: (runs l ++ [ch1 l, ch2 l]) from rfl] at h1
  omega

/-- A body with a byte more is none. -/
theorem more_none (b x : List UInt8) (h : okBody b = true) (i : Nat) (hi : i < x.length) (e : x.eraseIdx i = b) : okBody x = false := by
  rw [Bool.eq_false_iff]
  intro h'
  have := less_none x h' i hi
  rw [e, h] at this
  cases this

/-! ### One byte that is another -/
theorem wt_set : ∀ (l : List UInt8) (k : Nat) (hk : k < l.length) (v : UInt8), wt (l.set k v) + l[k].toNat / 16 = wt l + v.toNat / 16
  | [], k, h, _ => by simp at h
  | b :: l, 0, _, v => by simp [wt_cons]; omega
  | b :: l, k + 1, h, v => by
    have := wt_set l k (by simpa using h) v
    simp only [List.set_cons_succ, wt_cons, List.getElem_cons_succ]; omega
def sumR (l : List UInt8) : Nat := sum1 (spread l)
theorem sumR_cons (b : UInt8) (l : List UInt8) : sumR (b :: l) = (b.toNat / 16 + 1) * (b.toNat % 16) + sumR l := by
  simp only [sumR, spread, List.flatMap_cons, sum1_append, ofRun, sum1_replicate, UInt8.toNat_mod]
  rfl
theorem sumR_set : ∀ (l : List UInt8) (k : Nat) (hk : k < l.length) (v : UInt8),
    sumR (l.set k v) + (l[k].toNat / 16 + 1) * (l[k].toNat % 16) = sumR l + (v.toNat / 16 + 1) * (v.toNat % 16)
  | [], k, h, _ => by simp at h
  | b :: l, 0, _, v => by simp [sumR_cons]; omega
  | b :: l, k + 1, h, v => by
    have := sumR_set l k (by simpa using h) v
    simp only [List.set_cons_succ, sumR_cons, List.getElem_cons_succ]; omega

theorem ch1_of (l m : List UInt8) (h : ch1 l = ch1 m) : (1 + sum1 l) % 251 = (1 + sum1 m) % 251 := by
  have := congrArg UInt8.toNat h
  simp only [ch1, UInt8.toNat_ofNat'] at this
  omega

theorem other (n a b : Nat) (hn : n ≤ 15) (ha : a ≤ 15) (hb : b ≤ 15) (x y : Nat) (h : y + (n + 1) * a = x + (n + 1) * b) (hm : (1 + x) % 251 = (1 + y) % 251) : a = b := by
  have h1 : (n + 1) * a ≤ 16 * 15 := Nat.mul_le_mul (by omega) ha
  have h2 : (n + 1) * b ≤ 16 * 15 := Nat.mul_le_mul (by omega) hb
  have h3 : (n + 1) * a = (n + 1) * b := by omega
  exact Nat.eq_of_mul_eq_mul_left (by omega) h3

/-- A body in which one byte is another is none. -/
theorem turned_none (b : List UInt8) (h : okBody b = true) (i : Nat) (hi : i < b.length) (v : UInt8) (hv : v ≠ b[i]) : okBody (b.set i v) = false := by
  obtain ⟨l, hl, rfl⟩ := body_form b h
  rw [Bool.eq_false_iff]
  intro h'
  obtain ⟨m, hm, e⟩ := body_form _ h'
  obtain ⟨hl1, hl2⟩ := (okPic_iff l).1 hl
  obtain ⟨hm1, hm2⟩ := (okPic_iff m).1 hm
  have sl := spread_runs l hl2
  have sm := spread_runs m hm2
  have hne : body m ≠ body l := by
    intro e2
    rw [e2] at e
    have : (body l)[i]? = some v := by rw [← e]; simp [hi]
    rw [List.getElem?_eq_getElem hi] at this
    exact hv (Option.some.inj this).symm
  have hneq : runs m ≠ runs l := by
    intro e2
    apply hne
    have : m = l := by rw [← sm, ← sl, e2]
    rw [this]
  cases i with
  | zero =>
    simp only [body, List.set_cons_zero, List.cons.injEq] at e
    exact hv (by simpa [body] using e.1)
  | succ k =>
    simp only [body, List.set_cons_succ, List.cons.injEq, true_and] at e
    by_cases hk : k < (runs l).length
    · rw [List.set_append_left _ _ hk] at e
      have elen : ((runs l).set k v).length = (runs m).length := by
        have := congrArg List.length e
        simpa using this
      obtain ⟨e1, e2⟩ := List.append_inj e elen
      simp only [List.cons.injEq] at e2
      have w1 := wt_set (runs l) k hk v
      have w2 := sumR_set (runs l) k hk v
      have wl : wt (runs l) = 64 := by simp [wt, sl, hl1]
      have wm : wt ((runs l).set k v) = 64 := by rw [e1]; simp [wt, sm, hm1]
      have sml : sumR (runs l) = sum1 l := by simp [sumR, sl]
      have smm : sumR ((runs l).set k v) = sum1 m := by rw [e1]; simp [sumR, sm]
      have c1 := ch1_of _ _ e2.1
      have hd : (runs l)[k].toNat / 16 = v.toNat / 16 := by omega
      have hv256 : v.toNat < 256 := v.toNat_lt
      rw [sml, smm, hd] at w2
      have := other (v.toNat / 16) ((runs l)[k].toNat % 16) (v.toNat % 16) (by omega) (by omega) (by omega) (sum1 l) (sum1 m) w2 c1
      apply hv
      apply UInt8.toNat_inj.1
      have hbk : (body l)[k + 1] = (runs l)[k] := by simp [body, List.getElem_append_left hk]
      rw [hbk]
      omega
    · rw [List.set_append_right _ _ (by omega)] at e
      have elen : (runs l).length = (runs m).length := by
        have := congrArg List.length e
        simpa using this
      exact hneq (List.append_inj e elen).1.symm

end Pt
end Go.Proofs.Ytdpabfggajjapaa
