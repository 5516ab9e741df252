/-
  THE PLAIN MATHEMATICS of paths, over lists of bytes: no program in sight.
-/
namespace Go.Proofs.YtacjjjjbfjkohaaDoor
namespace Pp

/-- What stands ahead of the first m, and behind it. -/
def cutL (m : UInt8) : List UInt8 → List UInt8 × List UInt8
  | [] => ([], [])
  | c :: r => if c = m then ([], r) else (c :: (cutL m r).1, (cutL m r).2)
theorem cutL_none (m : UInt8) : ∀ l : List UInt8, m ∉ l → cutL m l = (l, [])
  | [], _ => rfl
  | c :: r, h => by
    have hc : c ≠ m := fun e => h (by simp [e])
    have ih := cutL_none m r (fun e => h (by simp [e]))
    simp [cutL, hc, ih]
theorem cutL_found (m : UInt8) (r : List UInt8) : ∀ a : List UInt8, m ∉ a → cutL m (a ++ m :: r) = (a, r)
  | [], _ => by simp [cutL]
  | c :: a, h => by
    have hc : c ≠ m := fun e => h (by simp [e])
    have ih := cutL_found m r a (fun e => h (by simp [e]))
    simp [cutL, hc, ih]
theorem cutL_back (m : UInt8) : ∀ l : List UInt8, (cutL m l).2 ≠ [] → l = (cutL m l).1 ++ m :: (cutL m l).2
  | [], h => by simp [cutL] at h
  | c :: r, h => by
    by_cases hc : c = m
    · simp [cutL, hc]
    · simp only [cutL, hc, if_false] at h ⊢
      have ih := cutL_back m r h
      rw [List.cons_append, ← ih]

def within (lo hi : Nat) (l : List UInt8) : Bool := l.all fun c => decide (lo ≤ c.toNat ∧ c.toNat ≤ hi)
def nameB (l : List UInt8) : Bool := decide (1 ≤ l.length ∧ l.length ≤ 8) && within 97 122 l
def numB (l : List UInt8) : Bool := decide (1 ≤ l.length ∧ l.length ≤ 9) && (!(decide (1 < l.length) && (l.getD 0 0 == 48)) && within 48 57 l)
theorem within_not (lo hi : Nat) (l : List UInt8) (m : UInt8) (hm : m.toNat < lo ∨ hi < m.toNat) (h : within lo hi l = true) : m ∉ l := by
  intro hx
  simp only [within, List.all_eq_true, decide_eq_true_eq] at h
  have := h m hx
  omega
theorem nameB_within (l : List UInt8) (h : nameB l = true) : within 97 122 l = true := by
  simp only [nameB, Bool.and_eq_true] at h; exact h.2
theorem numB_within (l : List UInt8) (h : numB l = true) : within 48 57 l = true := by
  simp only [numB, Bool.and_eq_true] at h; exact h.2.2
theorem numB_len (l : List UInt8) (h : numB l = true) : 1 ≤ l.length ∧ l.length ≤ 9 := by
  simp only [numB, Bool.and_eq_true, decide_eq_true_eq] at h; exact h.1
theorem name_47 (l : List UInt8) (h : nameB l = true) : (47 : UInt8) ∉ l := within_not _ _ l 47 (Or.inl (by decide)) (nameB_within l h)
theorem num_47 (l : List UInt8) (h : numB l = true) : (47 : UInt8) ∉ l := within_not _ _ l 47 (Or.inl (by decide)) (numB_within l h)
theorem num_46 (l : List UInt8) (h : numB l = true) : (46 : UInt8) ∉ l := within_not _ _ l 46 (Or.inl (by decide)) (numB_within l h)

def tile : List UInt8 := [116, 105, 108, 101]
def dotTile : List UInt8 := [46, 116, 105, 108, 101]
/-- The parts of a path. -/
abbrev Quad := List UInt8 × List UInt8 × List UInt8 × List UInt8
def Form (p : List UInt8) (q : Quad) : Prop :=
  p = 47 :: (q.1 ++ 47 :: (q.2.1 ++ 47 :: (q.2.2.1 ++ 47 :: (q.2.2.2 ++ 46 :: tile)))) ∧ nameB q.1 = true ∧ numB q.2.1 = true ∧ numB q.2.2.1 = true ∧ numB q.2.2.2 = true

/-- As the program takes a path apart. -/
def splitOk (a n z x y : List UInt8 × List UInt8) : Bool := decide (a.1 = [] ∧ y.2 = tile) && (nameB n.1 && (numB z.1 && (numB x.1 && numB y.1)))
def splitL (p : List UInt8) : Option Quad :=
  let a := cutL 47 p
  let n := cutL 47 a.2
  let z := cutL 47 n.2
  let x := cutL 47 z.2
  let y := cutL 46 x.2
  if splitOk a n z x y = true then some (n.1, z.1, x.1, y.1) else none
theorem splitOk_iff (a n z x y : List UInt8 × List UInt8) : splitOk a n z x y = true ↔ (a.1 = [] ∧ y.2 = tile) ∧ nameB n.1 = true ∧ numB z.1 = true ∧ numB x.1 = true ∧ numB y.1 = true := by
  simp [splitOk]
theorem splitL_iff (p : List UInt8) (q : Quad) : splitL p = some q ↔ Form p q := by
  constructor
  · intro h
    unfold splitL at h
    simp only at h
    generalize ha : cutL 47 p = a at h
    generalize hn : cutL 47 a.2 = n at h
    generalize hz : cutL 47 n.2 = z at h
    generalize hx : cutL 47 z.2 = x at h
    generalize hy : cutL 46 x.2 = y at h
    by_cases hok : splitOk a n z x y = true
    · rw [if_pos hok] at h
      obtain ⟨⟨h1, h2⟩, h3, h4, h5, h6⟩ := (splitOk_iff _ _ _ _ _).1 hok
      have ey := cutL_back 46 x.2 (by rw [hy, h2]; decide)
      rw [hy, h2] at ey
      have ex := cutL_back 47 z.2 (by rw [hx, ey]; simp)
      rw [hx, ey] at ex
      have ez := cutL_back 47 n.2 (by rw [hz, ex]; simp)
      rw [hz, ex] at ez
      have en := cutL_back 47 a.2 (by rw [hn, ez]; simp)
      rw [hn, ez] at en
      have ea := cutL_back 47 p (by rw [ha, en]; simp)
      rw [ha, h1, en] at ea
      have hq := Option.some.inj h
      subst hq
      exact ⟨by simpa using ea, h3, h4, h5, h6⟩
    · rw [if_neg hok] at h
      cases h
  · rintro ⟨rfl, h3, h4, h5, h6⟩
    obtain ⟨n, z, x, y⟩ := q
    simp only at h3 h4 h5 h6 ⊢
    unfold splitL
    have e1 : cutL 47 (47 :: (n ++ 47 :: (z ++ 47 :: (x ++ 47 :: (y ++ 46 :: tile))))) = ([], n ++ 47 :: (z ++ 47 :: (x ++ 47 :: (y ++ 46 :: tile)))) := by simp [cutL]
    simp only [e1, cutL_found 47 _ n (name_47 n h3), cutL_found 47 _ z (num_47 z h4), cutL_found 47 _ x (num_47 x h5), cutL_found 46 _ y (num_46 y h6)]
    rw [if_pos ((splitOk_iff _ _ _ _ _).2 ⟨⟨rfl, rfl⟩, h3, h4, h5, h6⟩)]

/-- A text, cut at each slash. -/
def pieces : List UInt8 → List (List UInt8)
  | [] => [[]]
  | c :: r => if c = 47 then [] :: pieces r else (c :: (pieces r).headD []) :: (pieces r).tail
theorem pieces_ne : ∀ l, pieces l ≠ []
  | [] => by simp [pieces]
  | c :: r => by unfold pieces; split <;> simp
theorem pieces_none : ∀ a : List UInt8, (47 : UInt8) ∉ a → pieces a = [a]
  | [], _ => rfl
  | c :: a, h => by
    have hc : c ≠ 47 := fun e => h (by simp [e])
    have ih := pieces_none a (fun e => h (by simp [e]))
    simp [pieces, hc, ih]
theorem pieces_found (r : List UInt8) : ∀ a : List UInt8, (47 : UInt8) ∉ a → pieces (a ++ 47 :: r) = a :: pieces r
  | [], _ => by simp [pieces]
  | c :: a, h => by
    have hc : c ≠ 47 := fun e => h (by simp [e])
    have ih := pieces_found r a (fun e => h (by simp [e]))
    simp [pieces, hc, ih]
theorem pieces_join : ∀ l, l = (pieces l).headD [] ++ (pieces l).tail.flatMap (47 :: ·)
  | [] => rfl
  | c :: r => by
    have ih := pieces_join r
    have hne := pieces_ne r
    by_cases hc : c = 47
    · subst hc
      simp only [pieces, if_true, List.headD_cons, List.tail_cons, List.nil_append]
      cases hp : pieces r with
      | nil => exact absurd hp hne
      | cons h t =>
        rw [hp] at ih
        simp only [List.headD_cons, List.tail_cons] at ih
        rw [List.flatMap_cons, List.cons_append, ← ih]
    · simp only [pieces, hc, if_false, List.headD_cons, List.tail_cons, List.cons_append]
      rw [← ih]

/-- As the document's answer takes a path apart. -/
def refOk (l : List (List UInt8)) : Bool := decide (l.length = 5 ∧ l.getD 0 [] = []) && (nameB (l.getD 1 []) && (numB (l.getD 2 []) && (numB (l.getD 3 []) && numB (l.getD 4 []))))
def refL (p : List UInt8) : Option Quad :=
  if p.length < 5 ∨ p.drop (p.length - 5) ≠ dotTile then none else
  let l := pieces (p.take (p.length - 5))
  if refOk l = true then some (l.getD 1 [], l.getD 2 [], l.getD 3 [], l.getD 4 []) else none
theorem refOk_iff (l : List (List UInt8)) : refOk l = true ↔ (l.length = 5 ∧ l.getD 0 [] = []) ∧ nameB (l.getD 1 []) = true ∧ numB (l.getD 2 []) = true ∧ numB (l.getD 3 []) = true ∧ numB (l.getD 4 []) = true := by
  unfold refOk
  simp only [Bool.and_eq_true, decide_eq_true_eq]
theorem refL_iff (p : List UInt8) (q : Quad) : refL p = some q ↔ Form p q := by
  constructor
  · intro h
    unfold refL at h
    by_cases h0 : p.length < 5 ∨ p.drop (p.length - 5) ≠ dotTile
    · rw [if_pos h0] at h; cases h
    · rw [if_neg h0] at h
      have hlen : ¬ p.length < 5 := fun e => h0 (Or.inl e)
      have htl : p.drop (p.length - 5) = dotTile := Classical.not_not.1 (fun e => h0 (Or.inr e))
      simp only at h
      have hj := pieces_join (p.take (p.length - 5))
      generalize hl : pieces (p.take (p.length - 5)) = l at h hj
      by_cases hok : refOk l = true
      · rw [if_pos hok] at h
        obtain ⟨⟨h1, h2⟩, h3, h4, h5, h6⟩ := (refOk_iff _).1 hok
        match l, h1 with
        | [a, n, z, x, y], _ =>
          have h2' : a = [] := h2
          subst h2'
          have hq := Option.some.inj h
          subst hq
          refine ⟨?_, h3, h4, h5, h6⟩
          have := List.take_append_drop (p.length - 5) p
          rw [htl, hj] at this
          rw [← this]
          simp [dotTile, tile]
      · rw [if_neg hok] at h; cases h
  · rintro ⟨hp, h3, h4, h5, h6⟩
    obtain ⟨n, z, x, y⟩ := q
    simp only at hp h3 h4 h5 h6
    have hp' : p = (47 :: (n ++ 47 :: (z ++ 47 :: (x ++ 47 :: y)))) ++ dotTile := by rw [hp]; simp [dotTile, tile]
    have hlen : p.length - 5 = (47 :: (n ++ 47 :: (z ++ 47 :: (x ++ 47 :: y)))).length := by rw [hp', List.length_append]; simp [dotTile]
    have htk : p.take (p.length - 5) = 47 :: (n ++ 47 :: (z ++ 47 :: (x ++ 47 :: y))) := by rw [hlen, hp']; exact List.take_left' rfl
    have hdr : p.drop (p.length - 5) = dotTile := by rw [hlen, hp']; exact List.drop_left' rfl
    have hpc : pieces (47 :: (n ++ 47 :: (z ++ 47 :: (x ++ 47 :: y)))) = [[], n, z, x, y] := by
      have e := pieces_found (n ++ 47 :: (z ++ 47 :: (x ++ 47 :: y))) [] (by simp)
      simp only [List.nil_append] at e
      rw [e, pieces_found _ n (name_47 n h3), pieces_found _ z (num_47 z h4), pieces_found _ x (num_47 x h5), pieces_none y (num_47 y h6)]
    unfold refL
    have hnot : ¬ (p.length < 5 ∨ p.drop (p.length - 5) ≠ dotTile) := by
      intro e
      rcases e with e | e
      · rw [hp'] at e; simp [dotTile] at e; omega
      · exact e hdr
    rw [if_neg hnot]
    simp only [htk, hpc]
    rw [if_pos ((refOk_iff [[], n, z, x, y]).2 ⟨⟨rfl, rfl⟩, h3, h4, h5, h6⟩)]
    rfl
theorem refL_eq (p : List UInt8) : refL p = splitL p := by
  cases h : splitL p with
  | some q => exact (refL_iff p q).2 ((splitL_iff p q).1 h)
  | none =>
    cases h' : refL p with
    | none => rfl
    | some q =>
      have := (splitL_iff p q).2 ((refL_iff p q).1 h')
      rw [h] at this
      cases this

/-- The value of digits. -/
def valL (l : List UInt8) : Nat := l.foldl (fun n c => 10 * n + (c.toNat - 48)) 0
theorem valL_snoc (l : List UInt8) (c : UInt8) : valL (l ++ [c]) = 10 * valL l + (c.toNat - 48) := by simp [valL]
theorem valL_lt (l : List UInt8) (h : within 48 57 l = true) : valL l < 10 ^ l.length := by
  have key : ∀ (l : List UInt8) (n k : Nat), within 48 57 l = true → n < 10 ^ k → l.foldl (fun n c => 10 * n + (c.toNat - 48)) n < 10 ^ (k + l.length) := by
    intro l
    induction l with
    | nil => intro n k _ hn; simpa using hn
    | cons c r ih =>
      intro n k hw hn
      simp only [within, List.all_cons, Bool.and_eq_true, decide_eq_true_eq] at hw
      have := ih (10 * n + (c.toNat - 48)) (k + 1) hw.2 (by rw [Nat.pow_succ]; omega)
      rw [List.foldl_cons, List.length_cons, show k + (r.length + 1) = k + 1 + r.length from by omega]
      exact this
  have := key l 0 0 h (by decide)
  simpa [valL] using this

def land : List UInt8 := [108, 97, 110, 100]
def water : List UInt8 := [119, 97, 116, 101, 114]
def road : List UInt8 := [114, 111, 97, 100]
def mark : List UInt8 := [109, 97, 114, 107]
def names (i : Nat) : List UInt8 := [land, water, road, mark].getD i []
def layerL (l : List UInt8) : Int := if l = land then 0 else if l = water then 1 else if l = road then 2 else if l = mark then 3 else -1

/-- The error of a key. -/
def keyErr (l z x y : Int) : Int :=
  if l < 0 ∨ 3 < l then 2 else if z < 0 ∨ 22 < z then 3 else if x < 0 ∨ (2 : Int) ^ z.toNat ≤ x ∨ y < 0 ∨ (2 : Int) ^ z.toNat ≤ y then 4 else 0
end Pp
end Go.Proofs.YtacjjjjbfjkohaaDoor
