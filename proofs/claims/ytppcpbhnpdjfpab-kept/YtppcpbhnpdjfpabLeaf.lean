/-
  THE LEAVES: what the small functions on features answer.
-/
import Derived.Test.YtppcpbhnpdjfpabRows
import Derived.WalkKit
import Derived.WalkSpells
import Derived.WalkLawsBesides
import Derived.Deep.QuietTactic
import Derived.BigQuiet
import Derived.Deep.MidRow
import Derived.Deep.DeepCutAuto
namespace Go.Proofs.Ytppcpbhnpdjfpab
open Go.RowKit

theorem hide {p : Prop} (h : p) : Hid p := h
theorem unhide {p : Prop} (h : Hid p) : p := h
theorem ret_bool {a b : Bool} (h : a = b) : Ending.returned (.bool a) = .returned (.bool b) := by rw [h]
theorem ret_int {k : IntKind} {a b : Int} (h : a = b) : Ending.returned (.int k a) = .returned (.int k b) := by rw [h]

/-- The cells of a feature whose fields, in order, are f 0 .. f 23. -/
def fc (f : Nat → Int) : Array Value := (Array.range 24).map fun i => .int .i64 (f i)
theorem fc_size (f : Nat → Int) : (fc f).size = 24 := by simp [fc]
theorem fc_at (f : Nat → Int) (i : Nat) (h : i < 24) : (fc f)[i]? = some (.int .i64 (f i)) := by simp [fc, h]

def inR (n lo hi : Int) : Bool := decide (lo ≤ n ∧ n ≤ hi)
theorem inR_t {n lo hi : Int} (h : lo ≤ n) (h' : n ≤ hi) : inR n lo hi = true := by simp [inR, h, h']
theorem inR_f1 {n lo hi : Int} (h : n < lo) : inR n lo hi = false := by simp [inR]; omega
theorem inR_f2 {n lo hi : Int} (h : hi < n) : inR n lo hi = false := by simp [inR]; omega

theorem within_any (n lo hi : Int) (w : World) :
    Calls Try.prog 54 #[.int .i64 n, .int .i64 lo, .int .i64 hi] w fun e w' => e = .returned (.bool (inR n lo hi)) ∧ w = w' := by
  by_cases h1 : lo ≤ n
  · by_cases h2 : n ≤ hi
    · have H := hide (inR_t h1 h2)
      go_enter Try.func54, Try.ntmps54
      go_wp2
      go_ret
      exact ⟨ret_bool (unhide H).symm, rfl⟩
    · have H := hide (inR_f2 (n := n) (lo := lo) (hi := hi) (by omega))
      go_enter Try.func54, Try.ntmps54
      go_wp2
      go_ret
      exact ⟨ret_bool (unhide H).symm, rfl⟩
  · have H := hide (inR_f1 (n := n) (lo := lo) (hi := hi) (by omega))
    go_enter Try.func54, Try.ntmps54
    go_wp2
    go_ret
    exact ⟨ret_bool (unhide H).symm, rfl⟩

theorem isPlace_any (n : Int) (w : World) :
    Calls Try.prog 55 #[.int .i64 n] w fun e w' => e = .returned (.bool (inR n 0 1073741824)) ∧ w = w' := by
  go_enter Try.func55, Try.ntmps55
  go_wp2_with fail
  refine (within_any n _ _ _).mono ?_
  rintro e w1 ⟨rfl, rfl⟩
  go_wp2_with fail
  go_ret
  exact ⟨rfl, rfl⟩

def traits (f : Nat → Int) : Bool := inR (f 0) 1 1000 && inR (f 1) 0 3 && inR (f 3) 1 15 && inR (f 4) 0 9 && inR (f 5) 0 22
theorem below_one (w : World) (o : Obj) : Below w.heap.size w (w.alloc o) := (Below.refl _ _).alloc (Nat.le_refl _) _

set_option maxHeartbeats 800000 in
theorem hasTraits_any (f : Nat → Int) (w : World) :
    Calls Try.prog 39 #[.agg (fc f)] w fun e w' => e = .returned (.bool (traits f)) ∧ Below w.heap.size w w' := by
  have c0 := fc_at f 0 (by decide)
  have c1 := fc_at f 1 (by decide)
  have c3 := fc_at f 3 (by decide)
  have c4 := fc_at f 4 (by decide)
  have c5 := fc_at f 5 (by decide)
  cases h0 : inR (f 0) 1 1000 with
  | false =>
    have H : Hid (traits f = false) := by show traits f = false; simp [traits, h0]
    go_enter Try.func39, Try.ntmps39
    go_wp2_with (go_at_call 54; refine (within_any _ _ _ _).mono ?_; rintro e w1 ⟨rfl, rfl⟩)
    go_ret
    exact ⟨ret_bool (unhide H).symm, below_one _ _⟩
  | true =>
  cases h1 : inR (f 1) 0 3 with
  | false =>
    have H : Hid (traits f = false) := by show traits f = false; simp [traits, h1]
    go_enter Try.func39, Try.ntmps39
    go_wp2_with (go_at_call 54; refine (within_any _ _ _ _).mono ?_; rintro e w1 ⟨rfl, rfl⟩)
    go_ret
    exact ⟨ret_bool (unhide H).symm, below_one _ _⟩
  | true =>
  cases h3 : inR (f 3) 1 15 with
  | false =>
    have H : Hid (traits f = false) := by show traits f = false; simp [traits, h3]
    go_enter Try.func39, Try.ntmps39
    go_wp2_with (go_at_call 54; refine (within_any _ _ _ _).mono ?_; rintro e w1 ⟨rfl, rfl⟩)
    go_ret
    exact ⟨ret_bool (unhide H).symm, below_one _ _⟩
  | true =>
  cases h4 : inR (f 4) 0 9 with
  | false =>
    have H : Hid (traits f = false) := by show traits f = false; simp [traits, h4]
    go_enter Try.func39, Try.ntmps39
    go_wp2_with (go_at_call 54; refine (within_any _ _ _ _).mono ?_; rintro e w1 ⟨rfl, rfl⟩)
    go_ret
    exact ⟨ret_bool (unhide H).symm, below_one _ _⟩
  | true =>
    have H : Hid (traits f = inR (f 5) 0 22) := by show traits f = _; simp [traits, h0, h1, h3, h4]
    go_enter Try.func39, Try.ntmps39
    go_wp2_with (go_at_call 54; refine (within_any _ _ _ _).mono ?_; rintro e w1 ⟨rfl, rfl⟩)
    go_ret
    exact ⟨ret_bool (unhide H).symm, below_one _ _⟩
end Go.Proofs.Ytppcpbhnpdjfpab
