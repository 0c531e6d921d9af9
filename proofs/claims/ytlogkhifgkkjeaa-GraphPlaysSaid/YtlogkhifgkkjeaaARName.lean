/-
  The kinds' names; the contract of the document's Name.
-/
import Derived.Test.YtlogkhifgkkjeaaARt
import Derived.Test.YtlogkhifgkkjeaaRowB
namespace Go.Proofs.Ytlogkhifgkkjeaa
open Go.RowKit
set_option linter.unusedVariables false
set_option linter.unusedSimpArgs false

/-- A kind's name. -/
def nmA (k : Int) : ByteArray :=
  if k = 1 then ⟨#[115, 117, 109]⟩
  else if k = 2 then ⟨#[109, 105, 110]⟩
  else if k = 3 then ⟨#[109, 97, 120]⟩
  else if k = 4 then ⟨#[99, 111, 117, 110, 116]⟩
  else if k = 5 then ⟨#[102, 105, 114, 115, 116]⟩
  else if k = 6 then ⟨#[108, 97, 115, 116]⟩
  else if k = 7 then ⟨#[114, 97, 110, 103, 101]⟩ else ⟨#[]⟩
theorem nmA_no {k : Int} (h : ¬ kok k) : nmA k = ⟨#[]⟩ := by
  unfold kok at h
  unfold nmA
  rw [if_neg (by omega), if_neg (by omega), if_neg (by omega), if_neg (by omega), if_neg (by omega), if_neg (by omega), if_neg (by omega)]
theorem nmA_list (k : Nat) (h1 : 1 ≤ k) (h2 : k ≤ 7) (w : World) :
    (w.alloc (.cells #[.string ⟨#[115, 117, 109]⟩, .string ⟨#[109, 105, 110]⟩, .string ⟨#[109, 97, 120]⟩, .string ⟨#[99, 111, 117, 110, 116]⟩, .string ⟨#[102, 105, 114, 115, 116]⟩, .string ⟨#[108, 97, 115, 116]⟩, .string ⟨#[114, 97, 110, 103, 101]⟩] 9)).cell? ⟨w.heap.size, k - 1, none⟩ = some (.string (nmA (k : Int))) := by
  rw [cell_of (heap_new w _)]
  have q : k = 1 ∨ k = 2 ∨ k = 3 ∨ k = 4 ∨ k = 5 ∨ k = 6 ∨ k = 7 := by omega
  rcases q with rfl | rfl | rfl | rfl | rfl | rfl | rfl <;> rfl
theorem nmA_empty (k : Int) : (nmA k).toList = [] ↔ ¬ kok k := by
  rw [Lib.toList_data]
  constructor
  · intro h hk
    rcases kinds hk with rfl | rfl | rfl | rfl | rfl | rfl | rfl <;> exact absurd h (by decide)
  · intro h
    rw [nmA_no h]

set_option maxHeartbeats 400000 in
theorem arname_any (k : Int) (w : World) :
    Calls Try.prog 45 #[.int .i64 k] w fun e w' => e = .returned (.string (nmA k)) ∧ Below w.heap.size w w' := by
  by_cases hp : kok k
  · obtain ⟨hp1, hp2⟩ := hp
    obtain ⟨k, rfl⟩ := Int.eq_ofNat_of_zero_le (show 0 ≤ k by omega)
    have hk1 : 1 ≤ k := by omega
    have hk2 : k ≤ 7 := by omega
    have c := nmA_list k hk1 hk2 w
    have t1 : ((k : Int) - 1).toNat = k - 1 := by omega
    go_enter Try.func45, Try.ntmps45
    go_wp2
    go_ret
    exact ⟨rfl, (Below.refl _ _).alloc (Nat.le_refl _) _⟩
  · have E := Lib.hid (nmA_no hp)
    have hp' : ¬ (1 ≤ k ∧ k ≤ 7) := hp
    by_cases h1 : k < 1
    · clear hp hp'
      go_enter Try.func45, Try.ntmps45
      go_wp2
      go_ret
      exact ⟨by rw [E.out]; rfl, Below.refl _ _⟩
    · have h2 : 7 < k := by omega
      clear hp hp'
      go_enter Try.func45, Try.ntmps45
      go_wp2
      go_ret
      exact ⟨by rw [E.out]; rfl, Below.refl _ _⟩

end Go.Proofs.Ytlogkhifgkkjeaa
