/-
  Contracts of package chunk over values that are known; what two turned blocks leave.
-/
import Derived.Test.YtpbhdlhbcfkhfaaGreatCSplit
import Derived.Test.YtpbhdlhbcfkhfaaGreatCPut
namespace Go.Proofs.YtpbhdlhbcfkhfaaGreat
open Go.RowKit
set_option linter.unusedVariables false
set_option linter.unusedSimpArgs false

/-! The contracts over values that are known. -/
theorem put_at (b : Nat) (sz : Int) (z : List (Int × Int)) (T V p : Int) (err : Int) (l : List (Int × Int)) (w : World) (hP : putL sz z T V p = (err, l)) (h : PCk w b sz z) (hs : 1 ≤ sz) (hs2 : sz ≤ 4096) (hr : Rising z) (hn : z.length < 1048576) (hT : in64 T) (hV : in64 V) :
    Calls Tryz.prog 68 #[.pointer (some ⟨b, 0, none⟩), .agg #[.int .i64 T, .int .i64 V], .int .i64 p] w (ErrP 76 b sz err l w) := by
  have := put_ok4 b sz z T V p w h hs hs2 hr hn hT hV
  rw [hP] at this
  exact this
theorem get_at (b : Nat) (sz : Int) (z : List (Int × Int)) (t x er : Int) (w : World) (hG : getL z t = (x, er)) (h : PCk w b sz z) (hs : 1 ≤ sz) (hr : Rising z) (hn : z.length ≤ 1048576) :
    Calls Tryz.prog 36 #[.pointer (some ⟨b, 0, none⟩), .int .i64 t] w fun e w' => e = .returned (.tuple #[.int .i64 x, .int .i64 er]) ∧ Below w.heap.size w w' := by
  have := get_ok4 b sz z t w h hs hr hn
  rw [hG] at this
  exact this
theorem drop_at (b : Nat) (sz : Int) (z : List (Int × Int)) (x y : Int) (n : Int) (l : List (Int × Int)) (w : World) (hN : (dropN z x y : Int) = n) (hL : dropL z x y = l) (h : PCk w b sz z) (hs : 1 ≤ sz) (hr : Rising z) (hn : z.length ≤ 1048576) :
    Calls Tryz.prog 32 #[.pointer (some ⟨b, 0, none⟩), .int .i64 x, .int .i64 y] w (ErrP 76 b sz n l w) := by
  have := drop_ok b sz z x y w h hs hr hn
  rw [hN, hL] at this
  exact this
theorem end_at {z : List (Int × Int)} {i : Nat} {T V : Int} {r : Bool} {f : FuncId} {args : Array Value} {w : World} (hT : tOf z i = T) (hV : vOf z i = V) (hr : decide (0 < z.length) = r) (h : Calls Tryz.prog f args w (EndP z i w)) :
    Calls Tryz.prog f args w fun e w' => e = .returned (.tuple #[.agg #[.int .i64 T, .int .i64 V], .bool r]) ∧ Below w.heap.size w w' := by
  subst hT hV hr; exact h
theorem cnew_at (size : Int) (w : World) (h1 : 128 ≤ size) (h2 : size ≤ 4096) : Calls Tryz.prog 18 #[.int .i64 size] w fun e w' =>
    e = .returned (.tuple #[.pointer (some ⟨w.heap.size, 0, none⟩), .int .i64 0]) ∧ PCk w' w.heap.size size [] ∧ Below w.heap.size w w' ∧ w'.heap.size = w.heap.size + 1 := by
  refine (cnew_any size w).mono ?_
  rintro e w' (⟨h, _⟩ | ⟨_, _, h⟩)
  · exact absurd ⟨h1, h2⟩ h
  · exact h
theorem cnew_bad (size : Int) (w : World) (h : ¬ (128 ≤ size ∧ size ≤ 4096)) : Calls Tryz.prog 18 #[.int .i64 size] w fun e w' => e = .returned (.tuple #[.pointer none, .int .i64 1]) ∧ w = w' := by
  refine (cnew_any size w).mono ?_
  rintro e w' (⟨_, h'⟩ | ⟨a, b, _⟩)
  · exact h'
  · exact absurd ⟨a, b⟩ h

theorem took_ok (sz : Int) (z l : List (Int × Int)) (h : 136 * (l.length : Int) ≤ 8 * sz) : tookE sz l = 0 ∧ tookL sz z l = l := by
  have := bitsZ_le l
  unfold tookE tookL
  rw [if_neg (by omega), if_neg (by omega)]
  exact ⟨rfl, rfl⟩
theorem putL_took (sz : Int) (z : List (Int × Int)) (t v p x : Int) (l : List (Int × Int)) (h0 : ¬ (t < 0 ∨ 1099511627776 ≤ t)) (hv : newV z t v p = (x, 0)) (hi : insL z t x = l) (h : 136 * (l.length : Int) ≤ 8 * sz) : putL sz z t v p = (0, l) := by
  have := bitsZ_le l
  unfold putL
  rw [if_neg h0, hv, if_neg (by simp), hi, if_neg (by omega)]
theorem putL_err (sz : Int) (z : List (Int × Int)) (t v p x er : Int) (h0 : ¬ (t < 0 ∨ 1099511627776 ≤ t)) (hv : newV z t v p = (x, er)) (he : er ≠ 0) : putL sz z t v p = (er, z) := by
  unfold putL
  rw [if_neg h0, hv, if_pos he]

theorem rising_of {z : List (Int × Int)} (h : ∀ i, i < z.length → ∀ j, j < z.length → i < j → tOf z i < tOf z j) : Rising z := fun i j hij hj => h i (by omega) j hj hij
theorem bel_two {B b o : Nat} {w w1 w2 : World} (h : Below B w w1) (hB : B ≤ w1.heap.size) (hb : B ≤ b) (ho : B ≤ o) (g : TwoOnly b o w1 w2) : Below B w w2 :=
  ⟨g.1.trans h.os, g.2.1.trans h.tape, g.2.2.1.trans h.output, Nat.le_trans h.size g.2.2.2.1, fun i hi => (g.2.2.2.2 i (Nat.lt_of_lt_of_le hi hB) (by omega) (by omega)).trans (h.block i hi)⟩
theorem Lst.keep2 {w w' : World} {a : Option Addr} {len cap : Nat} {z : List (Int × Int)} {b o : Nat} (h : Lst w a len cap z) (g : TwoOnly b o w w') (hb : NoSamp w b) (ho : NoSamp w o) : Lst w' a len cap z := by
  obtain ⟨⟨a1, a2, a3, a4, a5⟩, h2⟩ := h
  rcases h2 with h0 | ⟨x, cs, f, rfl, hx⟩
  · exact ⟨⟨a1, a2, a3, a4, .inl h0⟩, .inl h0⟩
  · have e : w'.heap[x.block]? = w.heap[x.block]? := g.2.2.2.2 _ (heap_lt hx) (fun e => hb cs f (e ▸ hx)) (fun e => ho cs f (e ▸ hx))
    refine ⟨⟨a1, a2, a3, a4, ?_⟩, .inr ⟨x, cs, f, rfl, by rw [e]; exact hx⟩⟩
    rcases a5 with h0 | ⟨b', off, hxe, hlt, hc⟩
    · exact .inl h0
    · right
      refine ⟨b', off, hxe, Nat.lt_of_lt_of_le hlt g.2.2.2.1, fun i hi => ?_⟩
      cases hxe
      have hcell : ∀ k, w'.cell? ⟨b', k, none⟩ = w.cell? ⟨b', k, none⟩ := by intro k; simp [World.cell?, e]
      rw [hcell, hcell]; exact hc i hi

end Go.Proofs.YtpbhdlhbcfkhfaaGreat
