/-
  Contracts of the document's own answer for layer 4: Put, Used.
  Condition: fewer than 1000 samples.
-/
import Derived.Test.YtjhnajenkoepdaaCRef
namespace Go.Proofs.Ytjhnajenkoepdaa
open Go.RowKit
set_option linter.unusedVariables false
set_option linter.unusedSimpArgs false

theorem insert_er (a : Option Addr) (len cap : Nat) (z : List (Int × Int)) (T V p er : Int) (w : World) (hz : Lst w a len cap z) (hr : Rising z) (hl : len ≤ 999) (hT : in64 T) (hV : in64 V)
    (h : ((T < 0 ∨ 1099511627776 ≤ T) ∧ er = 1) ∨ (¬ (T < 0 ∨ 1099511627776 ≤ T) ∧ (newV z T V p).2 = er ∧ er ≠ 0)) :
    Calls Try.prog 47 #[.slice a len cap, .agg #[.int .i64 T, .int .i64 V], .int .i64 p] w (InsErrP er w) := by
  refine (insert_any a len cap z T V p w hz hr hl hT hV).mono fun e w' hi => ?_
  rcases h with ⟨h1, rfl⟩ | ⟨h1, rfl, h2⟩
  · rcases hi with ⟨_, hi⟩ | ⟨h, _⟩ | ⟨h, _⟩
    · exact hi
    · exact absurd h1 h
    · exact absurd h1 h
  · rcases hi with ⟨h, _⟩ | ⟨_, _, hi⟩ | ⟨_, h, _⟩
    · exact absurd h h1
    · exact hi
    · exact absurd h h2
theorem insert_ok (a : Option Addr) (len cap : Nat) (z : List (Int × Int)) (T V p x : Int) (N : Nat) (w : World) (hz : Lst w a len cap z) (hr : Rising z) (hl : len ≤ 999) (hT : in64 T) (hV : in64 V)
    (h1 : ¬ (T < 0 ∨ 1099511627776 ≤ T)) (h2 : newV z T V p = (x, 0)) (hN : (insL z T x).length = N) :
    Calls Try.prog 47 #[.slice a len cap, .agg #[.int .i64 T, .int .i64 V], .int .i64 p] w (InsOkP (insL z T x) N w) := by
  refine (insert_any a len cap z T V p w hz hr hl hT hV).mono fun e w' hi => ?_
  rcases hi with ⟨h, _⟩ | ⟨_, h, _⟩ | ⟨_, _, hi⟩
  · exact absurd h h1
  · rw [h2] at h; exact absurd rfl h
  · rw [h2] at hi; subst hN; exact hi

set_option maxRecDepth 100000 in
set_option maxHeartbeats 4000000 in
theorem rput_ok (b : Nat) (sz : Int) (z : List (Int × Int)) (T V p : Int) (w : World) (h : RCk w b sz z) (hs : 1 ≤ sz) (hs2 : sz ≤ 4096) (hr : Rising z) (hn : z.length ≤ 900) (hT : in64 T) (hV : in64 V) :
    Calls Try.prog 32 #[.pointer (some ⟨b, 0, none⟩), .agg #[.int .i64 T, .int .i64 V], .int .i64 p] w (ErrP 61 b sz (putL sz z T V p).1 (putL sz z T V p).2 w) := by
  have hb := h.lt
  have HW0 := Lib.hid h
  have B1 := (Below.refl w.heap.size w).alloc (Nat.le_refl _) (.cells #[.int .i64 T, .int .i64 V] 31)
  have hnew := Lib.hid (heap_new w (.cells #[.int .i64 T, .int .i64 V] 31))
  have s1 : w.heap.size < (w.alloc (.cells #[.int .i64 T, .int .i64 V] 31)).heap.size := by simp
  have h64 := Lib.hid h.all64
  obtain ⟨a, cap, hc0, hl0⟩ := h
  have HC : Hid ((w.alloc (.cells #[.int .i64 T, .int .i64 V] 31)).heap[b]? = _) := Lib.hid (heap_old hc0)
  have HLD0 := Lib.hid (hl0.keepN (World.grownBy_alloc w (.cells #[.int .i64 T, .int .i64 V] 31) none))
  have HLD : Hid (Lst (w.alloc (.cells #[.int .i64 T, .int .i64 V] 31)).drew a z.length cap z) := HLD0
  have HR := Lib.hid hr
  have hnl0 : ∀ v, (insL z T v).length ≤ 1000 := fun v => by rw [insL_length z T v hr]; omega
  have HNL := Lib.hid hnl0
  clear hc0 hl0 hr hnl0 HLD0
  by_cases herr : ∃ er, ((T < 0 ∨ 1099511627776 ≤ T) ∧ er = 1) ∨ (¬ (T < 0 ∨ 1099511627776 ≤ T) ∧ (newV z T V p).2 = er ∧ er ≠ 0)
  · obtain ⟨er, her⟩ := herr
    have HER := Lib.hid her
    have hne : (er != 0) = true := by rw [bne_iff_ne]; rcases her with ⟨_, rfl⟩ | ⟨_, _, h⟩ <;> first | decide | exact h
    have HRES := Lib.hid (show putL sz z T V p = (er, z) from by
      unfold putL
      rcases her with ⟨h1, rfl⟩ | ⟨h1, h2, h3⟩
      · rw [if_pos h1]
      · rw [if_neg h1, if_pos (by rw [h2]; exact h3), h2])
    clear her
    go_enter Try.func32, Try.ntmps32
    go_wp2_with fail
    generalize w.alloc (.cells #[.int .i64 T, .int .i64 V] 31) = W1 at *
    have t0 : W1.cell? ⟨w.heap.size, 0, none⟩ = some (.int .i64 T) := by rw [cell_of hnew.out]; rfl
    have t1 : W1.cell? ⟨w.heap.size, 1, none⟩ = some (.int .i64 V) := by rw [cell_of hnew.out]; rfl
    have c1 : W1.cell? ⟨b, 1, none⟩ = some (.slice a z.length cap) := by rw [cell_of HC.out]; rfl
    have hb1 : b < W1.heap.size := by omega
    go_wp2_with fail
    go_region_held3 (fun w' => w'.cell? ⟨b, 1, none⟩ = some (.slice a z.length cap) ∧ w'.cell? ⟨w.heap.size, 0, none⟩ = some (.int .i64 T) ∧ w'.cell? ⟨w.heap.size, 1, none⟩ = some (.int .i64 V))
      (first
        | go_keep
        | (go_split_ands
           refine ⟨?_, ?_, ?_⟩
           · (rw [b6.cell (by simpa using hb1)]; assumption)
           · (rw [b6.cell (by simpa using s1)]; assumption)
           · (rw [b6.cell (by simpa using s1)]; assumption)))
      (first
        | (go_at_call 47
           (with_reducible refine (insert_er a z.length cap z T V p er _ HLD.out HR.out (by omega) hT hV HER.out).mono ?_)
           rintro e W6 ⟨rfl, b6⟩))
    have B7 := bel_gbn B1 (Nat.le_of_lt s1) (gb_trans (Drew.gb (w := W1) (w' := W1.drew) ⟨1, rfl⟩ none) (gb_below b6))
    clear b6 t0 t1 c1
    go_wp2
    go_ret
    exact ⟨by rw [HRES.out]; rfl, by rw [HRES.out]; exact CAt.keepB HW0.out B7, gb_below B7⟩
  · have h1 : ¬ (T < 0 ∨ 1099511627776 ≤ T) := fun e => herr ⟨1, .inl ⟨e, rfl⟩⟩
    have h2 : (newV z T V p).2 = 0 := Classical.byContradiction fun e => herr ⟨_, .inr ⟨h1, rfl, e⟩⟩
    obtain ⟨x, hx⟩ : ∃ x, newV z T V p = (x, 0) := ⟨(newV z T V p).1, by rw [← h2]⟩
    have HX := Lib.hid hx
    have H1 := Lib.hid h1
    have HRES := Lib.hid (show putL sz z T V p = (tookE sz (insL z T x), tookL sz z (insL z T x)) from by
      unfold putL tookE tookL
      rw [if_neg h1, hx, if_neg (by simp)]
      split <;> rfl)
    obtain ⟨N, hN⟩ : ∃ N, (insL z T x).length = N := ⟨_, rfl⟩
    have HN := Lib.hid hN
    have hN2 : N ≤ 1000 := by rw [← hN]; exact HNL.out x
    have hle := bitsZ_le (insL z T x)
    rw [hN] at hle
    have h8 : IntKind.i64.wrap (8 * sz) = 8 * sz := IntWalk.i64_in _ ⟨by omega, by omega⟩
    clear h1 h2 hx herr hN
    by_cases hf : 8 * sz < (bitsZ (insL z T x) : Int)
    all_goals
      have HF := Lib.hid hf
      first | have hd := decide_eq_true hf | have hd := decide_eq_false hf
      go_enter Try.func32, Try.ntmps32
      go_wp2_with fail
      generalize w.alloc (.cells #[.int .i64 T, .int .i64 V] 31) = W1 at *
      have t0 : W1.cell? ⟨w.heap.size, 0, none⟩ = some (.int .i64 T) := by rw [cell_of hnew.out]; rfl
      have t1 : W1.cell? ⟨w.heap.size, 1, none⟩ = some (.int .i64 V) := by rw [cell_of hnew.out]; rfl
      have c1 : W1.cell? ⟨b, 1, none⟩ = some (.slice a z.length cap) := by rw [cell_of HC.out]; rfl
      have hb1 : b < W1.heap.size := by omega
      go_wp2_with fail
      go_region_held3 (fun w' => w'.cell? ⟨b, 1, none⟩ = some (.slice a z.length cap) ∧ w'.cell? ⟨w.heap.size, 0, none⟩ = some (.int .i64 T) ∧ w'.cell? ⟨w.heap.size, 1, none⟩ = some (.int .i64 V))
        (first
          | go_keep
          | (go_split_ands
             refine ⟨?_, ?_, ?_⟩
             · (rw [b6.cell (by simpa using hb1)]; assumption)
             · (rw [b6.cell (by simpa using s1)]; assumption)
             · (rw [b6.cell (by simpa using s1)]; assumption)))
        (first
          | (go_at_call 47
             (with_reducible refine (insert_ok a z.length cap z T V p x N _ HLD.out HR.out (by omega) hT hV H1.out HX.out HN.out).mono ?_)
             rintro e W6 ⟨a6, cap6, rfl, hl6, b6⟩))
      have B7 := bel_gbn B1 (Nat.le_of_lt s1) (gb_trans (Drew.gb (w := W1) (w' := W1.drew) ⟨1, rfl⟩ none) (gb_below b6))
      have HW7 := Lib.hid (CAt.keepB HW0.out B7)
      have HL7 : Hid (Lst W6.drew a6 N cap6 (insL z T x)) := Lib.hid hl6
      have hb7 : b < W6.heap.size := by have := b6.size; simp at this; omega
      obtain ⟨a7, cap7, hc7, hl7⟩ := HW7.out
      have c0 : W6.cell? ⟨b, 0, none⟩ = some (.int .i64 sz) := by rw [cell_of hc7]; rfl
      have HC7 := Lib.hid hc7
      have HL6 := Lib.hid hl6
      clear b6 t0 t1 c1 hc7 hl7 hl6
      go_wp2_with fail
      go_region_held3 (fun w' => w'.cell? ⟨b, 0, none⟩ = some (.int .i64 sz))
        (first
          | go_keep
          | ((rw [b8.cell (by simpa using hb7)]; assumption)))
        (first
          | (go_at_call 31
             (with_reducible refine (rbits_lst a6 N cap6 (insL z T x) _ HL7.out hN2).mono ?_)
             rintro e W8 ⟨rfl, b8⟩))
      have g8 : W6.grownBy W8 none := gb_trans (Drew.gb (w := W6) (w' := W6.drew) ⟨1, rfl⟩ none) (gb_below b8)
      have hc8 := (g8.block b hb7 (by simp)).trans HC7.out
      have d1 : W8.cell? ⟨b, 1, none⟩ = some (.slice a7 z.length cap7) := by rw [cell_of hc8]; rfl
      have f1 := frozen_of (o := 1) hc8
      have HC8 := Lib.hid hc8
      have B8 := bel_gbn B7 (by have := B7.size; omega) g8
      clear b8 hc8 c0 h8
      go_wp2
      go_ret
      rw [HRES.out]
      unfold tookE tookL
      first
        | (rw [if_pos HF.out, if_pos HF.out]; exact ⟨rfl, CAt.keepN HW7.out g8, gb_below B8⟩)
        | (rw [if_neg (Int.not_lt.2 HF.out), if_neg (Int.not_lt.2 HF.out)]
           refine ⟨rfl, ?_, gb_set (gb_below B8) _ _⟩
           have hlst := HL6.out.keepN g8
           rw [← HN.out] at hlst ⊢
           exact CAt.set HC8.out hlst (by decide))

set_option maxHeartbeats 400000 in
theorem rused_ok (b : Nat) (sz : Int) (z : List (Int × Int)) (w : World) (h : RCk w b sz z) (hz : z.length ≤ 1000) :
    Calls Try.prog 39 #[.pointer (some ⟨b, 0, none⟩)] w (NumP (usedL z) w) := by
  obtain ⟨a, cap, hc, hl⟩ := h
  have c1 : w.cell? ⟨b, 1, none⟩ = some (.slice a z.length cap) := by rw [cell_of hc]; rfl
  have HL := Lib.hid hl
  have HU := Lib.hid (show usedL z = (bitsZ z + 7) / 8 from rfl)
  have hle := bitsZ_le z
  clear hc hl
  go_enter Try.func39, Try.ntmps39
  go_wp2_with fail
  refine (rbits_lst a _ cap z _ HL.out hz).mono ?_
  rintro e w' ⟨rfl, b1⟩
  generalize bitsZ z = n at *
  go_wp2
  go_ret
  exact ⟨ret_int (by rw [HU.out]; omega), b1⟩

end Go.Proofs.Ytjhnajenkoepdaa
