/-
  Contract of the statements' own 'play' of layer 4: a call of the program's chunk and of the document's tell the same, and leave the same.
  Condition: at most 400 samples in each.
-/
import Derived.Test.YtjhnajenkoepdaaCRPut
import Derived.Test.YtjhnajenkoepdaaCRDrop
import Derived.Test.YtjhnajenkoepdaaCRJoin
import Derived.Test.YtjhnajenkoepdaaCPut
namespace Go.Proofs.Ytjhnajenkoepdaa
open Go.RowKit
set_option linter.unusedVariables false
set_option linter.unusedSimpArgs false

/-- Four blocks alone turn, and new ones. -/
def FourOnly (b d q s : Nat) (w w' : World) : Prop := w'.os = w.os ∧ w'.tape = w.tape ∧ w'.output = w.output ∧ w.heap.size ≤ w'.heap.size ∧ ∀ k, k < w.heap.size → k ≠ b → k ≠ d → k ≠ q → k ≠ s → w'.heap[k]? = w.heap[k]?
theorem FourOnly.of {b d q s : Nat} {w w1 : World} {r : Option Nat} (h : w.grownBy w1 r) (hr : ∀ k, r = some k → k = b ∨ k = d ∨ k = q ∨ k = s) : FourOnly b d q s w w1 :=
  ⟨h.os, h.tape, h.output, h.size, fun k hk h1 h2 h3 h4 => h.block k hk (fun e => by rcases hr k e.symm with h | h | h | h <;> contradiction)⟩
theorem FourOnly.two {b d q s x y : Nat} {w w1 : World} (h : TwoOnly x y w w1) (hx : x = b ∨ x = d ∨ x = q ∨ x = s) (hy : y = b ∨ y = d ∨ y = q ∨ y = s) : FourOnly b d q s w w1 :=
  ⟨h.1, h.2.1, h.2.2.1, h.2.2.2.1, fun k hk h1 h2 h3 h4 => h.2.2.2.2 k hk (fun e => by subst e; rcases hx with h | h | h | h <;> contradiction) (fun e => by subst e; rcases hy with h | h | h | h <;> contradiction)⟩
theorem FourOnly.trans {b d q s : Nat} {w w1 w2 : World} (h : FourOnly b d q s w w1) (k : FourOnly b d q s w1 w2) : FourOnly b d q s w w2 :=
  ⟨k.1.trans h.1, k.2.1.trans h.2.1, k.2.2.1.trans h.2.2.1, Nat.le_trans h.2.2.2.1 k.2.2.2.1, fun i hi h1 h2 h3 h4 => (k.2.2.2.2 i (Nat.lt_of_lt_of_le hi h.2.2.2.1) h1 h2 h3 h4).trans (h.2.2.2.2 i hi h1 h2 h3 h4)⟩
theorem bel_four {B b d q s : Nat} {w w1 w2 : World} (h : Below B w w1) (hB : B ≤ w1.heap.size) (hb : B ≤ b) (hd : B ≤ d) (hq : B ≤ q) (hs : B ≤ s) (g : FourOnly b d q s w1 w2) : Below B w w2 :=
  ⟨g.1.trans h.os, g.2.1.trans h.tape, g.2.2.1.trans h.output, Nat.le_trans h.size g.2.2.2.1, fun i hi => (g.2.2.2.2 i (Nat.lt_of_lt_of_le hi hB) (by omega) (by omega) (by omega) (by omega)).trans (h.block i hi)⟩
/-- A chunk that two other blocks' change leaves. -/
theorem CAt.keep2 {ty : TypeId} {w w' : World} {b x y : Nat} {sz : Int} {z : List (Int × Int)} (h : CAt ty w b sz z) (g : TwoOnly x y w w') (hx : b ≠ x) (hy : b ≠ y) (nx : NoSamp w x) (ny : NoSamp w y) : CAt ty w' b sz z := by
  obtain ⟨a, cap, hc, hl⟩ := h
  refine ⟨a, cap, by rw [g.2.2.2.2 b (heap_lt hc) hx hy]; exact hc, ?_⟩
  obtain ⟨⟨a1, a2, a3, a4, a5⟩, h2⟩ := hl
  rcases h2 with h0 | ⟨u, cs, f, rfl, hu⟩
  · exact ⟨⟨a1, a2, a3, a4, .inl h0⟩, .inl h0⟩
  · have e : w'.heap[u.block]? = w.heap[u.block]? := g.2.2.2.2 _ (heap_lt hu) (fun e => nx cs f (e ▸ hu)) (fun e => ny cs f (e ▸ hu))
    refine ⟨⟨a1, a2, a3, a4, ?_⟩, .inr ⟨u, cs, f, rfl, by rw [e]; exact hu⟩⟩
    rcases a5 with h0 | ⟨b', off, hxe, hlt, hc'⟩
    · exact .inl h0
    · right
      refine ⟨b', off, hxe, Nat.lt_of_lt_of_le hlt g.2.2.2.1, fun i hi => ?_⟩
      cases hxe
      have hcell : ∀ k, w'.cell? ⟨b', k, none⟩ = w.cell? ⟨b', k, none⟩ := by intro k; simp [World.cell?, e]
      rw [hcell, hcell]; exact hc' i hi
/-- Two chunks of different types lie in different blocks. -/
theorem CAt.apart {w : World} {b q : Nat} {sz sy : Int} {x y : List (Int × Int)} (h : PCk w b sz x) (k : RCk w q sy y) : b ≠ q := by
  obtain ⟨a, c, h1, _⟩ := h
  obtain ⟨a', c', h2, _⟩ := k
  intro e
  subst e
  rw [h1] at h2
  simp at h2

def PlayP (b d q s : Nat) (sz : Int) (x y : List (Int × Int)) (w : World) (e : Ending) (w' : World) : Prop :=
  e = .returned (.bool true) ∧ PCk w' b sz x ∧ PCk w' d sz y ∧ RCk w' q sz x ∧ RCk w' s sz y ∧ FourOnly b d q s w w'

set_option maxRecDepth 100000 in
set_option maxHeartbeats 4000000 in
theorem play_put (b d q s : Nat) (sz : Int) (x y : List (Int × Int)) (T V P : Int) (w : World) (hb : PCk w b sz x) (hd : PCk w d sz y) (hq : RCk w q sz x) (hss : RCk w s sz y) (hbd : b ≠ d) (hqs : q ≠ s)
    (hs : 1 ≤ sz) (hs2 : sz ≤ 4096) (hr : Rising x) (hn : x.length ≤ 400) (hT : in64 T) (hV : in64 V) :
    Calls Try.prog 12 #[.pointer (some ⟨b, 0, none⟩), .pointer (some ⟨d, 0, none⟩), .pointer (some ⟨q, 0, none⟩), .pointer (some ⟨s, 0, none⟩), .agg #[.int .i64 0, .int .i64 T, .int .i64 V, .int .i64 P]] w
      (PlayP b d q s sz (putL sz x T V P).2 y w) := by
  have ga := World.grownBy_alloc w (.cells #[.int .i64 0, .int .i64 T, .int .i64 V, .int .i64 P] 33) none
  have HX := Lib.hid (heap_new w (.cells #[.int .i64 0, .int .i64 T, .int .i64 V, .int .i64 P] 33))
  have s1 : w.heap.size < (w.alloc (.cells #[.int .i64 0, .int .i64 T, .int .i64 V, .int .i64 P] 33)).heap.size := by simp
  have hbq := CAt.apart hb hq
  have hbs := CAt.apart hb hss
  have hdq := CAt.apart hd hq
  have hbw := CAt.lt hb
  have hqw := CAt.lt hq
  have P1 := Lib.hid (CAt.keepN hb ga)
  have D1 := Lib.hid (CAt.keepN hd ga)
  have Q1 := Lib.hid (CAt.keepN hq ga)
  have S1 := Lib.hid (CAt.keepN hss ga)
  have HG := Lib.hid ga
  have HR := Lib.hid hr
  clear ga hb hd hq hss hr
  obtain ⟨er, her⟩ : ∃ er, (putL sz x T V P).1 = er := ⟨_, rfl⟩
  have HER := Lib.hid her
  have hee : (er == er) = true := by simp
  clear her
  go_enter Try.func12, Try.ntmps12
  go_wp2_with fail
  generalize w.alloc (.cells #[.int .i64 0, .int .i64 T, .int .i64 V, .int .i64 P] 33) = W1 at *
  have t0 : W1.cell? ⟨w.heap.size, 0, none⟩ = some (.int .i64 0) := by rw [cell_of HX.out]; rfl
  have t1 : W1.cell? ⟨w.heap.size, 1, none⟩ = some (.int .i64 T) := by rw [cell_of HX.out]; rfl
  have t2 : W1.cell? ⟨w.heap.size, 2, none⟩ = some (.int .i64 V) := by rw [cell_of HX.out]; rfl
  have t3 : W1.cell? ⟨w.heap.size, 3, none⟩ = some (.int .i64 P) := by rw [cell_of HX.out]; rfl
  have PD : Hid (PCk W1.drew b sz x) := P1
  go_wp2_with fail
  go_region_held3 (fun w' => w'.cell? ⟨w.heap.size, 1, none⟩ = some (.int .i64 T) ∧ w'.cell? ⟨w.heap.size, 2, none⟩ = some (.int .i64 V) ∧ w'.cell? ⟨w.heap.size, 3, none⟩ = some (.int .i64 P))
    (first
      | exact ⟨(cell_of hX6.out).trans rfl, (cell_of hX6.out).trans rfl, (cell_of hX6.out).trans rfl⟩
      | exact ⟨(cell_of hX7.out).trans rfl, (cell_of hX7.out).trans rfl, (cell_of hX7.out).trans rfl⟩
      | go_keep)
    (first
      | (go_at_call 17
         (with_reducible refine (put_ok4 b sz x T V P _ PD.out hs hs2 HR.out (by omega) hT hV).mono ?_)
         rintro e W6 ⟨rfl, p6, g6⟩
         rw [HER.out]
         have hX6 := Lib.hid ((g6.block w.heap.size s1 (by simp; omega)).trans HX.out)
         have q6 : Hid (RCk W6 q sz x) := Lib.hid (CAt.keep (w := W1.drew) Q1.out g6 (Ne.symm hbq) (CAt.no (w := W1.drew) P1.out (by decide))))
      | (go_at_call 32
         (with_reducible refine (rput_ok q sz x T V P W6 q6.out hs hs2 HR.out (by omega) hT hV).mono ?_)
         rintro e W7 ⟨rfl, p7, g7⟩
         rw [HER.out]
         have hX7 := Lib.hid ((g7.block w.heap.size (heap_lt hX6.out) (by simp; omega)).trans hX6.out)))
  have n6 := CAt.no (w := W1.drew) P1.out (by decide)
  have n7 := CAt.no q6.out (by decide)
  have D6 := CAt.keep (w := W1.drew) D1.out g6 (Ne.symm hbd) n6
  have S6 := CAt.keep (w := W1.drew) S1.out g6 (Ne.symm hbs) n6
  have DD7 := Lib.hid (CAt.keep D6 g7 hdq n7)
  have SS7 := Lib.hid (CAt.keep S6 g7 (Ne.symm hqs) n7)
  have PP7 := Lib.hid (CAt.keep p6 g7 hbq n7)
  have QQ7 := Lib.hid p7
  have F7 : FourOnly b d q s w W7 := ((FourOnly.of HG.out (by simp)).trans (FourOnly.of (gb_trans (Drew.gb (w := W1) (w' := W1.drew) ⟨1, rfl⟩ (some b)) g6) (by intro k e; cases e; exact .inl rfl))).trans (FourOnly.of g7 (by intro k e; cases e; exact .inr (.inr (.inl rfl))))
  clear n6 n7 D6 S6 p6 p7 g6 g7 t0 t1 t2 t3 hX6 hX7 q6
  go_wp2
  go_ret
  exact ⟨rfl, PP7.out, DD7.out, QQ7.out, SS7.out, F7⟩

set_option maxRecDepth 100000 in
set_option maxHeartbeats 4000000 in
theorem play_drop (b d q s : Nat) (sz : Int) (x y : List (Int × Int)) (T V P : Int) (w : World) (hb : PCk w b sz x) (hd : PCk w d sz y) (hq : RCk w q sz x) (hss : RCk w s sz y) (hbd : b ≠ d) (hqs : q ≠ s)
    (hs : 1 ≤ sz) (hs2 : sz ≤ 4096) (hr : Rising x) (hn : x.length ≤ 400) :
    Calls Try.prog 12 #[.pointer (some ⟨b, 0, none⟩), .pointer (some ⟨d, 0, none⟩), .pointer (some ⟨q, 0, none⟩), .pointer (some ⟨s, 0, none⟩), .agg #[.int .i64 1, .int .i64 T, .int .i64 V, .int .i64 P]] w
      (PlayP b d q s sz (dropL x T V) y w) := by
  have ga := World.grownBy_alloc w (.cells #[.int .i64 1, .int .i64 T, .int .i64 V, .int .i64 P] 33) none
  have HX := Lib.hid (heap_new w (.cells #[.int .i64 1, .int .i64 T, .int .i64 V, .int .i64 P] 33))
  have s1 : w.heap.size < (w.alloc (.cells #[.int .i64 1, .int .i64 T, .int .i64 V, .int .i64 P] 33)).heap.size := by simp
  have hbq := CAt.apart hb hq
  have hbs := CAt.apart hb hss
  have hdq := CAt.apart hd hq
  have hds := CAt.apart hd hss
  have hbw := CAt.lt hb
  have hqw := CAt.lt hq
  have hdw := CAt.lt hd
  have hsw := CAt.lt hss
  have P1 := Lib.hid (CAt.keepN hb ga)
  have D1 := Lib.hid (CAt.keepN hd ga)
  have Q1 := Lib.hid (CAt.keepN hq ga)
  have S1 := Lib.hid (CAt.keepN hss ga)
  have HG := Lib.hid ga
  have HR := Lib.hid hr
  clear ga hb hd hq hss hr
  obtain ⟨er, her⟩ : ∃ er, dropN x T V = er := ⟨_, rfl⟩
  have HER := Lib.hid her
  have hee : ((er : Int) == (er : Int)) = true := by simp
  clear her
  go_enter Try.func12, Try.ntmps12
  go_wp2_with fail
  generalize w.alloc (.cells #[.int .i64 1, .int .i64 T, .int .i64 V, .int .i64 P] 33) = W1 at *
  have t0 : W1.cell? ⟨w.heap.size, 0, none⟩ = some (.int .i64 1) := by rw [cell_of HX.out]; rfl
  have t1 : W1.cell? ⟨w.heap.size, 1, none⟩ = some (.int .i64 T) := by rw [cell_of HX.out]; rfl
  have t2 : W1.cell? ⟨w.heap.size, 2, none⟩ = some (.int .i64 V) := by rw [cell_of HX.out]; rfl
  have t3 : W1.cell? ⟨w.heap.size, 3, none⟩ = some (.int .i64 P) := by rw [cell_of HX.out]; rfl
  have PD : Hid (PCk W1.drew b sz x) := P1
  go_wp2_with fail
  go_region_held3 (fun w' => w'.cell? ⟨w.heap.size, 1, none⟩ = some (.int .i64 T) ∧ w'.cell? ⟨w.heap.size, 2, none⟩ = some (.int .i64 V))
    (first
      | exact ⟨(cell_of hX6.out).trans rfl, (cell_of hX6.out).trans rfl⟩
      | exact ⟨(cell_of hX7.out).trans rfl, (cell_of hX7.out).trans rfl⟩
      | go_keep)
    (first
      | (go_at_call 14
         (with_reducible refine (drop_ok b sz x T V _ PD.out hs HR.out (by omega)).mono ?_)
         rintro e W6 ⟨rfl, p6, g6⟩
         rw [HER.out]
         have hX6 := Lib.hid ((g6.block w.heap.size s1 (by simp; omega)).trans HX.out)
         have q6 : Hid (RCk W6 q sz x) := Lib.hid (CAt.keep (w := W1.drew) Q1.out g6 (Ne.symm hbq) (CAt.no (w := W1.drew) P1.out (by decide))))
      | (go_at_call 33
         (with_reducible refine (rdrop_ok q sz x T V W6 q6.out HR.out (by omega)).mono ?_)
         rintro e W7 ⟨rfl, p7, g7⟩
         rw [HER.out]
         have hX7 := Lib.hid ((g7.block w.heap.size (heap_lt hX6.out) (by simp; omega)).trans hX6.out)))
  have n6 := CAt.no (w := W1.drew) P1.out (by decide)
  have n7 := CAt.no q6.out (by decide)
  have D6 := CAt.keep (w := W1.drew) D1.out g6 (Ne.symm hbd) n6
  have S6 := CAt.keep (w := W1.drew) S1.out g6 (Ne.symm hbs) n6
  have DD7 := Lib.hid (CAt.keep D6 g7 hdq n7)
  have SS7 := Lib.hid (CAt.keep S6 g7 (Ne.symm hqs) n7)
  have PP7 := Lib.hid (CAt.keep p6 g7 hbq n7)
  have QQ7 := Lib.hid p7
  have F7 : FourOnly b d q s w W7 := ((FourOnly.of HG.out (by simp)).trans (FourOnly.of (gb_trans (Drew.gb (w := W1) (w' := W1.drew) ⟨1, rfl⟩ (some b)) g6) (by intro k e; cases e; exact .inl rfl))).trans (FourOnly.of g7 (by intro k e; cases e; exact .inr (.inr (.inl rfl))))
  clear n6 n7 D6 S6 p6 p7 g6 g7 t0 t1 t2 t3 hX6 hX7 q6
  go_wp2
  go_ret
  exact ⟨rfl, PP7.out, DD7.out, QQ7.out, SS7.out, F7⟩

set_option maxRecDepth 100000 in
set_option maxHeartbeats 4000000 in
theorem play_join (b d q s : Nat) (sz : Int) (x y : List (Int × Int)) (T V P : Int) (w : World) (hb : PCk w b sz x) (hd : PCk w d sz y) (hq : RCk w q sz x) (hss : RCk w s sz y) (hbd : b ≠ d) (hqs : q ≠ s)
    (hs : 1 ≤ sz) (hs2 : sz ≤ 4096) (hr : Rising x) (hn : x.length ≤ 400) (hny : y.length ≤ 400) :
    Calls Try.prog 12 #[.pointer (some ⟨b, 0, none⟩), .pointer (some ⟨d, 0, none⟩), .pointer (some ⟨q, 0, none⟩), .pointer (some ⟨s, 0, none⟩), .agg #[.int .i64 3, .int .i64 T, .int .i64 V, .int .i64 P]] w
      (PlayP b d q s sz (joinL sz x y) (joinR sz x y) w) := by
  have ga := World.grownBy_alloc w (.cells #[.int .i64 3, .int .i64 T, .int .i64 V, .int .i64 P] 33) none
  have HX := Lib.hid (heap_new w (.cells #[.int .i64 3, .int .i64 T, .int .i64 V, .int .i64 P] 33))
  have s1 : w.heap.size < (w.alloc (.cells #[.int .i64 3, .int .i64 T, .int .i64 V, .int .i64 P] 33)).heap.size := by simp
  have hbq := CAt.apart hb hq
  have hbs := CAt.apart hb hss
  have hdq := CAt.apart hd hq
  have hds := CAt.apart hd hss
  have hbw := CAt.lt hb
  have hqw := CAt.lt hq
  have hdw := CAt.lt hd
  have hsw := CAt.lt hss
  have P1 := Lib.hid (CAt.keepN hb ga)
  have D1 := Lib.hid (CAt.keepN hd ga)
  have Q1 := Lib.hid (CAt.keepN hq ga)
  have S1 := Lib.hid (CAt.keepN hss ga)
  have HG := Lib.hid ga
  have HR := Lib.hid hr
  clear ga hb hd hq hss hr
  obtain ⟨er, her⟩ : ∃ er, joinE sz x y = er := ⟨_, rfl⟩
  have HER := Lib.hid her
  have hee : (er == er) = true := by simp
  clear her
  go_enter Try.func12, Try.ntmps12
  go_wp2_with fail
  generalize w.alloc (.cells #[.int .i64 3, .int .i64 T, .int .i64 V, .int .i64 P] 33) = W1 at *
  have t0 : W1.cell? ⟨w.heap.size, 0, none⟩ = some (.int .i64 3) := by rw [cell_of HX.out]; rfl
  have t1 : W1.cell? ⟨w.heap.size, 1, none⟩ = some (.int .i64 T) := by rw [cell_of HX.out]; rfl
  have t2 : W1.cell? ⟨w.heap.size, 2, none⟩ = some (.int .i64 V) := by rw [cell_of HX.out]; rfl
  have t3 : W1.cell? ⟨w.heap.size, 3, none⟩ = some (.int .i64 P) := by rw [cell_of HX.out]; rfl
  go_wp2_with fail
  refine (join_ok b d sz sz x y W1 P1.out D1.out hbd hs hs2 hs (by omega)).mono ?_
  rintro e W6 ⟨rfl, p6, d6, g6⟩
  rw [HER.out]
  have n1 := CAt.no P1.out (by decide)
  have n2 := CAt.no D1.out (by decide)
  have q6 := CAt.keep2 Q1.out g6 (Ne.symm hbq) (Ne.symm hdq) n1 n2
  have s6 := CAt.keep2 S1.out g6 (Ne.symm hbs) (Ne.symm hds) n1 n2
  have F6 : FourOnly b d q s w W6 := (FourOnly.of HG.out (by simp)).trans (FourOnly.two g6 (.inl rfl) (.inr (.inl rfl)))
  clear n1 n2 g6 t0 t1 t2 t3
  go_wp2_with fail
  refine (rjoin_ok q s sz sz x y W6 q6 s6 hqs hs hs2 (by omega)).mono ?_
  rintro e W7 ⟨rfl, q7, s7, g7⟩
  rw [HER.out]
  have n1 := CAt.no q6 (by decide)
  have n2 := CAt.no s6 (by decide)
  have PP7 := Lib.hid (CAt.keep2 p6 g7 hbq hbs n1 n2)
  have DD7 := Lib.hid (CAt.keep2 d6 g7 hdq hds n1 n2)
  have QQ7 := Lib.hid q7
  have SS7 := Lib.hid s7
  have F7 := F6.trans (FourOnly.two (b := b) (d := d) g7 (.inr (.inr (.inl rfl))) (.inr (.inr (.inr rfl))))
  clear n1 n2 q6 s6 p6 d6 g7 q7 s7
  go_wp2
  go_ret
  exact ⟨rfl, PP7.out, DD7.out, QQ7.out, SS7.out, F7⟩

set_option maxRecDepth 100000 in
set_option maxHeartbeats 4000000 in
theorem play_get (b d q s : Nat) (sz : Int) (x y : List (Int × Int)) (K T V P : Int) (w : World) (hb : PCk w b sz x) (hd : PCk w d sz y) (hq : RCk w q sz x) (hss : RCk w s sz y) (hbd : b ≠ d) (hqs : q ≠ s)
    (hs : 1 ≤ sz) (hs2 : sz ≤ 4096) (hr : Rising x) (hn : x.length ≤ 400) (hK0 : K ≠ 0) (hK1 : K ≠ 1) (hK3 : K ≠ 3) :
    Calls Try.prog 12 #[.pointer (some ⟨b, 0, none⟩), .pointer (some ⟨d, 0, none⟩), .pointer (some ⟨q, 0, none⟩), .pointer (some ⟨s, 0, none⟩), .agg #[.int .i64 K, .int .i64 T, .int .i64 V, .int .i64 P]] w
      (PlayP b d q s sz x y w) := by
  have ga := World.grownBy_alloc w (.cells #[.int .i64 K, .int .i64 T, .int .i64 V, .int .i64 P] 33) none
  have HX := Lib.hid (heap_new w (.cells #[.int .i64 K, .int .i64 T, .int .i64 V, .int .i64 P] 33))
  have s1 : w.heap.size < (w.alloc (.cells #[.int .i64 K, .int .i64 T, .int .i64 V, .int .i64 P] 33)).heap.size := by simp
  have hbq := CAt.apart hb hq
  have hbs := CAt.apart hb hss
  have hdq := CAt.apart hd hq
  have hds := CAt.apart hd hss
  have hbw := CAt.lt hb
  have hqw := CAt.lt hq
  have hdw := CAt.lt hd
  have hsw := CAt.lt hss
  have P1 := Lib.hid (CAt.keepN hb ga)
  have D1 := Lib.hid (CAt.keepN hd ga)
  have Q1 := Lib.hid (CAt.keepN hq ga)
  have S1 := Lib.hid (CAt.keepN hss ga)
  have HG := Lib.hid ga
  have HR := Lib.hid hr
  clear ga hb hd hq hss hr
  have e0 : (K == 0) = false := by rw [beq_eq_false_iff_ne]; exact hK0
  have e1 : (K == 1) = false := by rw [beq_eq_false_iff_ne]; exact hK1
  have e3 : (K == 3) = false := by rw [beq_eq_false_iff_ne]; exact hK3
  obtain ⟨gx, gy, HGET⟩ : ∃ gx gy, Hid (getL x T = (gx, gy)) := ⟨_, _, Lib.hid rfl⟩
  have hgx : (gx == gx) = true := by simp
  have hgy : (gy == gy) = true := by simp
  clear hK0 hK1 hK3
  go_enter Try.func12, Try.ntmps12
  go_wp2_with fail
  generalize w.alloc (.cells #[.int .i64 K, .int .i64 T, .int .i64 V, .int .i64 P] 33) = W1 at *
  have t0 : W1.cell? ⟨w.heap.size, 0, none⟩ = some (.int .i64 K) := by rw [cell_of HX.out]; rfl
  have t1 : W1.cell? ⟨w.heap.size, 1, none⟩ = some (.int .i64 T) := by rw [cell_of HX.out]; rfl
  have t2 : W1.cell? ⟨w.heap.size, 2, none⟩ = some (.int .i64 V) := by rw [cell_of HX.out]; rfl
  have t3 : W1.cell? ⟨w.heap.size, 3, none⟩ = some (.int .i64 P) := by rw [cell_of HX.out]; rfl
  go_wp2_with fail
  have hg1 := get_ok4 b sz x T W1 P1.out hs HR.out (by omega)
  rw [HGET.out] at hg1
  refine hg1.mono ?_
  clear hg1
  rintro e W6 ⟨rfl, g6⟩
  unfold two
  have hX6 := Lib.hid ((g6.block w.heap.size s1).trans HX.out)
  have p6 := CAt.keepB P1.out g6
  have d6 := CAt.keepB D1.out g6
  have q6 := CAt.keepB Q1.out g6
  have s6 := CAt.keepB S1.out g6
  have F6 : FourOnly b d q s w W6 := (FourOnly.of HG.out (by simp)).trans (FourOnly.of (gb_below (row := none) g6) (by simp))
  clear g6 t0 t1 t2 t3
  have t1 : W6.cell? ⟨w.heap.size, 1, none⟩ = some (.int .i64 T) := by rw [cell_of hX6.out]; rfl
  go_wp2_with fail
  have hg1 := rget_ok q sz x T W6 q6 HR.out (by omega)
  rw [HGET.out] at hg1
  refine hg1.mono ?_
  clear hg1
  rintro e W7 ⟨rfl, g7⟩
  unfold two
  have PP7 := Lib.hid (CAt.keepB p6 g7)
  have DD7 := Lib.hid (CAt.keepB d6 g7)
  have QQ7 := Lib.hid (CAt.keepB q6 g7)
  have SS7 := Lib.hid (CAt.keepB s6 g7)
  have F7 := F6.trans (FourOnly.of (b := b) (d := d) (q := q) (s := s) (gb_below (row := none) g7) (by simp))
  clear p6 d6 q6 s6 g7 t1 F6
  go_wp2
  go_ret
  exact ⟨rfl, PP7.out, DD7.out, QQ7.out, SS7.out, F7⟩

end Go.Proofs.Ytjhnajenkoepdaa
