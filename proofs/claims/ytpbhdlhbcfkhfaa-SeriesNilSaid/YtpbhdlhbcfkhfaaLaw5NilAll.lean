/-
  The statement 'SeriesNil' of layer 5: for every sample, a series that is not there, and one of zeros, has no samples.
  No condition.
-/
import Derived.Test.YtpbhdlhbcfkhfaaSUse
import Derived.Test.YtpbhdlhbcfkhfaaSKnown
import Derived.Test.YtpbhdlhbcfkhfaaSOps
import Derived.ShutString
import Derived.ChangeOld
import Derived.Lib.SmallJoins
/-
  Contracts of a series' calls of nil, and of one of zeros.
-/
namespace Go.Proofs.Ytpbhdlhbcfkhfaa
open Go.RowKit
set_option linter.unusedVariables false
set_option linter.unusedSimpArgs false

/-- No series: nil, or one of zeros. -/
def NoS (w : World) (p : Option Addr) : Prop := p = none ∨ ∃ b, p = some ⟨b, 0, none⟩ ∧ ZSer w b
theorem NoS.nil (w : World) : NoS w none := .inl rfl
theorem NoS.keepB {w w' : World} {p : Option Addr} (h : NoS w p) (g : Below w.heap.size w w') : NoS w' p := by
  rcases h with rfl | ⟨b, rfl, h⟩
  · exact .inl rfl
  · exact .inr ⟨b, rfl, h.keepB g⟩
def TupS (v : Value) (w : World) (e : Ending) (w' : World) : Prop := e = .returned v ∧ Below w.heap.size w w'
theorem sNone_not (p : Option Addr) (w : World) (h : NoS w p) : Calls Try.prog 44 #[.pointer p] w fun e w' => e = .returned (.bool true) ∧ w = w' := by
  rcases h with rfl | ⟨b, rfl, h⟩
  · exact sNone_nil w
  · exact sNone_zero b w h
theorem slist_not (p : Option Addr) (w : World) (h : NoS w p) : Calls Try.prog 39 #[.pointer p] w fun e w' => e = .returned (.slice none 0 0) ∧ w = w' := by
  rcases h with rfl | ⟨b, rfl, h⟩
  · exact slist_nil w
  · exact slist_zero b w h
theorem window_none (x y : Int) (w : World) : Calls Try.prog 38 #[.slice none 0 0, .int .i64 x, .int .i64 y] w (WinP 0 0 w) := by
  have h := window_any none 0 0 [] 128 x y w (Ptrs.nil w) (fun u hu => by cases hu) (by omega) (by simp [zs]) (by simp [zs]; exact rising_nil) (fun z hz => by simp [zs] at hz) (by omega)
  have h1 : winA (zs []) x y = 0 := by
    unfold winA; split
    · rfl
    · have := begL_le (zs []) x; simp [zs] at this ⊢; omega
  have h2 : winB (zs []) x y = 0 := by
    unfold winB; split
    · rfl
    · have := begL_le (zs []) y; simp [zs] at this ⊢; omega
  rw [h1, h2] at h
  exact h

set_option maxHeartbeats 400000 in
theorem sget_not (p : Option Addr) (t : Int) (w : World) (h : NoS w p) : Calls Try.prog 24 #[.pointer p, .int .i64 t] w (TupS (.tuple #[.int .i64 0, .int .i64 11]) w) := by
  have HZ := Lib.hid h
  clear h
  go_enter Try.func24, Try.ntmps24
  go_wp2_with fail
  refine (sNone_not p _ HZ.out).mono ?_
  rintro e w' ⟨rfl, rfl⟩
  go_wp2
  go_ret2
  exact ⟨rfl, Below.refl _ _⟩

set_option maxHeartbeats 400000 in
theorem sadd_not (p : Option Addr) (T V q : Int) (w : World) (h : NoS w p) : Calls Try.prog 13 #[.pointer p, .agg #[.int .i64 T, .int .i64 V], .int .i64 q] w (TupS (.int .i64 11) w) := by
  have HZ := Lib.hid (h.keepB ((Below.refl w.heap.size w).alloc (Nat.le_refl _) (.cells #[.int .i64 T, .int .i64 V] 29)))
  clear h
  go_enter Try.func13, Try.ntmps13
  go_wp2_with fail
  refine (sNone_not p _ HZ.out).mono ?_
  rintro e w' ⟨rfl, rfl⟩
  go_wp2
  go_ret
  exact ⟨rfl, (Below.refl _ _).alloc (Nat.le_refl _) _⟩

set_option maxHeartbeats 400000 in
theorem salter_not (p : Option Addr) (r q : Int) (w : World) (h : NoS w p) : Calls Try.prog 22 #[.pointer p, .int .i64 r, .int .i64 q] w (TupS (.int .i64 11) w) := by
  have HZ := Lib.hid h
  clear h
  go_enter Try.func22, Try.ntmps22
  go_wp2_with fail
  refine (sNone_not p _ HZ.out).mono ?_
  rintro e w' ⟨rfl, rfl⟩
  go_wp2
  go_ret
  exact ⟨rfl, Below.refl _ _⟩

set_option maxHeartbeats 400000 in
theorem scopy_not (p : Option Addr) (w : World) (h : NoS w p) : Calls Try.prog 23 #[.pointer p] w (TupS (.pointer none) w) := by
  have HZ := Lib.hid h
  clear h
  go_enter Try.func23, Try.ntmps23
  go_wp2_with fail
  refine (sNone_not p _ HZ.out).mono ?_
  rintro e w' ⟨rfl, rfl⟩
  go_wp2
  go_ret
  exact ⟨rfl, Below.refl _ _⟩

set_option maxHeartbeats 400000 in
theorem slen_not (p : Option Addr) (w : World) (h : NoS w p) : Calls Try.prog 16 #[.pointer p] w (TupS (.int .i64 0) w) := by
  have HZ := Lib.hid h
  clear h
  go_enter Try.func16, Try.ntmps16
  go_wp2_with fail
  refine (slist_not p _ HZ.out).mono ?_
  rintro e w' ⟨rfl, rfl⟩
  go_wp2_with fail
  go_loop [3, 9] (fun m i => m = .int .i64 0 ∧ i = .int .i64 0) (fun _ i => 0)
  case atStart => exact ⟨rfl, rfl⟩
  case round =>
    obtain ⟨rfl, rfl⟩ := hrel
    go_wp2
    go_ret
    exact ⟨rfl, Below.refl _ _⟩

set_option maxHeartbeats 400000 in
theorem schunks_not (p : Option Addr) (w : World) (h : NoS w p) : Calls Try.prog 15 #[.pointer p] w (TupS (.slice none 0 0) w) := by
  have HZ := Lib.hid h
  clear h
  go_enter Try.func15, Try.ntmps15
  go_wp2_with fail
  refine (slist_not p _ HZ.out).mono ?_
  rintro e w' ⟨rfl, rfl⟩
  go_wp2_with fail
  go_loop [3, 9] (fun v i => v = .slice none 0 0 ∧ i = .int .i64 0) (fun _ i => 0)
  case atStart => exact ⟨rfl, rfl⟩
  case round =>
    obtain ⟨rfl, rfl⟩ := hrel
    go_wp2
    go_ret
    exact ⟨rfl, Below.refl _ _⟩

set_option maxHeartbeats 400000 in
theorem slast_nil (w : World) : Calls Try.prog 27 #[.pointer none] w (TupS (.tuple #[.agg #[.int .i64 0, .int .i64 0], .bool false]) w) := by
  have B0 := (Below.refl w.heap.size w).alloc (Nat.le_refl _) (.cells #[.int .i64 0, .int .i64 0] 29)
  have HN := Lib.hid (heap_new w (.cells #[.int .i64 0, .int .i64 0] 29))
  go_enter Try.func27, Try.ntmps27
  go_wp2_with fail
  generalize w.alloc (.cells #[.int .i64 0, .int .i64 0] 29) = W1 at *
  refine (slist_nil _).mono ?_
  rintro e w' ⟨rfl, rfl⟩
  have c0 : W1.cell? ⟨w.heap.size, 0, none⟩ = some (.int .i64 0) := by rw [cell_of HN.out]; rfl
  have c1 : W1.cell? ⟨w.heap.size, 1, none⟩ = some (.int .i64 0) := by rw [cell_of HN.out]; rfl
  have f0 := frozen_of (o := 0) HN.out
  have f1 := frozen_of (o := 1) HN.out
  go_wp2
  have r0 := heap_set (o := 0) (v := .int .i64 0) HN.out
  have r1 := heap_set (o := 1) (v := .int .i64 0) r0
  have j0 := (cell_of (o := 0) r1).trans (by rfl : _ = some (Value.int .i64 0))
  have j1 := (cell_of (o := 1) r1).trans (by rfl : _ = some (Value.int .i64 0))
  clear r0 r1
  exact bodyPost_ret (v := .tuple #[.agg #[.int .i64 0, .int .i64 0], .bool false]) (by simp [results, Try.results27, go_sem, j0, j1]) rfl ⟨rfl, (B0.setCell (Nat.le_refl _) _).setCell (Nat.le_refl _) _⟩

set_option maxHeartbeats 400000 in
theorem sdel_not (p : Option Addr) (x y : Int) (w : World) (h : NoS w p) : Calls Try.prog 12 #[.pointer p, .int .i64 x, .int .i64 y] w (TupS (.int .i64 0) w) := by
  have HZ := Lib.hid h
  clear h
  go_enter Try.func12, Try.ntmps12
  go_wp2_with fail
  refine (slist_not p _ HZ.out).mono ?_
  rintro e w' ⟨rfl, rfl⟩
  go_wp2_with fail
  refine (window_none x y _).mono ?_
  rintro e W1 ⟨rfl, b1⟩
  have HZ1 := Lib.hid (HZ.out.keepB b1)
  go_wp2_with fail
  refine (slist_not p _ HZ1.out).mono ?_
  rintro e w' ⟨rfl, rfl⟩
  have HB1 := Lib.hid b1
  clear b1
  go_wp2_with fail
  go_loop [9, 10, 27] (fun many v i => many = .int .i64 0 ∧ v = .slice none 0 0 ∧ i = .int .i64 0) (fun _ _ i => 0)
  case atStart => exact ⟨rfl, rfl, rfl⟩
  case round =>
    obtain ⟨rfl, rfl, rfl⟩ := hrel
    go_wp2
    go_ret
    exact ⟨rfl, HB1.out⟩

set_option maxRecDepth 100000 in
set_option maxHeartbeats 1000000 in
theorem rising_not (p : Option Addr) (b0 b1 b2 : Nat) (x y : Int) (w : World) (h : NoS w p) (hc : Cap3 w b0 b1 b2 (.pointer p) x y) :
    SeqAll 75 #[.pointer (some ⟨b0, 0, none⟩), .pointer (some ⟨b1, 0, none⟩), .pointer (some ⟨b2, 0, none⟩)] encS [] (fun k => k < w.heap.size) w := by
  intro l J M W hW hJ hM hR hY hJ0
  have HNS := Lib.hid (h.keepB hW)
  have HJ := Lib.hid hJ
  have HJ0 := Lib.hid hJ0
  have HCP := Lib.hid (hc.keep hW)
  have c0 := HCP.out.1
  have c1 := HCP.out.2.1
  have c2 := HCP.out.2.2
  clear h hc hW hJ hM hR hY hJ0
  go_enter Try.func75, Try.ntmps75
  go_wp2_with fail
  go_cut [5, 6] (fun s5 s6 wx => s5 = .int .i64 0 ∧ s6 = .int .i64 0 ∧ Below W.heap.size W wx)
  case first =>
    have HND : Hid (NoS W.drew p) := Lib.hid (HNS.out.keepB (drew_below (w := W) (w' := W.drew) ⟨1, rfl⟩))
    go_region_held3 (fun w' => w'.cell? ⟨b0, 0, none⟩ = some (.pointer p) ∧ w'.cell? ⟨b1, 0, none⟩ = some (.int .i64 x) ∧ w'.cell? ⟨b2, 0, none⟩ = some (.int .i64 y))
      (first
        | (exact ⟨c0, c1, c2⟩)
        | (exact HCP.out.keep B6.out)
        | go_keep
        | fail)
      (first
        | (go_at_call 39
           (with_reducible refine (slist_not p _ HND.out).mono ?_)
           rintro e w' ⟨rfl, rfl⟩)
        | (go_at_call 38
           (with_reducible refine (window_none x y _).mono ?_)
           rintro e W6 ⟨rfl, b6⟩
           have B6 : Hid (Below W.heap.size W W6) := Lib.hid ((drew_below (w := W) (w' := W.drew) ⟨1, rfl⟩).trans b6)
           clear b6)
        | fail)
    go_wp2_with fail
    go_meet
    exact ⟨rfl, rfl, B6.out⟩
  case rest =>
    obtain ⟨rfl, rfl, B1⟩ := hcut
    generalize wc = W1 at *
    have HJ1 := Lib.hid (HJ.out [] W W1 none HJ0.out (gb_below B1) (fun r e => by cases e))
    have HN1 := Lib.hid (HNS.out.keepB B1)
    have d0 := (HCP.out.keep B1).1
    clear c0 c1 c2 B1
    go_wp2_with fail
    refine (slist_not p _ HN1.out).mono ?_
    rintro e' w' ⟨rfl, rfl⟩
    go_wp2_with fail
    clear d0
    go_loop [25] (fun i => i = .int .i64 0) (fun _ => 0)
    case atStart => rfl
    case round =>
      subst hrel
      go_wp2
      go_end0
      exact ⟨⟨_, rfl⟩, HJ1.out⟩

set_option maxRecDepth 100000 in
theorem srange_not (p : Option Addr) (x y : Int) (w : World) (h : NoS w p) :
    Calls Try.prog 19 #[.pointer p, .int .i64 x, .int .i64 y] w (LaidP [] w) := by
  have HS := Lib.hid h
  clear h
  go_enter Try.func19, Try.ntmps19
  go_wp2_with fail
  refine (rising_ok p x y w).mono ?_
  rintro e W1 ⟨rfl, c1, b1⟩
  have HC1 := Lib.hid c1
  have HS1 := Lib.hid (HS.out.keepB b1)
  clear c1
  go_wp2_with fail
  refine (gathered_any _ _ _ W1 (enters_of Try.func75 (by kernel_rfl) rfl) (fun k => k < W1.heap.size) (fun _ h => h) (rising_not p _ _ _ x y W1 HS1.out HC1.out) (by simp) (fun u hu => by cases hu)).mono ?_
  rintro e W2 ⟨a2, cap2, rfl, l2, b2⟩
  have B2 := b1.trans (b2.mono b1.size)
  have HL2 := Lib.hid l2
  clear l2 b1 b2
  go_wp2
  go_ret
  exact ⟨a2, cap2, rfl, HL2.out, B2⟩

set_option maxRecDepth 100000 in
set_option maxHeartbeats 1000000 in
theorem falling_not (p : Option Addr) (b0 b1 b2 : Nat) (x y : Int) (w : World) (h : NoS w p) (hc : Cap3 w b0 b1 b2 (.pointer p) x y) :
    SeqAll 77 #[.pointer (some ⟨b0, 0, none⟩), .pointer (some ⟨b1, 0, none⟩), .pointer (some ⟨b2, 0, none⟩)] encS [] (fun k => k < w.heap.size) w := by
  intro l J M W hW hJ hM hR hY hJ0
  have HNS := Lib.hid h
  have HCP := Lib.hid hc
  have HJ := Lib.hid hJ
  have HM := Lib.hid hM
  have HJ0 := Lib.hid hJ0
  have HNR := Lib.hid hR
  have HBW := Lib.hid hW
  have sW := hW.size
  clear h hc hW hJ hM hR hY hJ0
  refine (callsIn_wide (n := 0)).1 ?_
  refine callsIn_of_wp_marks Try.func77 rfl trivial ?_ rfl
  simp only [Try.ntmps77, List.size_toArray, List.length_cons, List.length_nil, Nat.reduceAdd, Nat.reduceSub, Array.replicate_succ, Array.replicate_zero, List.push_toArray, List.append_toArray, List.nil_append, List.cons_append]
  refine wpIn_wide.2 ?_
  have bY := Boxed.new W 57 (.func (.yield l) #[] #[])
  have B0 : Below W.heap.size W (W.alloc (.cells #[.func (.yield l) #[] #[]] 57)) := (Below.refl _ W).alloc (Nat.le_refl _) _
  have HYB := Lib.hid bY
  have HB0 := Lib.hid B0
  have HJ1 := Lib.hid (HJ.out [] W _ none HJ0.out (gb_below B0) (fun r e => by cases e))
  have HN1 := Lib.hid (show ∀ k, k < w.heap.size → ¬ M (W.alloc (.cells #[.func (.yield l) #[] #[]] 57)) k from fun k hk e => HNR.out k hk (HM.out.new [] W _ none k HJ0.out (gb_below B0) (fun r e => by cases e) e))
  have HNY := Lib.hid (show ¬ M (W.alloc (.cells #[.func (.yield l) #[] #[]] 57)) W.heap.size from fun e => by
    have h1 := HM.out.new [] W _ none _ HJ0.out (gb_below B0) (fun r e => by cases e) e
    obtain ⟨o, ho, _⟩ := HM.out.own [] W _ HJ0.out h1
    have := heap_lt ho
    omega)
  clear bY B0
  go_wp2_with fail
  generalize W.alloc (.cells #[.func (.yield l) #[] #[]] 57) = W0 at *
  have BW0 := HBW.out.trans (HB0.out.mono sW)
  have CW := HCP.out.keep BW0
  have c0 := CW.1
  have c1 := CW.2.1
  have c2 := CW.2.2
  have s0 := BW0.size
  clear CW
  go_cut [5, 6] from 11 to 18 (fun s5 s6 wx => s5 = .int .i64 0 ∧ s6 = .int .i64 0 ∧ Below W0.heap.size W0 wx)
  case first =>
    have BD : Below w.heap.size w W0.drew := BW0.drew
    have HND : Hid (NoS W0.drew p) := Lib.hid (HNS.out.keepB BD)
    go_region_held3 (fun w' => w'.cell? ⟨b0, 0, none⟩ = some (.pointer p) ∧ w'.cell? ⟨b1, 0, none⟩ = some (.int .i64 x) ∧ w'.cell? ⟨b2, 0, none⟩ = some (.int .i64 y))
      (first
        | (exact ⟨c0, c1, c2⟩)
        | (exact HCP.out.keep (BW0.trans (B6.out.mono s0)))
        | go_keep
        | fail)
      (first
        | (go_at_call 39
           (with_reducible refine (slist_not p _ HND.out).mono ?_)
           rintro e w' ⟨rfl, rfl⟩)
        | (go_at_call 38
           (with_reducible refine (window_none x y _).mono ?_)
           rintro e W6 ⟨rfl, b6⟩
           have B6 : Hid (Below W0.heap.size W0 W6) := Lib.hid ((drew_below (w := W0) (w' := W0.drew) ⟨1, rfl⟩).trans b6)
           clear b6)
        | fail)
    go_wp2_with fail
    go_meet
    exact ⟨rfl, rfl, B6.out⟩
  case rest =>
    obtain ⟨rfl, rfl, B1⟩ := hcut
    generalize wc = W1 at *
    have BW1 := BW0.trans (B1.mono s0)
    have HNS1 := Lib.hid (HNS.out.keepB BW1)
    have d0 := (HCP.out.keep BW1).1
    have HJ2 := Lib.hid (HJ.out [] W0 W1 none HJ1.out (gb_below B1) (fun r e => by cases e))
    have HN2 := Lib.hid (show ∀ k, k < w.heap.size → ¬ M W1 k from fun k hk e => HN1.out k hk (HM.out.new [] W0 W1 none k HJ1.out (gb_below B1) (fun r e => by cases e) e))
    have HNY2 := Lib.hid (show ¬ M W1 W.heap.size from fun e => HNY.out (HM.out.new [] W0 W1 none _ HJ1.out (gb_below B1) (fun r e => by cases e) e))
    have HYB2 := Lib.hid (show Boxed W1 W.heap.size 57 (.func (.yield l) #[] #[]) from (B1.block _ HYB.out.lt).trans HYB.out)
    have sB1 := B1.size
    have hyW0 := HYB.out.lt
    clear c0 c1 c2 B1 HJ1 HN1 HNY HYB HJ0 HNR
    have HBW1 := Lib.hid BW1
    clear BW1
    go_wp2_with fail
    refine (slist_not p _ HNS1.out).mono ?_
    rintro e' w' ⟨rfl, rfl⟩
    go_wp2_with fail
    refine (back_chunks_ok none 0 0 W1).mono ?_
    rintro e' W2 ⟨rfl, rfl⟩
    clear d0
    have G2 := World.grownBy_alloc W1 (.cells #[.slice none 0 0] 52) none
    have cB : (W1.alloc (.cells #[.slice none 0 0] 52)).cell? ⟨W1.heap.size, 0, none⟩ = some (.slice none 0 0) := by rw [cell_of (heap_new W1 _)]; rfl
    have HB2 := Lib.hid (HBW1.out.alloc HBW1.out.size (.cells #[.slice none 0 0] 52))
    have HSQ := Lib.hid (back_chunks W1.heap.size 0 0 none [] _ cB (Ptrs.nil _) (by omega))
    have HJ3 := Lib.hid (HJ.out [] W1 _ none HJ2.out G2 (fun r e => by cases e))
    have HN3 := Lib.hid (show ∀ k, k < w.heap.size → ¬ M (W1.alloc (.cells #[.slice none 0 0] 52)) k from fun k hk e => HN2.out k hk (HM.out.new [] W1 _ none k HJ2.out G2 (fun r e => by cases e) e))
    have HNY3 := Lib.hid (show ¬ M (W1.alloc (.cells #[.slice none 0 0] 52)) W.heap.size from fun e => HNY2.out (HM.out.new [] W1 _ none _ HJ2.out G2 (fun r e => by cases e) e))
    have HYB3 := Lib.hid (HYB2.out.alloc (.cells #[.slice none 0 0] 52))
    have HNB3 := Lib.hid (show ¬ M (W1.alloc (.cells #[.slice none 0 0] 52)) W1.heap.size from fun e => by
      have h1 := HM.out.new [] W1 _ none _ HJ2.out G2 (fun r e => by cases e) e
      obtain ⟨o, ho, _⟩ := HM.out.own [] W1 _ HJ2.out h1
      have := heap_lt ho
      omega)
    have hs3 : W.heap.size < (W1.alloc (.cells #[.slice none 0 0] 52)).heap.size := by simp; omega
    clear HJ2 HN2 HNY2 HYB2 G2 cB
    go_wp2_with fail
    generalize W1.alloc (.cells #[.slice none 0 0] 52) = W2 at *
    refine (wpIn_wide (n := 0)).1 ?_
    refine range_out (gf := 95) (lb := #[.pointer (some ⟨W1.heap.size, 0, none⟩)]) rfl (enters_of Try.func95 (by kernel_rfl) rfl) HSQ.out (Below.refl _ _) (fun _ => rfl)
      (FI J M (inB x y) [] 0 W.heap.size l w) M (FI.own HJ.out HM.out (by omega) HB2.out.size) (FI.mine HM.out (by omega))
      (fun k hk => by
        rcases hk with rfl | ⟨h0, q, hq, rfl⟩
        · exact HNB3.out
        · omega)
      ⟨by simpa using HJ3.out, HYB3.out, HNY3.out, HB2.out, HN3.out⟩
      (fun j a' X => True)
      (fun _ _ _ _ _ _ h _ _ => h) ?assign ?body ?done
    case assign =>
      intro m l1 pre j rest X K hxs hi hK
      simp at hxs
    case body =>
      intro m l1 pre j rest a' X hxs
      simp at hxs
    case done =>
      rintro D X hD hi hK
      have hJ9 := hi.1
      rw [show (([] : List (List (Int × Int))).drop (0 - (List.range 0).reverse.length)) = [] from by simp] at hJ9
      have HJ9 := Lib.hid (HJ.out.putObj (.deferred none) hJ9 (by omega) hK rfl)
      clear hJ9 hi
      gi_wp2
      refine ⟨by simp, .inl ⟨_, _, rfl, run_takeDeferred hK, ?_⟩⟩
      exact ⟨_, results_none rfl _ _ _, ⟨_, rfl⟩, HJ9.out⟩

set_option maxRecDepth 100000 in
theorem sback_not (p : Option Addr) (x y : Int) (w : World) (h : NoS w p) :
    Calls Try.prog 25 #[.pointer p, .int .i64 x, .int .i64 y] w (LaidP [] w) := by
  have HS := Lib.hid h
  clear h
  go_enter Try.func25, Try.ntmps25
  go_wp2_with fail
  refine (falling_ok p x y w).mono ?_
  rintro e W1 ⟨rfl, c1, b1⟩
  have HC1 := Lib.hid c1
  have HS1 := Lib.hid (HS.out.keepB b1)
  clear c1
  go_wp2_with fail
  refine (gathered_any _ _ _ W1 (enters_of Try.func77 (by kernel_rfl) rfl) (fun k => k < W1.heap.size) (fun _ h => h) (falling_not p _ _ _ x y W1 HS1.out HC1.out) (by simp) (fun u hu => by cases hu)).mono ?_
  rintro e W2 ⟨a2, cap2, rfl, l2, b2⟩
  have B2 := b1.trans (b2.mono b1.size)
  have HL2 := Lib.hid l2
  clear l2 b1 b2
  go_wp2
  go_ret
  exact ⟨a2, cap2, rfl, HL2.out, B2⟩

end Go.Proofs.Ytpbhdlhbcfkhfaa
namespace Go.Proofs.Ytpbhdlhbcfkhfaa
namespace seriesNil
open Go.ChangeShapes Go.WideShapes Go.ChangeAt Go.RowKit
set_option linter.unusedVariables false
set_option linter.unusedSimpArgs false

theorem own : ownKnob Try.prog.godebug = none := by kernel_rfl
theorem laidOut : laidOutB Try.prog = true := by kernel_rfl

set_option maxRecDepth 100000 in
theorem open_sample {H : Type} {enc : TypeId × Value → H} {W : World} {r : Reach} {b0 : Nat} {v : Value} {d : DataW H} {p : List MemPlace}
    (hv : Value.okWide Try.prog W r b0 29 v) (h : DataW.Trod enc Try.prog W 0 (fun _ => true) true 29 v d p) :
    ∃ z : Int × Int, v = .agg #[.int .i64 z.1, .int .i64 z.2] ∧ in64 z.1 ∧ in64 z.2 := by
  obtain ⟨v0, v1, y0, y1, n, rfl, _, _, h0, h1⟩ := Go.Joins.open_agg2 Try.underlying29 (by kernel_rfl) (by kernel_rfl) hv h
  obtain ⟨n0, e0, _, w0⟩ := DataW.trod_int Try.underlying3 h0
  obtain ⟨n1, e1, _, w1⟩ := DataW.trod_int Try.underlying3 h1
  simp at e0 e1
  subst e0 e1
  exact ⟨(n0, n1), rfl, bounds_i64 w0, bounds_i64 w1⟩

set_option maxRecDepth 100000 in
set_option maxHeartbeats 8000000 in
theorem walk (z : Int × Int) (w : World) (hz : in64 z.1 ∧ in64 z.2) :
    Calls Try.prog 7 #[.agg #[.int .i64 z.1, .int .i64 z.2]] w fun e w' => e = .returned (.bool true) ∧ Below w.heap.size w w' := by
  obtain ⟨T, V⟩ := z
  simp only
  have HS0 := Lib.hid (heap_new w (.cells #[.int .i64 T, .int .i64 V] 29))
  have B0 := (Below.refl w.heap.size w).alloc (Nat.le_refl _) (.cells #[.int .i64 T, .int .i64 V] 29)
  have n0 : w.heap.size < (w.alloc (.cells #[.int .i64 T, .int .i64 V] 29)).heap.size := by simp
  have hz0 := Lib.hid (show (w.alloc (.cells #[.int .i64 T, .int .i64 V] 29)).heap.size = w.heap.size + 1 from by simp)
  go_enter Try.func7, Try.ntmps7
  go_wp2_with fail
  generalize w.alloc (.cells #[.int .i64 T, .int .i64 V] 29) = V0 at *
  have HZ0 : Hid (ZSer (V0.alloc (.cells #[.int .i64 0, .int .i64 0, .int .i64 0, .int .i64 0, .int .i64 0, .slice none 0 0] 54)) V0.heap.size) := Lib.hid (heap_new V0 _)
  have hS1 := Lib.hid (heap_old (o := .cells #[.int .i64 0, .int .i64 0, .int .i64 0, .int .i64 0, .int .i64 0, .slice none 0 0] 54) HS0.out)
  have B1 := B0.alloc (Nat.le_of_lt n0) (.cells #[.int .i64 0, .int .i64 0, .int .i64 0, .int .i64 0, .int .i64 0, .slice none 0 0] 54)
  have n1 : w.heap.size < (V0.alloc (.cells #[.int .i64 0, .int .i64 0, .int .i64 0, .int .i64 0, .int .i64 0, .slice none 0 0] 54)).heap.size := by simp; omega
  rw [hz0.out] at HZ0
  clear HS0 B0 n0
  generalize V0.alloc (.cells #[.int .i64 0, .int .i64 0, .int .i64 0, .int .i64 0, .int .i64 0, .slice none 0 0] 54) = W0 at *
  generalize w.heap.size + 1 = kz at HZ0 ⊢
  clear hz0
  have HN0 := HZ0
  have HS0 := hS1
  have B0 := B1
  have n0 := n1
  clear hS1 B1 n1 HZ0
  generalize hks : w.heap.size = ks at HS0 n0 ⊢
  have HKS := Lib.hid hks
  rw [hks] at B0
  clear hks
  have t0 : W0.cell? ⟨ks, 0, none⟩ = some (.int .i64 T) := by rw [cell_of HS0.out]; rfl
  have t1 : W0.cell? ⟨ks, 1, none⟩ = some (.int .i64 V) := by rw [cell_of HS0.out]; rfl
  go_wp2_with fail
  refine (sget_not none T W0 (NoS.nil _)).mono ?_
  rintro e W1 ⟨rfl, g⟩
  have HS1 := Lib.hid ((g.block ks n0).trans HS0.out)
  have HN1 := Lib.hid (HN0.out.keepB g)
  have B1 := B0.trans (g.mono (Nat.le_of_lt n0))
  have n1 := Nat.lt_of_lt_of_le n0 g.size
  clear g HS0 HN0 B0 n0 t0 t1
  have t0 : W1.cell? ⟨ks, 0, none⟩ = some (.int .i64 T) := by rw [cell_of HS1.out]; rfl
  have t1 : W1.cell? ⟨ks, 1, none⟩ = some (.int .i64 V) := by rw [cell_of HS1.out]; rfl
  go_wp2_with fail
  refine (sget_not _ T W1 (.inr ⟨kz, rfl, HN1.out⟩)).mono ?_
  rintro e W2 ⟨rfl, g⟩
  have HS2 := Lib.hid ((g.block ks n1).trans HS1.out)
  have HN2 := Lib.hid (HN1.out.keepB g)
  have B2 := B1.trans (g.mono (Nat.le_of_lt n1))
  have n2 := Nat.lt_of_lt_of_le n1 g.size
  clear g HS1 HN1 B1 n1 t0 t1
  have t0 : W2.cell? ⟨ks, 0, none⟩ = some (.int .i64 T) := by rw [cell_of HS2.out]; rfl
  have t1 : W2.cell? ⟨ks, 1, none⟩ = some (.int .i64 V) := by rw [cell_of HS2.out]; rfl
  go_wp2_with fail
  refine (slast_nil W2).mono ?_
  rintro e W3 ⟨rfl, g⟩
  have HS3 := Lib.hid ((g.block ks n2).trans HS2.out)
  have HN3 := Lib.hid (HN2.out.keepB g)
  have B3 := B2.trans (g.mono (Nat.le_of_lt n2))
  have n3 := Nat.lt_of_lt_of_le n2 g.size
  clear g HS2 HN2 B2 n2 t0 t1
  have t0 : W3.cell? ⟨ks, 0, none⟩ = some (.int .i64 T) := by rw [cell_of HS3.out]; rfl
  have t1 : W3.cell? ⟨ks, 1, none⟩ = some (.int .i64 V) := by rw [cell_of HS3.out]; rfl
  have g := (Below.refl W3.heap.size W3).alloc (Nat.le_refl _) (.cells #[.int .i64 0, .int .i64 0] 29)
  obtain ⟨W4, hx⟩ : ∃ W', W3.alloc (.cells #[.int .i64 0, .int .i64 0] 29) = W' := ⟨_, rfl⟩
  rw [hx] at g
  have HX := Lib.hid hx
  clear hx t0 t1
  have HS4 := Lib.hid ((g.block ks n3).trans HS3.out)
  have HN4 := Lib.hid (HN3.out.keepB g)
  have B4 := B3.trans (g.mono (Nat.le_of_lt n3))
  have n4 := Nat.lt_of_lt_of_le n3 g.size
  have t0 : W3.cell? ⟨ks, 0, none⟩ = some (.int .i64 T) := by rw [cell_of HS3.out]; rfl
  have t1 : W3.cell? ⟨ks, 1, none⟩ = some (.int .i64 V) := by rw [cell_of HS3.out]; rfl
  go_wp2_with fail
  rw [HX.out]
  clear g HX t0 t1 HS3 HN3 B3 n3
  have t0 : W4.cell? ⟨ks, 0, none⟩ = some (.int .i64 T) := by rw [cell_of HS4.out]; rfl
  have t1 : W4.cell? ⟨ks, 1, none⟩ = some (.int .i64 V) := by rw [cell_of HS4.out]; rfl
  refine (sadd_not none T V 0 W4 (NoS.nil _)).mono ?_
  rintro e W5 ⟨rfl, g⟩
  have HS5 := Lib.hid ((g.block ks n4).trans HS4.out)
  have HN5 := Lib.hid (HN4.out.keepB g)
  have B5 := B4.trans (g.mono (Nat.le_of_lt n4))
  have n5 := Nat.lt_of_lt_of_le n4 g.size
  clear g HS4 HN4 B4 n4 t0 t1
  have t0 : W5.cell? ⟨ks, 0, none⟩ = some (.int .i64 T) := by rw [cell_of HS5.out]; rfl
  have t1 : W5.cell? ⟨ks, 1, none⟩ = some (.int .i64 V) := by rw [cell_of HS5.out]; rfl
  go_wp2_with fail
  refine (sadd_not _ T V 0 W5 (.inr ⟨kz, rfl, HN5.out⟩)).mono ?_
  rintro e W6 ⟨rfl, g⟩
  have HS6 := Lib.hid ((g.block ks n5).trans HS5.out)
  have HN6 := Lib.hid (HN5.out.keepB g)
  have B6 := B5.trans (g.mono (Nat.le_of_lt n5))
  have n6 := Nat.lt_of_lt_of_le n5 g.size
  clear g HS5 HN5 B5 n5 t0 t1
  have t0 : W6.cell? ⟨ks, 0, none⟩ = some (.int .i64 T) := by rw [cell_of HS6.out]; rfl
  have t1 : W6.cell? ⟨ks, 1, none⟩ = some (.int .i64 V) := by rw [cell_of HS6.out]; rfl
  go_wp2_with fail
  refine (salter_not none 0 1 W6 (NoS.nil _)).mono ?_
  rintro e W7 ⟨rfl, g⟩
  have HS7 := Lib.hid ((g.block ks n6).trans HS6.out)
  have HN7 := Lib.hid (HN6.out.keepB g)
  have B7 := B6.trans (g.mono (Nat.le_of_lt n6))
  have n7 := Nat.lt_of_lt_of_le n6 g.size
  clear g HS6 HN6 B6 n6 t0 t1
  have t0 : W7.cell? ⟨ks, 0, none⟩ = some (.int .i64 T) := by rw [cell_of HS7.out]; rfl
  have t1 : W7.cell? ⟨ks, 1, none⟩ = some (.int .i64 V) := by rw [cell_of HS7.out]; rfl
  go_wp2_with fail
  refine (salter_not _ 0 1 W7 (.inr ⟨kz, rfl, HN7.out⟩)).mono ?_
  rintro e W8 ⟨rfl, g⟩
  have HS8 := Lib.hid ((g.block ks n7).trans HS7.out)
  have HN8 := Lib.hid (HN7.out.keepB g)
  have B8 := B7.trans (g.mono (Nat.le_of_lt n7))
  have n8 := Nat.lt_of_lt_of_le n7 g.size
  clear g HS7 HN7 B7 n7 t0 t1
  have t0 : W8.cell? ⟨ks, 0, none⟩ = some (.int .i64 T) := by rw [cell_of HS8.out]; rfl
  have t1 : W8.cell? ⟨ks, 1, none⟩ = some (.int .i64 V) := by rw [cell_of HS8.out]; rfl
  go_wp2_with fail
  refine (sdel_not none 0 9 W8 (NoS.nil _)).mono ?_
  rintro e W9 ⟨rfl, g⟩
  have HS9 := Lib.hid ((g.block ks n8).trans HS8.out)
  have HN9 := Lib.hid (HN8.out.keepB g)
  have B9 := B8.trans (g.mono (Nat.le_of_lt n8))
  have n9 := Nat.lt_of_lt_of_le n8 g.size
  clear g HS8 HN8 B8 n8 t0 t1
  have t0 : W9.cell? ⟨ks, 0, none⟩ = some (.int .i64 T) := by rw [cell_of HS9.out]; rfl
  have t1 : W9.cell? ⟨ks, 1, none⟩ = some (.int .i64 V) := by rw [cell_of HS9.out]; rfl
  go_wp2_with fail
  refine (sdel_not _ 0 9 W9 (.inr ⟨kz, rfl, HN9.out⟩)).mono ?_
  rintro e W10 ⟨rfl, g⟩
  have HS10 := Lib.hid ((g.block ks n9).trans HS9.out)
  have HN10 := Lib.hid (HN9.out.keepB g)
  have B10 := B9.trans (g.mono (Nat.le_of_lt n9))
  have n10 := Nat.lt_of_lt_of_le n9 g.size
  clear g HS9 HN9 B9 n9 t0 t1
  have t0 : W10.cell? ⟨ks, 0, none⟩ = some (.int .i64 T) := by rw [cell_of HS10.out]; rfl
  have t1 : W10.cell? ⟨ks, 1, none⟩ = some (.int .i64 V) := by rw [cell_of HS10.out]; rfl
  go_wp2_with fail
  refine (srange_not none 0 9 W10 (NoS.nil _)).mono ?_
  rintro e W11 ⟨a10, c10, rfl, _, g⟩
  rw [List.length_nil]
  have HS11 := Lib.hid ((g.block ks n10).trans HS10.out)
  have HN11 := Lib.hid (HN10.out.keepB g)
  have B11 := B10.trans (g.mono (Nat.le_of_lt n10))
  have n11 := Nat.lt_of_lt_of_le n10 g.size
  clear g HS10 HN10 B10 n10 t0 t1
  have t0 : W11.cell? ⟨ks, 0, none⟩ = some (.int .i64 T) := by rw [cell_of HS11.out]; rfl
  have t1 : W11.cell? ⟨ks, 1, none⟩ = some (.int .i64 V) := by rw [cell_of HS11.out]; rfl
  go_wp2_with fail
  refine (sback_not _ 0 9 W11 (.inr ⟨kz, rfl, HN11.out⟩)).mono ?_
  rintro e W12 ⟨a11, c11, rfl, _, g⟩
  rw [List.length_nil]
  have HS12 := Lib.hid ((g.block ks n11).trans HS11.out)
  have HN12 := Lib.hid (HN11.out.keepB g)
  have B12 := B11.trans (g.mono (Nat.le_of_lt n11))
  have n12 := Nat.lt_of_lt_of_le n11 g.size
  clear g HS11 HN11 B11 n11 t0 t1
  have t0 : W12.cell? ⟨ks, 0, none⟩ = some (.int .i64 T) := by rw [cell_of HS12.out]; rfl
  have t1 : W12.cell? ⟨ks, 1, none⟩ = some (.int .i64 V) := by rw [cell_of HS12.out]; rfl
  go_wp2_with fail
  refine (slen_not none W12 (NoS.nil _)).mono ?_
  rintro e W13 ⟨rfl, g⟩
  have HS13 := Lib.hid ((g.block ks n12).trans HS12.out)
  have HN13 := Lib.hid (HN12.out.keepB g)
  have B13 := B12.trans (g.mono (Nat.le_of_lt n12))
  have n13 := Nat.lt_of_lt_of_le n12 g.size
  clear g HS12 HN12 B12 n12 t0 t1
  have t0 : W13.cell? ⟨ks, 0, none⟩ = some (.int .i64 T) := by rw [cell_of HS13.out]; rfl
  have t1 : W13.cell? ⟨ks, 1, none⟩ = some (.int .i64 V) := by rw [cell_of HS13.out]; rfl
  go_wp2_with fail
  refine (smax_nil W13).mono ?_
  rintro e w' ⟨rfl, rfl⟩
  go_wp2_with fail
  refine (smax_zero kz W13 HN13.out).mono ?_
  rintro e w' ⟨rfl, rfl⟩
  go_wp2_with fail
  refine (sline_nil W13).mono ?_
  rintro e w' ⟨rfl, rfl⟩
  go_wp2_with fail
  refine (sret_nil W13).mono ?_
  rintro e w' ⟨rfl, rfl⟩
  go_wp2_with fail
  refine (spol_nil W13).mono ?_
  rintro e w' ⟨rfl, rfl⟩
  go_wp2_with fail
  refine (schunks_not none W13 (NoS.nil _)).mono ?_
  rintro e W14 ⟨rfl, g⟩
  have HS14 := Lib.hid ((g.block ks n13).trans HS13.out)
  have HN14 := Lib.hid (HN13.out.keepB g)
  have B14 := B13.trans (g.mono (Nat.le_of_lt n13))
  have n14 := Nat.lt_of_lt_of_le n13 g.size
  clear g HS13 HN13 B13 n13 t0 t1
  have t0 : W14.cell? ⟨ks, 0, none⟩ = some (.int .i64 T) := by rw [cell_of HS14.out]; rfl
  have t1 : W14.cell? ⟨ks, 1, none⟩ = some (.int .i64 V) := by rw [cell_of HS14.out]; rfl
  go_wp2_with fail
  refine (scopy_not _ W14 (.inr ⟨kz, rfl, HN14.out⟩)).mono ?_
  rintro e W15 ⟨rfl, g⟩
  have HS15 := Lib.hid ((g.block ks n14).trans HS14.out)
  have HN15 := Lib.hid (HN14.out.keepB g)
  have B15 := B14.trans (g.mono (Nat.le_of_lt n14))
  have n15 := Nat.lt_of_lt_of_le n14 g.size
  clear g HS14 HN14 B14 n14 t0 t1
  have t0 : W15.cell? ⟨ks, 0, none⟩ = some (.int .i64 T) := by rw [cell_of HS15.out]; rfl
  have t1 : W15.cell? ⟨ks, 1, none⟩ = some (.int .i64 V) := by rw [cell_of HS15.out]; rfl
  go_wp2_with fail
  refine (scopy_not none W15 (NoS.nil _)).mono ?_
  rintro e W16 ⟨rfl, g⟩
  have HS16 := Lib.hid ((g.block ks n15).trans HS15.out)
  have HN16 := Lib.hid (HN15.out.keepB g)
  have B16 := B15.trans (g.mono (Nat.le_of_lt n15))
  have n16 := Nat.lt_of_lt_of_le n15 g.size
  clear g HS15 HN15 B15 n15 t0 t1
  have t0 : W16.cell? ⟨ks, 0, none⟩ = some (.int .i64 T) := by rw [cell_of HS16.out]; rfl
  have t1 : W16.cell? ⟨ks, 1, none⟩ = some (.int .i64 V) := by rw [cell_of HS16.out]; rfl
  go_wp2_with fail
  refine (sknown_any W16).mono ?_
  rintro e W9 ⟨rfl, b9⟩
  have B9 := B16.trans (b9.mono (Nat.le_of_lt n16))
  clear b9
  go_wp2
  go_ret
  exact ⟨rfl, by rw [HKS.out]; exact B9⟩
set_option maxRecDepth 100000 in
theorem lifted (os : Os) (started : os.Started) (H : Type) (enc : TypeId × Value → H) :
    ReturnsInHanded {} Try.checked os 7 .any (Rows.seriesNilSpec.pre6 enc Try.prog Try.f7 Rows.seriesNilRow.domain false) (Rows.seriesNilSpec.post enc Try.prog Try.f7 false true false false) := by
  refine returnsInHanded_of_change (C := Try.checked) own started (by kernel_rfl) Try.func7
    (ChangeSpec.witness6 (enc := enc) (C := Try.checked) false ⟨#[], #[.agg #[.int .i64 0, .int .i64 0]], []⟩ 8 (by kernel_rfl) (by kernel_rfl) (by kernel_rfl) (by kernel_rfl)) ?_
  intro W base args ds gs before hval0 hW hcnd _
  have hval : ∀ (j : Nat) t v, Try.f7.params[j]? = some t → args[j]? = some v → Value.okWide Try.prog W .any base t v := hval0
  have hW' := hW
  obtain ⟨p, q, hA0, hV, rfl, hfz, hnd⟩ := hW
  have hA : DataW.TrodAll enc Try.prog W 0 (fun _ => true) true Try.f7.params.toList args.toList ds p := hA0
  rw [Try.params7] at hA hval
  obtain ⟨v0, vs0, d0, ds0, p0, q0, hargs, rfl, rfl, h0, r0⟩ := trodAll_cons hA
  obtain ⟨rfl, rfl, rfl⟩ := trodAll_nil r0
  obtain rfl : args = #[v0] := by cases args; simp_all
  obtain ⟨rfl, rfl⟩ := trodVars_none hV
  have k0 := h0
  have lt0 : ∀ x ∈ p0, x.block < W.heap.size := by obtain ⟨m, hm⟩ := k0; exact DataW.trod_lt m _ _ _ hm
  obtain ⟨a0, rfl, w0⟩ := open_sample (hval 0 29 v0 rfl rfl) h0
  clear hA0 hval0
  refine (walk a0 W w0).mono fun e W' ⟨he, bel⟩ => ?_
  subst he
  exact ⟨_, rfl, _, _, _, [], _, [], hW', trodAll_mk1 (shut_bool Try.underlying4 _), (trodAll_cons_mk (Below.trod laidOut (by kernel_rfl) (of_decide_eq_true (by kernel_rfl)) k0 bel lt0) trodAll_mk0), rfl, bel.frame _, fun h => by cases h⟩

theorem over : Rows.seriesNilRow.holds Try.pinned (OpenSpec.ofChange Rows.seriesNilSpec) :=
  OpenClaim.holds_of_wide 7 Try.f7 rfl rfl rfl rfl rfl rfl rfl ⟨rfl, rfl, rfl, rfl, rfl⟩ rfl rfl rfl rfl rfl (by kernel_rfl) Try.func7 (by kernel_rfl)
    (of_decide_eq_true (by kernel_rfl)) (by unfold Func.isWrapper; first | (rw [if_pos (by decide +kernel)]; kernel_rfl) | (rw [if_neg (by decide +kernel)]; exact ⟨rfl, rfl⟩))
    (fun os started H enc _ => lifted os started H enc)

theorem proved : Rows.SeriesNilSaid := over
end seriesNil
theorem seriesNil_holds : Rows.SeriesNilSaid := seriesNil.proved
#print axioms seriesNil_holds
end Go.Proofs.Ytpbhdlhbcfkhfaa
