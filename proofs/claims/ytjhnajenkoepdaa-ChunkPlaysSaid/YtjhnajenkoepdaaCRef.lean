/-
  Contracts of the document's own answer for layer 4: Bits, Insert.
  Condition: fewer than 1000 samples.
-/
import Derived.Test.YtjhnajenkoepdaaCApp
import Derived.Test.YtjhnajenkoepdaaCTake
import Derived.Test.YtjhnajenkoepdaaREnc
import Derived.Test.YtjhnajenkoepdaaPRMerge
namespace Go.Proofs.Ytjhnajenkoepdaa
open Go.RowKit
set_option linter.unusedVariables false
set_option linter.unusedSimpArgs false

/-- The document's chunk. -/
def RCk (w : World) (b : Nat) (sz : Int) (z : List (Int × Int)) : Prop := CAt 61 w b sz z

theorem rbits_lst (a : Option Addr) (len cap : Nat) (z : List (Int × Int)) (w : World) (hz : Lst w a len cap z) (hl : len ≤ 1000) :
    Calls Try.prog 31 #[.slice a len cap] w (NumP (bitsZ z) w) := by
  have HZ := Lib.hid hz.1
  obtain rfl := hz.len
  clear hz
  go_enter Try.func31, Try.ntmps31
  go_wp2_with fail
  refine (rencode_any a _ cap z _ HZ.out hl).mono ?_
  rintro e W1 ⟨v, rfl, hown, b1⟩
  obtain ⟨ad, cp, rfl, _, _⟩ := owns_bools hown
  clear hown
  go_wp2
  go_ret
  exact ⟨rfl, b1⟩

/-- A row of the call's own, as a list. -/
theorem owns_lst {W : World} {base : Nat} {v : Value} {z : List (Int × Int)} {n : Nat} (hn : z.length = n) (hz : All64 z) (hb : n ≤ 1048576) (hown : W.ownsRow base 31 2 v n (smpCells z)) :
    ∃ ad cp, v = .slice ad n cp ∧ Lst W ad n cp z := by
  subst hn
  obtain ⟨ad, cp, rfl, hs, _⟩ := owns_samps hz (by omega) hown
  refine ⟨ad, cp, rfl, hs, ?_⟩
  rcases hown.2 with ⟨h, h0⟩ | ⟨g, cp', cur, h, hgb, hgc, _⟩
  · exact .inl h0
  · cases h
    exact .inr ⟨⟨g, 0, none⟩, cur, _, rfl, hgc⟩

def InsErrP (er : Int) (w : World) (e : Ending) (w' : World) : Prop := e = .returned (.tuple #[.slice none 0 0, .int .i64 er]) ∧ Below w.heap.size w w'
def InsOkP (l : List (Int × Int)) (N : Nat) (w : World) (e : Ending) (w' : World) : Prop := ∃ a cap, e = .returned (.tuple #[.slice a N cap, .int .i64 0]) ∧ Lst w' a N cap l ∧ Below w.heap.size w w'
/-- What is inserted, or why not. -/
def InsP (z : List (Int × Int)) (T V p : Int) (w : World) (e : Ending) (w' : World) : Prop :=
  ((T < 0 ∨ 1099511627776 ≤ T) ∧ InsErrP 1 w e w') ∨
  (¬ (T < 0 ∨ 1099511627776 ≤ T) ∧ (newV z T V p).2 ≠ 0 ∧ InsErrP (newV z T V p).2 w e w') ∨
  (¬ (T < 0 ∨ 1099511627776 ≤ T) ∧ (newV z T V p).2 = 0 ∧ InsOkP (insL z T (newV z T V p).1) (insL z T (newV z T V p).1).length w e w')

theorem one_lst (w : World) (T V : Int) (hT : in64 T) (hV : in64 V) : Lst (w.alloc (.cells #[.int .i64 T, .int .i64 V] 31)) (some ⟨w.heap.size, 0, none⟩) 1 1 [(T, V)] :=
  lst_whole (all64_one hT hV) rfl (by omega) (heap_new w _)

set_option maxRecDepth 100000 in
set_option maxHeartbeats 8000000 in
theorem insert_any (a : Option Addr) (len cap : Nat) (z : List (Int × Int)) (T V p : Int) (w : World) (hz : Lst w a len cap z) (hr : Rising z) (hl : len ≤ 999) (hT : in64 T) (hV : in64 V) :
    Calls Try.prog 47 #[.slice a len cap, .agg #[.int .i64 T, .int .i64 V], .int .i64 p] w (InsP z T V p w) := by
  have hnew := Lib.hid (heap_new w (.cells #[.int .i64 T, .int .i64 V] 31))
  have B1 := (Below.refl w.heap.size w).alloc (Nat.le_refl _) (.cells #[.int .i64 T, .int .i64 V] 31)
  have s1 : w.heap.size < (w.alloc (.cells #[.int .i64 T, .int .i64 V] 31)).heap.size := by simp
  have hz1 := hz.keepN (World.grownBy_alloc w (.cells #[.int .i64 T, .int .i64 V] 31) none)
  have h64 := Lib.hid hz.all64
  have HLN := Lib.hid hz.len
  have HL0 := Lib.hid hz
  clear hz
  by_cases hbad : T < 0 ∨ 1099511627776 ≤ T
  · have HB := Lib.hid hbad
    rcases hbad with hbad | hbad
    all_goals
      go_enter Try.func47, Try.ntmps47
      go_wp2
      go_ret2
      exact .inl ⟨HB.out, rfl, B1⟩
  have hT0 : 0 ≤ T := by omega
  have hT1 : T < 1099511627776 := by omega
  have HB := Lib.hid hbad
  have hk : bef z T ≤ len := by rw [← HLN.out]; exact bef_le z T
  have hu : upt z T ≤ len := by rw [← HLN.out]; exact upt_le z T
  have hku := bef_le_upt hr T
  have hku1 := upt_le_bef hr T
  have HBI := Lib.hid (bef_iff hr T)
  have HAT := Lib.hid (at_time hr T)
  have HR := Lib.hid hr
  obtain ⟨a2, hs2, LB⟩ := lst_from HL0.out (upt z T) hu
  obtain ⟨m, hm⟩ : ∃ m, len - upt z T = m := ⟨_, rfl⟩
  rw [hm] at hs2 LB
  generalize cap - upt z T = c2 at hs2 LB
  have hml : upt z T + m = len := by omega
  have HML := Lib.hid hml
  have hm1 : m ≤ 999 := by omega
  have hk1 : bef z T ≤ 999 := by omega
  have HLB := Lib.hid LB
  have HS2 := Lib.hid hs2
  have HL1 := Lib.hid hz1
  clear LB hs2 hz1 hr hbad hm hml
  go_enter Try.func47, Try.ntmps47
  go_wp2_with fail
  generalize w.alloc (.cells #[.int .i64 T, .int .i64 V] 31) = W1 at *
  have t0 : W1.cell? ⟨w.heap.size, 0, none⟩ = some (.int .i64 T) := by rw [cell_of hnew.out]; rfl
  have t1 : W1.cell? ⟨w.heap.size, 1, none⟩ = some (.int .i64 V) := by rw [cell_of hnew.out]; rfl
  go_wp2_with fail
  clear t0 t1
  go_loopw [8, 9] (fun o i wr => ∃ j : Nat, j ≤ bef z T ∧ i = .int .i64 (j : Int) ∧ wr.ownsRow W1.heap.size 31 2 o j (smpCells (z.take j)) ∧ Below W1.heap.size W1 wr) (fun _ i _ => len - (intOf i).toNat)
  case atStart => exact ⟨0, Nat.zero_le _, rfl, World.ownsRow_nil _ _ _ _, Below.refl _ _⟩
  case round =>
    obtain ⟨j, hj, rfl, hown, B2⟩ := hrel
    have s2 := B2.size
    have t0 : wr.cell? ⟨w.heap.size, 0, none⟩ = some (.int .i64 T) := by rw [B2.cell s1, cell_of hnew.out]; rfl
    have t1 : wr.cell? ⟨w.heap.size, 1, none⟩ = some (.int .i64 V) := by rw [B2.cell s1, cell_of hnew.out]; rfl
    have hj0 : (0 : Int) ≤ (j : Int) := by omega
    by_cases hjb : j < bef z T
    · have hjl : j < len := by omega
      obtain ⟨q, o, rfl, hq, x0, x1⟩ := HL1.out.1.at_ j hjl
      have X0 := Lib.hid x0
      have X1 := Lib.hid x1
      rw [← B2.cell hq] at x0 x1
      have hlt := (HBI.out j (by rw [HLN.out]; exact hjl)).2 hjb
      have hj1 : (j : Int) < (len : Int) := by omega
      have hdec : decide ((j : Int) < (len : Int)) = true := decide_eq_true hj1
      have hdec2 : decide (tOf z j < T) = true := decide_eq_true hlt
      have HTK := Lib.hid (show z.take (j + 1) = z.take j ++ [(tOf z j, vOf z j)] from by
        have h1 : j < z.length := by rw [HLN.out]; exact hjl
        rw [List.take_succ_eq_append_getElem h1]
        congr 2
        unfold tOf vOf
        rw [List.getD_eq_getElem?_getD, List.getElem?_eq_getElem h1]; rfl)
      have HTL := Lib.hid (show (z.take j).length = j from by rw [List.length_take, HLN.out]; omega)
      have h6 := all64_at h64.out j
      generalize tOf z j = Tj at *
      generalize vOf z j = Vj at *
      go_wp2_with fail
      go_quiet (fail)
      have dq : Drew wr (wr.drewN nq) := ⟨nq, rfl⟩
      have o3 := hown.kept (dq.gb none) (by simp; exact Classical.em _)
      have B3 := bel_gbn B2 s2 (dq.gb none)
      have s3 : W1.heap.size ≤ (wr.drewN nq).heap.size := s2
      clear hown B2 s2 t0 t1 x0 x1 dq hdec hdec2
      generalize wr.drewN nq = W3 at *
      have x0 : W3.cell? ⟨q, o + j * 2, none⟩ = some (.int .i64 Tj) := by rw [B3.cell hq]; exact X0.out
      have x1 : W3.cell? ⟨q, o + j * 2 + 1, none⟩ = some (.int .i64 Vj) := by rw [B3.cell hq]; exact X1.out
      have LS := one_lst W3 Tj Vj h6.1 h6.2
      have o4 := o3.alloc (.cells #[.int .i64 Tj, .int .i64 Vj] 31)
      have B4 := B3.alloc s3 (.cells #[.int .i64 Tj, .int .i64 Vj] 31)
      have s4 : W1.heap.size ≤ (W3.alloc (.cells #[.int .i64 Tj, .int .i64 Vj] 31)).heap.size := by simp; omega
      go_wp2_with (at_builtin; (refine wpList_append_lst ?_ (.tmp 34) (.tmp 39) rfl W1.heap.size _ j (z.take j) rfl HTL.out o4 _ 1 1 [(Tj, Vj)] rfl LS (by omega) s4 ?_))
      intro v5 W5 o5 g5
      have B5 := B4.grown g5 s4 (fun k hk => (o4.lt k hk).1)
      clear o3 o4 LS B3 B4 s3 s4 x0 x1 g5
      go_wp2
      go_roundw
      case rel => exact ⟨j + 1, by omega, by go_num, by rw [HTK.out]; exact o5, B5⟩
      case measure => simp [intOf]; omega
    · obtain rfl : bef z T = j := by omega
      have HTL := Lib.hid (show (z.take (bef z T)).length = bef z T from by rw [List.length_take, HLN.out]; omega)
      have HNV := Lib.hid (show newV z T V p = if bef z T < upt z T then mergeS p (vOf z (bef z T)) V else (V, 0) from rfl)
      have HVIN := Lib.hid (newV_in (t := T) (p := p) h64.out hV)
      have Bw := B1.trans (B2.mono (Nat.le_of_lt s1))
      have hn2 : Hid (wr.heap[w.heap.size]? = _) := Lib.hid ((B2.block w.heap.size s1).trans hnew.out)
      have HINS := Lib.hid (show ∀ x, insL z T x = z.take (bef z T) ++ [(T, x)] ++ z.drop (upt z T) from fun x => rfl)
      have HI64 := Lib.hid (show ∀ x, in64 x → All64 (insL z T x) from fun x hx => insL_all64 h64.out hT hx)
      by_cases hat : bef z T < upt z T
      · obtain ⟨hkl, hTe⟩ := HAT.out.1 hat
        rw [HLN.out] at hkl
        obtain ⟨x, er, M⟩ : ∃ x er, Hid (mergeS p (vOf z (bef z T)) V = (x, er)) := ⟨_, _, Lib.hid rfl⟩
        have HV0 := Lib.hid (show newV z T V p = (x, er) from by rw [HNV.out, if_pos hat, M.out])
        have hx64 : in64 x := by have := HVIN.out; rw [HV0.out] at this; exact this
        have hup : upt z T = bef z T + 1 := by omega
        have HUP := Lib.hid hup
        have HMG := Lib.hid (show ∀ W, Calls Try.prog 57 #[.int .i64 p, .int .i64 (vOf z (bef z T)), .int .i64 V] W fun e w' => e = .returned (.tuple #[.int .i64 x, .int .i64 er]) ∧ W = w' from fun W => by
          have := rmerge_any p (vOf z (bef z T)) V W (all64_at h64.out _).2 hV
          rw [M.out] at this; exact this)
        obtain ⟨q, o, rfl, hq, x0, x1⟩ := HL0.out.1.at_ (bef z T) hkl
        have X1 := Lib.hid x1
        rw [hTe] at x0
        have X0 := Lib.hid x0
        rw [← Bw.cell hq] at x0 x1
        have hj1 : ((bef z T : Nat) : Int) < (len : Int) := by omega
        have hdec : decide (((bef z T : Nat) : Int) < (len : Int)) = true := decide_eq_true hj1
        have hdec2 : decide (T < T) = false := by simp
        clear hup hTe hat HNV
        go_wp2_with fail
        go_quiet (fail)
        have dq : Drew wr (wr.drewN nq) := ⟨nq, rfl⟩
        have o3 := hown.kept (dq.gb none) (by simp; exact Classical.em _)
        have B3 := bel_gbn Bw (by have := Bw.size; omega) (dq.gb none)
        have s3 : W1.heap.size ≤ (wr.drewN nq).heap.size := s2
        have hn3 : Hid ((wr.drewN nq).heap[w.heap.size]? = some (.cells #[.int .i64 T, .int .i64 V] 31 (0, 0))) := hn2
        clear hown B2 Bw s2 t0 t1 x0 x1 dq hn2 hdec2
        generalize wr.drewN nq = W3 at *
        have t0 : W3.cell? ⟨w.heap.size, 0, none⟩ = some (.int .i64 T) := by rw [cell_of hn3.out]; rfl
        have t1 : W3.cell? ⟨w.heap.size, 1, none⟩ = some (.int .i64 V) := by rw [cell_of hn3.out]; rfl
        have x0 : W3.cell? ⟨q, o + bef z T * 2, none⟩ = some (.int .i64 T) := by rw [B3.cell hq]; exact X0.out
        have x1 : W3.cell? ⟨q, o + bef z T * 2 + 1, none⟩ = some (.int .i64 (vOf z (bef z T))) := by rw [B3.cell hq]; exact X1.out
        have hdec3 : (T == T) = true := by simp
        go_wp2_with fail
        go_quiet (fail)
        have dq : Drew W3 (W3.drewN nq) := ⟨nq, rfl⟩
        have o4 := o3.kept (dq.gb none) (by simp; exact Classical.em _)
        have B4 := bel_gbn B3 (by have := B3.size; omega) (dq.gb none)
        have s4 : W1.heap.size ≤ (W3.drewN nq).heap.size := s3
        have hn4 : Hid ((W3.drewN nq).heap[w.heap.size]? = some (.cells #[.int .i64 T, .int .i64 V] 31 (0, 0))) := hn3
        clear o3 B3 s3 t0 t1 x0 x1 dq hn3 hdec hdec3
        generalize W3.drewN nq = W4 at *
        have t0 : W4.cell? ⟨w.heap.size, 0, none⟩ = some (.int .i64 T) := by rw [cell_of hn4.out]; rfl
        have t1 : W4.cell? ⟨w.heap.size, 1, none⟩ = some (.int .i64 V) := by rw [cell_of hn4.out]; rfl
        have x1 : W4.cell? ⟨q, o + bef z T * 2 + 1, none⟩ = some (.int .i64 (vOf z (bef z T))) := by rw [B4.cell hq]; exact X1.out
        generalize vOf z (bef z T) = v0 at *
        go_wp2_with fail
        go_quiet ((go_at_call 57; with_reducible exact quietL (HMG.out _)))
        have dq : Drew W4 (W4.drewN nq) := ⟨nq, rfl⟩
        have o5 := o4.kept (dq.gb none) (by simp; exact Classical.em _)
        have B5 := bel_gbn B4 (by have := B4.size; omega) (dq.gb none)
        have s5 : W1.heap.size ≤ (W4.drewN nq).heap.size := s4
        have hn5 : Hid ((W4.drewN nq).heap[w.heap.size]? = some (.cells #[.int .i64 T, .int .i64 V] 31 (0, 0))) := hn4
        clear o4 B4 s4 t0 t1 x1 dq hn4
        generalize W4.drewN nq = W5 at *
        by_cases her : er = 0
        · have hV6 := hx64
          have HOUT := Lib.hid (show (newV z T V p).2 = 0 ∧ (newV z T V p).1 = x from by rw [HV0.out]; exact ⟨her, rfl⟩)
          have t0 : W5.cell? ⟨w.heap.size, 0, none⟩ = some (.int .i64 T) := by rw [cell_of hn5.out]; rfl
          have t1 : W5.cell? ⟨w.heap.size, 1, none⟩ = some (.int .i64 V) := by rw [cell_of hn5.out]; rfl
          have f1 := frozen_of (o := 1) hn5.out
          have B6 := B5.setCell (p := ⟨w.heap.size, 1, none⟩) (Nat.le_refl _) (.int .i64 x)
          have o6 := o5.kept (row := some w.heap.size) (gb_set (gb_refl W5 (some w.heap.size)) 1 (.int .i64 x)) (by
            by_cases hnn : u8.ownBlock = none
            · exact .inl hnn
            · right; intro e; have := o5.lt _ e; omega)
          have hn6 := heap_set (o := 1) (v := .int .i64 x) hn5.out
          have s6 : W1.heap.size ≤ (W5.setCell ⟨w.heap.size, 1, none⟩ (.int .i64 x)).heap.size := by simp [World.setCell]; exact s5
          have HS6 := Lib.hid (show W5.heap.size = (W5.setCell ⟨w.heap.size, 1, none⟩ (.int .i64 x)).heap.size from by simp [World.setCell])
          have u0 : (W5.setCell ⟨w.heap.size, 1, none⟩ (.int .i64 x)).cell? ⟨w.heap.size, 0, none⟩ = some (.int .i64 T) := by rw [cell_of hn6]; rfl
          have u1 : (W5.setCell ⟨w.heap.size, 1, none⟩ (.int .i64 x)).cell? ⟨w.heap.size, 1, none⟩ = some (.int .i64 x) := by rw [cell_of hn6]; rfl
          have hne0 : (er != 0) = false := by rw [her]; rfl
          have hsl : ∀ W : World, (Instr.slice 43 (.slice (some ⟨q, o, none⟩) len cap) (some (.int .i64 (((bef z T : Nat) : Int) + 1))) none none).run Try.prog W = .ok (.slice a2 m c2) W := fun W => by
            have := HS2.out W
            rw [HUP.out, show ((bef z T + 1 : Nat) : Int) = ((bef z T : Nat) : Int) + 1 from by omega] at this
            exact this
          have hsl0 := trivial
          clear hn6 her hn5
          have LS := one_lst (W5.setCell ⟨w.heap.size, 1, none⟩ (.int .i64 x)) T x hT hV6
          rw [← HS6.out] at LS
          have o7 := o6.alloc (.cells #[.int .i64 T, .int .i64 x] 31)
          have B7 := B6.alloc (by have := B6.size; omega) (.cells #[.int .i64 T, .int .i64 x] 31)
          have s7 : W1.heap.size ≤ ((W5.setCell ⟨w.heap.size, 1, none⟩ (.int .i64 x)).alloc (.cells #[.int .i64 T, .int .i64 x] 31)).heap.size := by simp; omega
          go_wp2_with (at_builtin; (refine wpList_append_lst ?_ (.tmp 76) (.tmp 78) rfl W1.heap.size _ (bef z T) (z.take (bef z T)) rfl HTL.out o7 _ 1 1 [(T, x)] rfl LS (by omega) s7 ?_))
          intro v8 W8 o8 g8
          have B8 : Below w.heap.size w W8 := B7.grown g8 (by have := B7.size; omega) (fun k hk => by have := o7.lt k hk; omega)
          have s8 : W1.heap.size ≤ W8.heap.size := Nat.le_trans s7 g8.size
          have LB8 := HLB.out.keepB B8
          have HT8 := Lib.hid (show (z.take (bef z T) ++ [(T, x)]).length = bef z T + 1 from by rw [List.length_append, HTL.out]; rfl)
          clear LS o7 B7 s7 g8 hsl0 u0 u1 t0 t1 f1
          go_wp2_with (at_builtin; (refine wpList_append_lst ?_ (.tmp 80) (.tmp 83) rfl W1.heap.size _ (bef z T + 1) (z.take (bef z T) ++ [(T, x)]) rfl HT8.out o8 _ m c2 (z.drop (upt z T)) rfl LB8 (by omega) s8 ?_))
          intro v9 W9 o9 g9
          have B9 : Below w.heap.size w W9 := B8.grown g9 (by have := B8.size; omega) (fun k hk => by have := o8.lt k hk; omega)
          rw [show z.take (bef z T) ++ (T, x) :: z.drop (upt z T) = insL z T x from by rw [HINS.out]; simp] at o9
          have HLEN := Lib.hid (show (insL z T x).length = bef z T + 1 + m from by
            rw [HINS.out, List.length_append, HT8.out, List.length_drop, HLN.out]; have := HML.out; omega)
          obtain ⟨ad, cp, rfl, L9⟩ := owns_lst HLEN.out (HI64.out x hV6) (by omega) o9
          clear o9 o8 B8 s8 LB8 g9
          go_wp2
          go_ret2
          refine .inr (.inr ⟨HB.out, HOUT.out.1, ad, cp, ?_, ?_, B9⟩)
          · rw [HOUT.out.2, HLEN.out]; rfl
          · rw [HOUT.out.2, HLEN.out]; exact L9
        · have hne : (er != 0) = true := by rw [bne_iff_ne]; exact her
          have HOUT := Lib.hid (show (newV z T V p).2 ≠ 0 ∧ (newV z T V p).2 = er from by rw [HV0.out]; exact ⟨her, rfl⟩)
          clear her
          go_wp2
          go_ret2
          exact .inr (.inl ⟨HB.out, HOUT.out.1, by rw [HOUT.out.2]; exact ⟨rfl, B5⟩⟩)
      · have hup : upt z T = bef z T := by omega
        have HUP := Lib.hid hup
        have hV6 := hV
        have HOUT := Lib.hid (show (newV z T V p).2 = 0 ∧ (newV z T V p).1 = V from by rw [HNV.out, if_neg hat]; exact ⟨rfl, rfl⟩)
        have hsl : ∀ W : World, (Instr.slice 43 (.slice a len cap) (some (.int .i64 ((bef z T : Nat) : Int))) none none).run Try.prog W = .ok (.slice a2 m c2) W := fun W => by
          have := HS2.out W
          rw [HUP.out] at this
          exact this
        clear hup
        by_cases hkl : bef z T < len
        · have hTn : ¬ tOf z (bef z T) = T := fun e => hat (HAT.out.2 ⟨by rw [HLN.out]; exact hkl, e⟩)
          have hTl : ¬ tOf z (bef z T) < T := fun e => by have := (HBI.out (bef z T) (by rw [HLN.out]; exact hkl)).1 e; omega
          obtain ⟨q, o, rfl, hq, x0, x1⟩ := HL0.out.1.at_ (bef z T) hkl
          have X0 := Lib.hid x0
          rw [← Bw.cell hq] at x0 x1
          have hj1 : ((bef z T : Nat) : Int) < (len : Int) := by omega
          have hdec : decide (((bef z T : Nat) : Int) < (len : Int)) = true := decide_eq_true hj1
          have hdec2 : decide (tOf z (bef z T) < T) = false := decide_eq_false hTl
          have hdec3 : (tOf z (bef z T) == T) = false := by rw [beq_eq_false_iff_ne]; exact hTn
          clear hat hTn hTl HNV
          go_wp2_with fail
          go_quiet (fail)
          have dq : Drew wr (wr.drewN nq) := ⟨nq, rfl⟩
          have o3 := hown.kept (dq.gb none) (by simp; exact Classical.em _)
          have B3 := bel_gbn Bw (by have := Bw.size; omega) (dq.gb none)
          have s3 : W1.heap.size ≤ (wr.drewN nq).heap.size := s2
          have hn3 : Hid ((wr.drewN nq).heap[w.heap.size]? = some (.cells #[.int .i64 T, .int .i64 V] 31 (0, 0))) := hn2
          clear hown B2 Bw s2 t0 t1 x0 x1 dq hn2 hdec2
          generalize wr.drewN nq = W3 at *
          have t0 : W3.cell? ⟨w.heap.size, 0, none⟩ = some (.int .i64 T) := by rw [cell_of hn3.out]; rfl
          have t1 : W3.cell? ⟨w.heap.size, 1, none⟩ = some (.int .i64 V) := by rw [cell_of hn3.out]; rfl
          have x0 : W3.cell? ⟨q, o + bef z T * 2, none⟩ = some (.int .i64 (tOf z (bef z T))) := by rw [B3.cell hq]; exact X0.out
          generalize tOf z (bef z T) = Tb at *
          go_wp2_with fail
          go_quiet (fail)
          have dq : Drew W3 (W3.drewN nq) := ⟨nq, rfl⟩
          have o4 := o3.kept (dq.gb none) (by simp; exact Classical.em _)
          have B4 := bel_gbn B3 (by have := B3.size; omega) (dq.gb none)
          have s4 : W1.heap.size ≤ (W3.drewN nq).heap.size := s3
          have hn4 : Hid ((W3.drewN nq).heap[w.heap.size]? = some (.cells #[.int .i64 T, .int .i64 V] 31 (0, 0))) := hn3
          clear o3 B3 s3 t0 t1 x0 dq hn3 hdec
          generalize W3.drewN nq = W4 at *
          have t0 : W4.cell? ⟨w.heap.size, 0, none⟩ = some (.int .i64 T) := by rw [cell_of hn4.out]; rfl
          have t1 : W4.cell? ⟨w.heap.size, 1, none⟩ = some (.int .i64 V) := by rw [cell_of hn4.out]; rfl

          have LS := one_lst W4 T V hT hV6
          have o7 := o4.alloc (.cells #[.int .i64 T, .int .i64 V] 31)
          have B7 := B4.alloc (by have := B4.size; omega) (.cells #[.int .i64 T, .int .i64 V] 31)
          have s7 : W1.heap.size ≤ (W4.alloc (.cells #[.int .i64 T, .int .i64 V] 31)).heap.size := by simp; omega
          go_wp2_with (at_builtin; (refine wpList_append_lst ?_ (.tmp 76) (.tmp 78) rfl W1.heap.size _ (bef z T) (z.take (bef z T)) rfl HTL.out o7 _ 1 1 [(T, V)] rfl LS (by omega) s7 ?_))
          intro v8 W8 o8 g8
          have B8 : Below w.heap.size w W8 := B7.grown g8 (by have := B7.size; omega) (fun k hk => by have := o7.lt k hk; omega)
          have s8 : W1.heap.size ≤ W8.heap.size := Nat.le_trans s7 g8.size
          have LB8 := HLB.out.keepB B8
          have HT8 := Lib.hid (show (z.take (bef z T) ++ [(T, V)]).length = bef z T + 1 from by rw [List.length_append, HTL.out]; rfl)
          clear LS o7 B7 s7 g8 t0 t1
          go_wp2_with (at_builtin; (refine wpList_append_lst ?_ (.tmp 80) (.tmp 83) rfl W1.heap.size _ (bef z T + 1) (z.take (bef z T) ++ [(T, V)]) rfl HT8.out o8 _ m c2 (z.drop (upt z T)) rfl LB8 (by omega) s8 ?_))
          intro v9 W9 o9 g9
          have B9 : Below w.heap.size w W9 := B8.grown g9 (by have := B8.size; omega) (fun k hk => by have := o8.lt k hk; omega)
          rw [show z.take (bef z T) ++ (T, V) :: z.drop (upt z T) = insL z T V from by rw [HINS.out]; simp] at o9
          have HLEN := Lib.hid (show (insL z T V).length = bef z T + 1 + m from by
            rw [HINS.out, List.length_append, HT8.out, List.length_drop, HLN.out]; have := HML.out; omega)
          obtain ⟨ad, cp, rfl, L9⟩ := owns_lst HLEN.out (HI64.out V hV6) (by omega) o9
          clear o9 o8 B8 s8 LB8 g9
          go_wp2
          go_ret2
          refine .inr (.inr ⟨HB.out, HOUT.out.1, ad, cp, ?_, ?_, B9⟩)
          · rw [HOUT.out.2, HLEN.out]; rfl
          · rw [HOUT.out.2, HLEN.out]; exact L9
        · have hdec : decide (((bef z T : Nat) : Int) < (len : Int)) = false := by rw [decide_eq_false_iff_not]; omega
          clear hat HNV
          go_wp2_with fail
          go_quiet (fail)
          have dq : Drew wr (wr.drewN nq) := ⟨nq, rfl⟩
          have o3 := hown.kept (dq.gb none) (by simp; exact Classical.em _)
          have B3 := bel_gbn Bw (by have := Bw.size; omega) (dq.gb none)
          have s3 : W1.heap.size ≤ (wr.drewN nq).heap.size := s2
          have hn3 : Hid ((wr.drewN nq).heap[w.heap.size]? = some (.cells #[.int .i64 T, .int .i64 V] 31 (0, 0))) := hn2
          clear hown B2 Bw s2 t0 t1 dq hn2
          generalize wr.drewN nq = W3 at *
          have t0 : W3.cell? ⟨w.heap.size, 0, none⟩ = some (.int .i64 T) := by rw [cell_of hn3.out]; rfl
          have t1 : W3.cell? ⟨w.heap.size, 1, none⟩ = some (.int .i64 V) := by rw [cell_of hn3.out]; rfl
          have x0 := trivial
          go_wp2_with fail
          go_quiet (fail)
          have dq : Drew W3 (W3.drewN nq) := ⟨nq, rfl⟩
          have o4 := o3.kept (dq.gb none) (by simp; exact Classical.em _)
          have B4 := bel_gbn B3 (by have := B3.size; omega) (dq.gb none)
          have s4 : W1.heap.size ≤ (W3.drewN nq).heap.size := s3
          have hn4 : Hid ((W3.drewN nq).heap[w.heap.size]? = some (.cells #[.int .i64 T, .int .i64 V] 31 (0, 0))) := hn3
          clear o3 B3 s3 t0 t1 x0 dq hn3 hdec
          generalize W3.drewN nq = W4 at *
          have t0 : W4.cell? ⟨w.heap.size, 0, none⟩ = some (.int .i64 T) := by rw [cell_of hn4.out]; rfl
          have t1 : W4.cell? ⟨w.heap.size, 1, none⟩ = some (.int .i64 V) := by rw [cell_of hn4.out]; rfl

          have LS := one_lst W4 T V hT hV6
          have o7 := o4.alloc (.cells #[.int .i64 T, .int .i64 V] 31)
          have B7 := B4.alloc (by have := B4.size; omega) (.cells #[.int .i64 T, .int .i64 V] 31)
          have s7 : W1.heap.size ≤ (W4.alloc (.cells #[.int .i64 T, .int .i64 V] 31)).heap.size := by simp; omega
          go_wp2_with (at_builtin; (refine wpList_append_lst ?_ (.tmp 76) (.tmp 78) rfl W1.heap.size _ (bef z T) (z.take (bef z T)) rfl HTL.out o7 _ 1 1 [(T, V)] rfl LS (by omega) s7 ?_))
          intro v8 W8 o8 g8
          have B8 : Below w.heap.size w W8 := B7.grown g8 (by have := B7.size; omega) (fun k hk => by have := o7.lt k hk; omega)
          have s8 : W1.heap.size ≤ W8.heap.size := Nat.le_trans s7 g8.size
          have LB8 := HLB.out.keepB B8
          have HT8 := Lib.hid (show (z.take (bef z T) ++ [(T, V)]).length = bef z T + 1 from by rw [List.length_append, HTL.out]; rfl)
          clear LS o7 B7 s7 g8 t0 t1
          go_wp2_with (at_builtin; (refine wpList_append_lst ?_ (.tmp 80) (.tmp 83) rfl W1.heap.size _ (bef z T + 1) (z.take (bef z T) ++ [(T, V)]) rfl HT8.out o8 _ m c2 (z.drop (upt z T)) rfl LB8 (by omega) s8 ?_))
          intro v9 W9 o9 g9
          have B9 : Below w.heap.size w W9 := B8.grown g9 (by have := B8.size; omega) (fun k hk => by have := o8.lt k hk; omega)
          rw [show z.take (bef z T) ++ (T, V) :: z.drop (upt z T) = insL z T V from by rw [HINS.out]; simp] at o9
          have HLEN := Lib.hid (show (insL z T V).length = bef z T + 1 + m from by
            rw [HINS.out, List.length_append, HT8.out, List.length_drop, HLN.out]; have := HML.out; omega)
          obtain ⟨ad, cp, rfl, L9⟩ := owns_lst HLEN.out (HI64.out V hV6) (by omega) o9
          clear o9 o8 B8 s8 LB8 g9
          go_wp2
          go_ret2
          refine .inr (.inr ⟨HB.out, HOUT.out.1, ad, cp, ?_, ?_, B9⟩)
          · rw [HOUT.out.2, HLEN.out]; rfl
          · rw [HOUT.out.2, HLEN.out]; exact L9

end Go.Proofs.Ytjhnajenkoepdaa
