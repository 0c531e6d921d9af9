/-
  Contract of 'whole' of the statements of layer 5: chunks stand as they must.
-/
import Derived.Test.YtpbhdlhbcfkhfaaGreatSUse
import Derived.Lib.Strings
/-
  Contract of the document's own answer for layer 5: Turned: samples the other way round.
  Condition: at most 1000 samples.
-/
namespace Go.Proofs.YtpbhdlhbcfkhfaaGreat
open Go.RowKit
set_option linter.unusedVariables false
set_option linter.unusedSimpArgs false

theorem one_lst5 (w : World) (T V : Int) (hT : in64 T) (hV : in64 V) : Lst (w.alloc (.cells #[.int .i64 T, .int .i64 V] 33)) (some ⟨w.heap.size, 0, none⟩) 1 1 [(T, V)] :=
  lst_whole (all64_one hT hV) rfl (by omega) (heap_new w _)
theorem drop_rev (z : List (Int × Int)) (k : Nat) (h : k < z.length) : (z.drop k).reverse = (z.drop (k + 1)).reverse ++ [(tOf z k, vOf z k)] := by
  have e : z[k] = (tOf z k, vOf z k) := by unfold tOf vOf; rw [List.getD_eq_getElem?_getD, List.getElem?_eq_getElem h]; rfl
  rw [List.drop_eq_getElem_cons h, List.reverse_cons, e]

set_option maxRecDepth 100000 in
set_option maxHeartbeats 4000000 in
theorem turned_any (a : Option Addr) (len cap : Nat) (z : List (Int × Int)) (w : World) (hz : Lst w a len cap z) (hl : len ≤ 1000) :
    Calls Tryz.prog 47 #[.slice a len cap] w fun e w' => ∃ ad cp, e = .returned (.slice ad len cp) ∧ Lst w' ad len cp z.reverse ∧ Below w.heap.size w w' := by
  have HLN := Lib.hid hz.len
  have HL := Lib.hid hz
  have h64 := Lib.hid hz.all64
  clear hz
  go_enter Tryz.func47, Tryz.ntmps47
  go_wp2_with fail
  go_loopw [3, 4] (fun o i wr => ∃ j n : Nat, j ≤ len ∧ n + j = len ∧ i = .int .i64 ((j : Int) - 1) ∧ wr.ownsRow w.heap.size 33 2 o n (smpCells (z.drop j).reverse) ∧ Below w.heap.size w wr) (fun _ i _ => (intOf i + 1).toNat)
  case atStart => exact ⟨len, 0, Nat.le_refl _, by omega, by go_num, by rw [List.drop_of_length_le (by rw [HLN.out]; exact Nat.le_refl _)]; exact World.ownsRow_nil _ _ _ _, Below.refl _ _⟩
  case round =>
    obtain ⟨j, n, hj, hn, rfl, hown, B2⟩ := hrel
    have s2 := B2.size
    cases j with
    | zero =>
      have hlt : ¬ (((0 : Nat) : Int) - 1 ≥ 0) := by omega
      obtain rfl : n = len := by omega
      obtain ⟨ad, cp, rfl, L9⟩ := owns_lst (z := z.reverse) (n := n) (by rw [List.length_reverse]; exact HLN.out) (fun u hu => h64.out u (List.mem_reverse.1 hu)) (by omega) hown
      go_wp2
      go_ret
      exact ⟨ad, cp, rfl, L9, B2⟩
    | succ k =>
      have hk : ((k + 1 : Nat) : Int) - 1 = (k : Int) := by omega
      rw [hk]
      have hge : (k : Int) ≥ 0 := by omega
      have hk0 : (0 : Int) ≤ (k : Int) := by omega
      have hk1 : (k : Int) < (len : Int) := by omega
      obtain ⟨q, o, rfl, hq, x0, x1⟩ := HL.out.1.at_ k (by omega)
      rw [← B2.cell hq] at x0 x1
      have HT := Lib.hid (drop_rev z k (by rw [HLN.out]; omega))
      have HFL := Lib.hid (show (z.drop (k + 1)).reverse.length = n from by rw [List.length_reverse, List.length_drop, HLN.out]; omega)
      have h6 := all64_at h64.out k
      generalize tOf z k = T at *
      generalize vOf z k = V at *
      have LS := one_lst5 wr T V h6.1 h6.2
      have o4 := hown.alloc (.cells #[.int .i64 T, .int .i64 V] 33)
      have B4 := B2.alloc s2 (.cells #[.int .i64 T, .int .i64 V] 33)
      have s4 : w.heap.size ≤ (wr.alloc (.cells #[.int .i64 T, .int .i64 V] 33)).heap.size := by simp; omega
      clear hk
      go_wp2_with (at_builtin; (refine wpList_append_lst ?_ (.tmp 12) (.tmp 17) rfl w.heap.size _ n ((z.drop (k + 1)).reverse) rfl HFL.out o4 _ 1 1 [(T, V)] rfl LS (by omega) s4 ?_))
      intro v5 W5 o5 g5
      have B5 := B4.grown g5 s4 (fun k hk => (o4.lt k hk).1)
      clear o4 LS B4 s4 x0 x1 g5 hown B2
      go_wp2
      go_roundw
      case rel => exact ⟨k, n + 1, by omega, by omega, by go_num, by rw [HT.out]; exact o5, B5⟩
      case measure => simp [intOf]

end Go.Proofs.YtpbhdlhbcfkhfaaGreat
/-
  Contracts of the document's own answer for layer 5: Name, right, New, Line, Range.
-/
namespace Go.Proofs.YtpbhdlhbcfkhfaaGreat
open Go.RowKit
set_option linter.unusedVariables false
set_option linter.unusedSimpArgs false

/-- The document's series in block b is s. -/
def RCell (w : World) (b : Nat) (s : Ser) (v : Value) : Prop := w.heap[b]? = some (.cells #[.int .i64 s.ret, .int .i64 s.pol, .int .i64 s.mx, .int .i64 s.line, v] 55 (0, 0))
def RSer (w : World) (b : Nat) (s : Ser) : Prop := ∃ a cap, RCell w b s (.slice a s.z.length cap) ∧ Lst w a s.z.length cap s.z
theorem RSer.lt {w : World} {b : Nat} {s : Ser} (h : RSer w b s) : b < w.heap.size := by obtain ⟨a, cap, h, _⟩ := h; exact heap_lt h
theorem RSer.keepN {w w' : World} {b : Nat} {s : Ser} (h : RSer w b s) (g : w.grownBy w' none) : RSer w' b s := by
  obtain ⟨a, cap, h, l⟩ := h
  refine ⟨a, cap, ?_, l.keepN g⟩
  unfold RCell at *
  rw [g.block b (heap_lt h) (by simp)]; exact h
theorem RSer.keepB {w w' : World} {b : Nat} {s : Ser} (h : RSer w b s) (g : Below w.heap.size w w') : RSer w' b s := h.keepN (gb_below g)

def NameP5 (p : Int) (w : World) (e : Ending) (w' : World) : Prop := ∃ t : ByteArray, e = .returned (.string t) ∧ (decide (1 ≤ p ∧ p ≤ 6) = true → ¬ t.toList = []) ∧ (decide (1 ≤ p ∧ p ≤ 6) = false → t.toList = []) ∧ Below w.heap.size w w'
theorem rname5 (p : Int) (w : World) : Calls Tryz.prog 25 #[.int .i64 p] w (NameP5 p w) := by
  by_cases hp : 1 ≤ p ∧ p ≤ 6
  · obtain ⟨hp1, hp2⟩ := hp
    rcases (show p = 1 ∨ p = 2 ∨ p = 3 ∨ p = 4 ∨ p = 5 ∨ p = 6 by omega) with rfl | rfl | rfl | rfl | rfl | rfl
    all_goals
      go_enter Tryz.func25, Tryz.ntmps25
      go_wp2
      go_ret
      exact ⟨_, rfl, fun _ => (by rw [Lib.toList_data]; decide), fun h => by simp at h, (Below.refl _ _).alloc (Nat.le_refl _) _⟩
  · by_cases h1 : p < 1
    · have hd : decide (1 ≤ p ∧ p ≤ 6) = false := decide_eq_false hp
      have HD := Lib.hid hd
      clear hp hd
      go_enter Tryz.func25, Tryz.ntmps25
      go_wp2
      go_ret
      exact ⟨⟨#[]⟩, rfl, fun h => absurd (HD.out.symm.trans h) (by decide), fun _ => (by rw [Lib.toList_data]), Below.refl _ _⟩
    · have h2 : 6 < p := by omega
      have hd : decide (1 ≤ p ∧ p ≤ 6) = false := decide_eq_false hp
      have HD := Lib.hid hd
      clear hp hd
      go_enter Tryz.func25, Tryz.ntmps25
      go_wp2
      go_ret
      exact ⟨⟨#[]⟩, rfl, fun h => absurd (HD.out.symm.trans h) (by decide), fun _ => (by rw [Lib.toList_data]), Below.refl _ _⟩

theorem rright5 (ret p : Int) (r : Bool) (w : World) (h : decide (keepB ret p) = r) :
    Calls Tryz.prog 20 #[.int .i64 ret, .int .i64 p] w fun e w' => e = .returned (.bool r) ∧ Below w.heap.size w w' := by
  subst h
  by_cases h0 : 0 ≤ ret
  · by_cases h1 : ret ≤ 1099511627776
    · go_enter Tryz.func20, Tryz.ntmps20
      go_wp2_with fail
      refine (rname5 p w).mono ?_
      rintro e W1 ⟨t, rfl, t1, t0, b1⟩
      by_cases hp : 1 ≤ p ∧ p ≤ 6
      · have t2 := t1 (decide_eq_true hp)
        have t3 : t.toList.isEmpty = false := by simpa using t2
        have HK := Lib.hid (show decide (keepB ret p) = true from decide_eq_true ⟨⟨h0, h1⟩, hp⟩)
        clear t1 t0 hp
        go_wp2
        go_ret
        exact ⟨by rw [HK.out]; rfl, b1⟩
      · have t2 := t0 (decide_eq_false hp)
        have t3 : t.toList.isEmpty = true := by simpa using t2
        have HK := Lib.hid (show decide (keepB ret p) = false from decide_eq_false (fun h => hp h.2))
        clear t1 t0 hp
        go_wp2
        go_ret
        exact ⟨by rw [HK.out]; rfl, b1⟩
    · have HK := Lib.hid (show decide (keepB ret p) = false from decide_eq_false (fun h => h1 h.1.2))
      go_enter Tryz.func20, Tryz.ntmps20
      go_wp2
      go_ret
      exact ⟨by rw [HK.out]; rfl, Below.refl _ _⟩
  · have HK := Lib.hid (show decide (keepB ret p) = false from decide_eq_false (fun h => h0 h.1.1))
    go_enter Tryz.func20, Tryz.ntmps20
    go_wp2
    go_ret
    exact ⟨by rw [HK.out]; rfl, Below.refl _ _⟩

theorem rnew5_ok (sz ret p : Int) (w : World) (hs : 128 ≤ sz) (hs2 : sz ≤ 4096) (hk : keepB ret p) :
    Calls Tryz.prog 5 #[.int .i64 sz, .int .i64 ret, .int .i64 p] w fun e w' => ∃ b, e = .returned (.tuple #[.pointer (some ⟨b, 0, none⟩), .int .i64 0]) ∧ RSer w' b (newSer ret p) ∧ w.heap.size ≤ b ∧ Below w.heap.size w w' := by
  have HK := Lib.hid (decide_eq_true hk)
  clear hk
  go_enter Tryz.func5, Tryz.ntmps5
  go_wp2_with fail
  refine (rright5 ret p true w HK.out).mono ?_
  rintro e W1 ⟨rfl, b1⟩
  have s1 := b1.size
  have HB := Lib.hid b1
  clear b1
  go_wp2
  go_ret2
  exact ⟨_, rfl, ⟨none, 0, heap_new W1 _, Lst.nil _⟩, s1, HB.out.alloc s1 _⟩
theorem rnew5_bad (sz ret p : Int) (w : World) (h : ¬ ((128 ≤ sz ∧ sz ≤ 4096) ∧ keepB ret p)) :
    Calls Tryz.prog 5 #[.int .i64 sz, .int .i64 ret, .int .i64 p] w fun e w' => e = .returned (.tuple #[.pointer none, .int .i64 1]) ∧ Below w.heap.size w w' := by
  by_cases h1 : 128 ≤ sz
  · by_cases h2 : sz ≤ 4096
    · have HK := Lib.hid (show decide (keepB ret p) = false from decide_eq_false (fun hk => h ⟨⟨h1, h2⟩, hk⟩))
      clear h
      go_enter Tryz.func5, Tryz.ntmps5
      go_wp2_with fail
      refine (rright5 ret p false w HK.out).mono ?_
      rintro e W1 ⟨rfl, b1⟩
      go_wp2
      go_ret2
      exact ⟨rfl, b1⟩
    · clear h
      go_enter Tryz.func5, Tryz.ntmps5
      go_wp2
      go_ret2
      exact ⟨rfl, Below.refl _ _⟩
  · clear h
    go_enter Tryz.func5, Tryz.ntmps5
    go_wp2
    go_ret2
    exact ⟨rfl, Below.refl _ _⟩

set_option maxRecDepth 100000 in
theorem rline5 (b : Nat) (s : Ser) (w : World) (h : RSer w b s) (hm : in64 (s.mx - s.ret)) (h0 : 0 ≤ s.ret) :
    Calls Tryz.prog 26 #[.pointer (some ⟨b, 0, none⟩)] w fun e w' => e = .returned (.int .i64 (lineS s)) ∧ Drew w w' := by
  obtain ⟨a, cap, hc, hl⟩ := h
  have c0 : w.cell? ⟨b, 0, none⟩ = some (.int .i64 s.ret) := by rw [cell_of hc]; rfl
  have c2 : w.cell? ⟨b, 2, none⟩ = some (.int .i64 s.mx) := by rw [cell_of hc]; rfl
  have c3 : w.cell? ⟨b, 3, none⟩ = some (.int .i64 s.line) := by rw [cell_of hc]; rfl
  clear hc hl
  obtain ⟨r, p, m, l, z⟩ := s
  simp only at *
  by_cases hr : r = 0
  · subst hr
    have HK := Lib.hid (show lineS ⟨0, p, m, l, z⟩ = l from by unfold lineS; rw [if_neg (by simp)])
    go_enter Tryz.func26, Tryz.ntmps26
    go_wp2
    go_ret
    exact ⟨by rw [HK.out]; rfl, 0, rfl⟩
  · have HK := Lib.hid (show lineS ⟨r, p, m, l, z⟩ = max l (m - r) from by unfold lineS; rw [if_pos (by simp; omega)])
    have hrb : (r == 0) = false := by rw [beq_eq_false_iff_ne]; exact hr
    have h63 := hm.1
    have h64 := hm.2
    rw [HK.out]
    by_cases hx : m - r ≤ l
    · have HX := Lib.hid (show max l (m - r) = l from by omega)
      go_enter Tryz.func26, Tryz.ntmps26
      go_wp2_with fail
      go_quiet (fail)
      go_wp2
      go_ret
      exact ⟨by rw [HX.out]; rfl, nq, rfl⟩
    · have HX := Lib.hid (show max l (m - r) = m - r from by omega)
      go_enter Tryz.func26, Tryz.ntmps26
      go_wp2_with fail
      go_quiet (fail)
      go_wp2
      go_ret
      exact ⟨by rw [HX.out]; rfl, nq, rfl⟩

theorem in_take (z : List (Int × Int)) (x y : Int) (j : Nat) (h : j < z.length) : (z.take (j + 1)).filter (inB x y) = (z.take j).filter (inB x y) ++ (if inB x y (tOf z j, vOf z j) = true then [(tOf z j, vOf z j)] else []) := by
  have e : z[j] = (tOf z j, vOf z j) := by unfold tOf vOf; rw [List.getD_eq_getElem?_getD, List.getElem?_eq_getElem h]; rfl
  rw [List.take_succ_eq_append_getElem h, List.filter_append, e]
  congr 1
  by_cases hk : inB x y (tOf z j, vOf z j) = true <;> simp [hk]

set_option maxRecDepth 100000 in
set_option maxHeartbeats 4000000 in
theorem rrange5 (b : Nat) (s : Ser) (x y : Int) (w : World) (h : RSer w b s) (hl : s.z.length ≤ 1000) :
    Calls Tryz.prog 38 #[.pointer (some ⟨b, 0, none⟩), .int .i64 x, .int .i64 y] w (LaidP (s.z.filter (inB x y)) w) := by
  obtain ⟨a, cap, hc, hz⟩ := h
  have c4 : w.cell? ⟨b, 4, none⟩ = some (.slice a s.z.length cap) := by rw [cell_of hc]; rfl
  have hbl := heap_lt hc
  obtain ⟨len, hlen⟩ : ∃ len, s.z.length = len := ⟨_, rfl⟩
  rw [hlen] at c4 hz hl
  have HLN := Lib.hid hz.len
  have HL := Lib.hid hz
  have h64 := Lib.hid hz.all64
  generalize s.z = z at *
  have HC4 := Lib.hid c4
  clear hz hc hlen c4
  go_enter Tryz.func38, Tryz.ntmps38
  go_wp2_with fail
  go_loopw [7, 8] (fun o i wr => ∃ j n : Nat, j ≤ len ∧ n ≤ j ∧ i = .int .i64 (j : Int) ∧ Hid (((z.take j).filter (inB x y)).length = n) ∧ wr.ownsRow w.heap.size 33 2 o n (smpCells ((z.take j).filter (inB x y))) ∧ Below w.heap.size w wr) (fun _ i _ => len - (intOf i).toNat)
  case atStart => exact ⟨0, 0, Nat.zero_le _, Nat.le_refl _, rfl, Lib.hid rfl, World.ownsRow_nil _ _ _ _, Below.refl _ _⟩
  case round =>
    obtain ⟨j, n, hj, hnj, rfl, HFL, hown, B2⟩ := hrel
    have s2 := B2.size
    have c4 : wr.cell? ⟨b, 4, none⟩ = some (.slice a len cap) := by rw [B2.cell hbl]; exact HC4.out
    by_cases hjl : j < len
    · obtain ⟨q, o, rfl, hq, x0, x1⟩ := HL.out.1.at_ j hjl
      rw [← B2.cell hq] at x0 x1
      have hj0 : (0 : Int) ≤ (j : Int) := by omega
      have hj1 : (j : Int) < (len : Int) := by omega
      have HKT := Lib.hid (in_take z x y j (by rw [HLN.out]; exact hjl))
      have h6 := all64_at h64.out j
      generalize tOf z j = T at *
      generalize vOf z j = V at *
      have HKD := Lib.hid (show inB x y (T, V) = (decide (x ≤ T) && decide (T ≤ y)) from rfl)
      rcases (show (x ≤ T ∧ T ≤ y) ∨ (x ≤ T ∧ ¬ T ≤ y) ∨ ¬ x ≤ T by omega) with ⟨h1, h2⟩ | ⟨h1, h2⟩ | h1
      · have hk : inB x y (T, V) = true := by rw [HKD.out, decide_eq_true h1, decide_eq_true h2]; rfl
        have HT := Lib.hid (show (z.take (j + 1)).filter (inB x y) = (z.take j).filter (inB x y) ++ [(T, V)] from by rw [HKT.out, hk]; simp)
        have h1' : T ≥ x := h1
        clear hk HKD HKT
        have LS := one_lst5 wr T V h6.1 h6.2
        have o4 := hown.alloc (.cells #[.int .i64 T, .int .i64 V] 33)
        have B4 := B2.alloc s2 (.cells #[.int .i64 T, .int .i64 V] 33)
        have s4 : w.heap.size ≤ (wr.alloc (.cells #[.int .i64 T, .int .i64 V] 33)).heap.size := by simp; omega
        go_wp2_with (at_builtin; (refine wpList_append_lst ?_ (.tmp 40) (.tmp 48) rfl w.heap.size _ n ((z.take j).filter (inB x y)) rfl HFL.out o4 _ 1 1 [(T, V)] rfl LS (by omega) s4 ?_))
        intro v5 W5 o5 g5
        have B5 := B4.grown g5 s4 (fun k hk => (o4.lt k hk).1)
        clear o4 LS B4 s4 x0 x1 g5 hown B2 c4
        go_wp2
        go_roundw
        case rel => exact ⟨j + 1, n + 1, by omega, by omega, by go_num, Lib.hid (by rw [HT.out, List.length_append, HFL.out]; rfl), by rw [HT.out]; exact o5, B5⟩
        case measure => simp [intOf]; omega
      · have hk : inB x y (T, V) = false := by rw [HKD.out, decide_eq_false h2]; simp
        have HT := Lib.hid (show (z.take (j + 1)).filter (inB x y) = (z.take j).filter (inB x y) from by rw [HKT.out, hk]; simp)
        have h1' : T ≥ x := h1
        clear hk HKD HKT
        go_wp2
        go_roundw
        case rel => exact ⟨j + 1, n, by omega, by omega, by go_num, by rw [HT.out]; exact HFL, by rw [HT.out]; exact hown, B2⟩
        case measure => simp [intOf]; omega
      · have hk : inB x y (T, V) = false := by rw [HKD.out, decide_eq_false h1]; rfl
        have HT := Lib.hid (show (z.take (j + 1)).filter (inB x y) = (z.take j).filter (inB x y) from by rw [HKT.out, hk]; simp)
        have h1' : ¬ T ≥ x := h1
        clear hk HKD HKT
        go_wp2
        go_roundw
        case rel => exact ⟨j + 1, n, by omega, by omega, by go_num, by rw [HT.out]; exact HFL, by rw [HT.out]; exact hown, B2⟩
        case measure => simp [intOf]; omega
    · obtain rfl : len = j := by omega
      have HE := Lib.hid (show (z.take len).filter (inB x y) = z.filter (inB x y) from by rw [← HLN.out, List.take_length])
      rw [HE.out] at hown HFL
      obtain ⟨ad, cp, rfl, L9⟩ := owns_lst HFL.out (fun u hu => h64.out u (List.mem_filter.1 hu).1) (by omega) hown
      go_wp2
      go_ret
      exact ⟨ad, cp, by rw [HFL.out]; rfl, by rw [HFL.out]; exact L9, B2⟩

end Go.Proofs.YtpbhdlhbcfkhfaaGreat
/-
  Contract of 'same' of the statements of layer 5: a series is as the document says.
-/
namespace Go.Proofs.YtpbhdlhbcfkhfaaGreat
open Go.RowKit
set_option linter.unusedVariables false
set_option linter.unusedSimpArgs false

theorem all_in {s : Ser} (h : Std s) : s.z.filter (inB 0 1099511627776) = s.z := by
  apply List.filter_eq_self.2
  intro u hu
  have h1 := h.pos u hu
  have h2 := h.z1 u hu
  have h3 := h.m1
  have e : inB 0 1099511627776 u = (decide (0 ≤ u.1) && decide (u.1 ≤ 1099511627776)) := rfl
  rw [e]; simp; omega
theorem line_std {s : Ser} (h : Std s) : lineS s = s.line := by
  unfold lineS
  split
  · rcases h.lr with h1 | h1 <;> omega
  · rfl

set_option maxRecDepth 100000 in
set_option maxHeartbeats 8000000 in
theorem same5 (b rb : Nat) (sz : Int) (s : Ser) (x y : Int) (w : World) (h : SerAt w b sz s) (hr : RSer w rb s) (hS : Std s) (hs : 128 ≤ sz) (hs2 : sz ≤ 4096) (hn : s.z.length ≤ 1000) :
    Calls Tryz.prog 15 #[.pointer (some ⟨b, 0, none⟩), .pointer (some ⟨rb, 0, none⟩), .int .i64 x, .int .i64 y] w fun e w' => e = .returned (.bool true) ∧ Below w.heap.size w w' := by
  have HS := Lib.hid h
  have HR := Lib.hid hr
  have HST := Lib.hid hS
  have HAI := Lib.hid (all_in hS)
  have HLS := Lib.hid (line_std hS)
  have hmr : in64 (s.mx - s.ret) := by have := hS.m0; have := hS.m1; have := hS.r0; have := hS.r1; constructor <;> omega
  have hr0 := hS.r0
  obtain ⟨n, hnn⟩ : ∃ n, s.z.length = n := ⟨_, rfl⟩
  obtain ⟨a, cap, hc, hz⟩ := hr
  rw [hnn] at hc hz
  have HC0 := Lib.hid (show w.cell? ⟨rb, 0, none⟩ = some (.int .i64 s.ret) from by rw [cell_of hc]; rfl)
  have HC1 := Lib.hid (show w.cell? ⟨rb, 1, none⟩ = some (.int .i64 s.pol) from by rw [cell_of hc]; rfl)
  have HC2 := Lib.hid (show w.cell? ⟨rb, 2, none⟩ = some (.int .i64 s.mx) from by rw [cell_of hc]; rfl)
  have HC4 := Lib.hid (show w.cell? ⟨rb, 4, none⟩ = some (.slice a n cap) from by rw [cell_of hc]; rfl)
  have HZ := Lib.hid hz
  have hrb := heap_lt hc
  have HNN := Lib.hid hnn
  have hnl : n ≤ 1000 := by omega
  clear h hS hc hz
  go_enter Tryz.func15, Tryz.ntmps15
  go_wp2_with fail
  refine (last_ser b sz s w HS.out hs (by omega)).mono ?_
  rintro e W1 ⟨rfl, b1⟩
  have s1 := b1.size
  rw [hnn]
  clear hnn
  obtain ⟨T, hT⟩ : ∃ T, tOf s.z (n - 1) = T := ⟨_, rfl⟩
  obtain ⟨V, hV⟩ : ∃ V, vOf s.z (n - 1) = V := ⟨_, rfl⟩
  rw [hT, hV]
  have HT := Lib.hid hT
  have HV := Lib.hid hV
  have D2 := b1.alloc s1 (.cells #[.int .i64 T, .int .i64 V] 33)
  have HK := Lib.hid (heap_new W1 (.cells #[.int .i64 T, .int .i64 V] 33))
  have c4 : W1.cell? ⟨rb, 4, none⟩ = some (.slice a n cap) := by rw [b1.cell hrb]; exact HC4.out
  have hrb1 : rb < W1.heap.size := by omega
  clear hT hV b1
  go_wp2_with fail
  clear c4 hrb1
  generalize W1.alloc (.cells #[.int .i64 T, .int .i64 V] 33) = W2 at *
  go_cut [10, 51] (fun s10 s51 wx => s51 = .bool false ∧ Below w.heap.size w wx)
  case first =>
    have c4 : W2.cell? ⟨rb, 4, none⟩ = some (.slice a n cap) := by rw [D2.cell hrb]; exact HC4.out
    have k0 : W2.cell? ⟨W1.heap.size, 0, none⟩ = some (.int .i64 T) := by rw [cell_of HK.out]; rfl
    have k1 : W2.cell? ⟨W1.heap.size, 1, none⟩ = some (.int .i64 V) := by rw [cell_of HK.out]; rfl
    by_cases h0 : n = 0
    · have HZ0 := Lib.hid (show s.z = [] from List.eq_nil_of_length_eq_zero (by rw [HNN.out]; exact h0))
      have hT0 : T = 0 := by rw [← HT.out, HZ0.out]; rfl
      have hV0 : V = 0 := by rw [← HV.out, HZ0.out]; rfl
      subst h0 hT0 hV0
      clear HT HV
      go_wp2_with fail
      go_quiet (fail)
      go_wp2_with fail
      go_meet
      exact ⟨rfl, D2.trans (drew_below ⟨nq, rfl⟩ |>.mono D2.size)⟩
    · obtain ⟨q, o, hqe, hq, x0, x1⟩ := HZ.out.1.at_ (n - 1) (by omega)
      subst hqe
      rw [HT.out, ← D2.cell hq] at x0
      rw [HV.out, ← D2.cell hq] at x1
      have hg : (n : Int) > 0 := by omega
      have hg2 : 0 < n := by omega
      have hd : decide (0 < n) = true := decide_eq_true hg2
      have hT1 : (T == T) = true := by simp
      have hV1 : (V == V) = true := by simp
      have hn1 : (n : Int) - 1 = ((n - 1 : Nat) : Int) := by omega
      have hn2 : (0 : Int) ≤ ((n - 1 : Nat) : Int) := by omega
      have hn3 : ((n - 1 : Nat) : Int) < (n : Int) := by omega
      have hne : ((n : Int) == 0) = false := by rw [beq_eq_false_iff_ne]; omega
      rw [hd]
      clear HT HV h0 hd
      go_wp2_with fail
      go_quiet (fail)
      go_wp2_with fail
      go_meet
      exact ⟨rfl, D2.trans (drew_below ⟨nq, rfl⟩ |>.mono D2.size)⟩
  case rest =>
    obtain ⟨rfl, D3⟩ := hcut
    generalize wc = W3 at *
    clear D2 HK
    have HS3 := Lib.hid (HS.out.keepB D3)
    have HR3 := Lib.hid (HR.out.keepB D3)
    obtain ⟨L, hL⟩ : ∃ L, s.z.filter (inB x y) = L := ⟨_, rfl⟩
    have HLL := Lib.hid hL
    have hLl : L.length ≤ 1000 := by rw [← hL]; exact Nat.le_trans (List.length_filter_le _ _) hn
    clear hL
    go_wp2_with fail
    refine (rrange5 rb s x y W3 HR3.out (by omega)).mono ?_
    rintro e W4 ⟨a4, c4', rfl, l4, b4⟩
    rw [HLL.out] at l4 ⊢
    have HL4 := Lib.hid l4
    clear l4
    have D4 := D3.trans (b4.mono D3.size)
    have HS4 := Lib.hid (HS.out.keepB D4)
    have HR4 := Lib.hid (HR.out.keepB D4)
    have c0 : W4.cell? ⟨rb, 0, none⟩ = some (.int .i64 s.ret) := by rw [D4.cell hrb]; exact HC0.out
    have c1 : W4.cell? ⟨rb, 1, none⟩ = some (.int .i64 s.pol) := by rw [D4.cell hrb]; exact HC1.out
    have c2 : W4.cell? ⟨rb, 2, none⟩ = some (.int .i64 s.mx) := by rw [D4.cell hrb]; exact HC2.out
    have c4 : W4.cell? ⟨rb, 4, none⟩ = some (.slice a n cap) := by rw [D4.cell hrb]; exact HC4.out
    clear b4 D3 HS3 HR3
    have HKS : Hid (∀ W' : World, Below w.heap.size w W' → W'.cell? ⟨rb, 0, none⟩ = some (.int .i64 s.ret) ∧ W'.cell? ⟨rb, 1, none⟩ = some (.int .i64 s.pol) ∧ W'.cell? ⟨rb, 2, none⟩ = some (.int .i64 s.mx) ∧ W'.cell? ⟨rb, 4, none⟩ = some (.slice a n cap)) := Lib.hid (fun W' hb' => ⟨(hb'.cell (p := ⟨rb, 0, none⟩) hrb).trans HC0.out, (hb'.cell (p := ⟨rb, 1, none⟩) hrb).trans HC1.out, (hb'.cell (p := ⟨rb, 2, none⟩) hrb).trans HC2.out, (hb'.cell (p := ⟨rb, 4, none⟩) hrb).trans HC4.out⟩)
    have HD4 : Hid (Below w.heap.size w W4.drew) := Lib.hid D4.drew
    have HS4 : Hid (SerAt W4.drew b sz s) := Lib.hid (HS.out.keepB HD4.out)
    have HR4 : Hid (RSer W4.drew rb s) := Lib.hid (HR.out.keepB HD4.out)
    have HL4 : Hid (Lst W4.drew a4 L.length c4' L) := HL4
    have hmm : (s.mx == s.mx) = true := by simp
    have hll : (s.line == s.line) = true := by simp
    have hnn2 : ((n : Int) == (n : Int)) = true := by simp
    have hrr : (s.ret == s.ret) = true := by simp
    have hpp : (s.pol == s.pol) = true := by simp
    go_wp2_with fail
    simp only [List.append_eq, List.cons_append, List.nil_append]
    clear c0 c1 c2 c4 D4
    go_region_held3 (fun w' => w'.cell? ⟨rb, 0, none⟩ = some (.int .i64 s.ret) ∧ w'.cell? ⟨rb, 1, none⟩ = some (.int .i64 s.pol) ∧ w'.cell? ⟨rb, 2, none⟩ = some (.int .i64 s.mx) ∧ w'.cell? ⟨rb, 4, none⟩ = some (.slice a n cap))
      (first
        | (exact HKS.out _ HD12.out)
        | (exact HKS.out _ HD11.out)
        | (exact HKS.out _ HD10.out)
        | (exact HKS.out _ HD9.out)
        | (exact HKS.out _ HD8.out)
        | (exact HKS.out _ HD7.out)
        | (exact HKS.out _ HD6.out)
        | (exact HKS.out _ HD5.out)
        | (exact HKS.out _ HD4.out)
        | fail)
      (first
        | (go_at_call 39
           (with_reducible refine (smax_ok b sz s _ HS4.out (by omega)).mono ?_)
           rintro e w' ⟨rfl, rfl⟩)
        | (go_at_call 40
           (with_reducible refine (sline_ok b sz s _ HS4.out (by omega)).mono ?_)
           rintro e w' ⟨rfl, rfl⟩)
        | (go_at_call 26
           (with_reducible refine (rline5 rb s _ HR4.out hmr hr0).mono ?_)
           rintro e W5 ⟨rfl, d5⟩
           rw [HLS.out]
           have HD5 := Lib.hid (HD4.out.trans ((drew_below d5).mono HD4.out.size))
           have HS5 := Lib.hid (HS.out.keepB HD5.out)
           have HL5 := Lib.hid (HL4.out.keepN (gb_below (drew_below d5)))
           clear d5)
        | (go_at_call 41
           (with_reducible refine (len_ser b sz s _ HS5.out (by omega) (by omega)).mono ?_)
           rintro e w' ⟨rfl, rfl⟩
           rw [HNN.out])
        | (go_at_call 42
           (with_reducible refine (sret_ok b sz s _ HS5.out (by omega)).mono ?_)
           rintro e w' ⟨rfl, rfl⟩)
        | (go_at_call 43
           (with_reducible refine (spol_ok b sz s _ HS5.out (by omega)).mono ?_)
           rintro e w' ⟨rfl, rfl⟩)
        | (go_at_call 45
           (with_reducible refine (range_ser b sz s x y _ HS5.out hs HST.out.rise (by omega)).mono ?_)
           rintro e W6 ⟨a6, c6, rfl, l6, b6⟩
           rw [HLL.out] at l6 ⊢
           have HM6 := Lib.hid l6.1
           have HL6 := Lib.hid (HL5.out.keepN (gb_below b6))
           have HL61 := Lib.hid HL6.out.1
           have HD6 := Lib.hid (HD5.out.trans (b6.mono HD5.out.size))
           clear l6 b6)
        | (go_at_call 44
           (with_reducible refine (same_any a6 a4 L.length L.length c6 c4' L L _ HM6.out HL61.out).mono ?_)
           rintro e W7 ⟨rfl, d7⟩
           rw [show decide (L = L) = true from decide_eq_true rfl]
           have HL7 := Lib.hid (HL6.out.keepN (gb_below (drew_below d7)))
           have HD7 := Lib.hid (HD6.out.trans ((drew_below d7).mono HD6.out.size))
           have HS7 := Lib.hid (HS.out.keepB HD7.out)
           clear d7)
        | (go_at_call 46
           (with_reducible refine (back_ser b sz s x y _ HS7.out hs HST.out.rise (by omega)).mono ?_)
           rintro e W8 ⟨a8, c8, rfl, l8, b8⟩
           rw [HLL.out, List.length_reverse] at l8
           rw [HLL.out, List.length_reverse]
           have HM8 := Lib.hid l8
           have HL8 := Lib.hid (HL7.out.keepN (gb_below b8))
           have HD8 := Lib.hid (HD7.out.trans (b8.mono HD7.out.size))
           clear l8 b8)
        | (go_at_call 47
           (with_reducible refine (turned_any a4 L.length c4' L _ HL8.out (by omega)).mono ?_)
           rintro e W9 ⟨a9, c9, rfl, l9, b9⟩
           have HP9 := Lib.hid l9.1
           have HM9 := Lib.hid (HM8.out.keepN (gb_below b9)).1
           have HD9 := Lib.hid (HD8.out.trans (b9.mono HD8.out.size))
           clear l9 b9)
        | (go_at_call 44
           (with_reducible refine (same_any a8 a9 L.length L.length c8 c9 L.reverse L.reverse _ HM9.out HP9.out).mono ?_)
           rintro e W10 ⟨rfl, d10⟩
           rw [show decide (L.reverse = L.reverse) = true from decide_eq_true rfl]
           have HD10 := Lib.hid (HD9.out.trans ((drew_below d10).mono HD9.out.size))
           have HS10 := Lib.hid (HS.out.keepB HD10.out)
           clear d10)
        | (go_at_call 45
           (with_reducible refine (range_ser b sz s 0 1099511627776 _ HS10.out hs HST.out.rise (by omega)).mono ?_)
           rintro e W11 ⟨a11, c11, rfl, l11, b11⟩
           rw [HAI.out, HNN.out] at l11
           rw [HAI.out, HNN.out]
           have HM11 := Lib.hid l11.1
           have HD11 := Lib.hid (HD10.out.trans (b11.mono HD10.out.size))
           have HZ11 := Lib.hid (HZ.out.keepN (gb_below HD11.out)).1
           clear l11 b11)
        | (go_at_call 44
           (with_reducible refine (same_any a11 a n n c11 cap s.z s.z _ HM11.out HZ11.out).mono ?_)
           rintro e W12 ⟨rfl, d12⟩
           rw [show decide (s.z = s.z) = true from decide_eq_true rfl]
           have HD12 := Lib.hid (HD11.out.trans ((drew_below d12).mono HD11.out.size))
           clear d12)
        | fail)
    go_wp2
    go_ret
    exact ⟨rfl, HD12.out⟩

end Go.Proofs.YtpbhdlhbcfkhfaaGreat
namespace Go.Proofs.YtpbhdlhbcfkhfaaGreat
open Go.RowKit
set_option linter.unusedVariables false
set_option linter.unusedSimpArgs false

theorem ns_get (Z : List (List (Int × Int))) (i : Nat) (h : i < Z.length) : (Z.map fun z => (usedL z : Int)).getD i 0 = (usedL (Z.getD i []) : Int) := by
  rw [List.getD_eq_getElem?_getD, List.getElem?_map, List.getElem?_eq_getElem h, chunk_get h]; rfl

set_option maxRecDepth 100000 in
set_option maxHeartbeats 4000000 in
theorem whole_any (b : Nat) (sz : Int) (s : Ser) (w : World) (h : SerAt w b sz s) (hs : 128 ≤ sz) (hs2 : sz ≤ 4096) (hn : s.z.length ≤ 1000) :
    Calls Tryz.prog 16 #[.pointer (some ⟨b, 0, none⟩), .int .i64 sz] w fun e w' => e = .returned (.bool true) ∧ Below w.heap.size w w' := by
  have HS := Lib.hid h
  clear h
  go_enter Tryz.func16, Tryz.ntmps16
  go_wp2_with fail
  refine (chunks_ser b sz s w HS.out hs (by omega)).mono ?_
  rintro e W1 ⟨v, Z, rfl, hg, hf, r1, b1⟩
  obtain ⟨a, cap, rfl, hc⟩ := r1.shape
  have HS1 := Lib.hid (HS.out.keepB b1)
  have hzl : Z.length ≤ 1000 := by have := flat_ge (good_ne hg); omega
  have HZF : Hid (0 < Z.length ↔ 0 < s.z.length) := Lib.hid (by
    rw [← hf]
    have := flat_ge (good_ne hg)
    constructor
    · omega
    · intro h0
      cases Z with
      | nil => simp at h0
      | cons x l => simp)
  have HG := Lib.hid hg
  have HCC : Hid (∀ i, i < Z.length → ∃ g, a = some ⟨g, 0, none⟩ ∧ W1.cell? ⟨g, i, none⟩ = some (.int .i64 (usedL (Z.getD i []) : Int))) := Lib.hid (fun i hi => by
    obtain ⟨g, h1, _, h2⟩ := hc i (by rw [List.length_map]; exact hi)
    exact ⟨g, h1, by rw [h2, ns_get Z i hi]⟩)
  rw [List.length_map]
  obtain ⟨n, hnn⟩ : ∃ n, Z.length = n := ⟨_, rfl⟩
  rw [hnn] at hzl HCC HZF ⊢
  have HN := Lib.hid hnn
  clear hg hf r1 hc HS hnn
  go_wp2_with fail
  go_loop [6] (fun i => ∃ j : Nat, j ≤ n ∧ i = .int .i64 (j : Int)) (fun i => n - (intOf i).toNat)
  case atStart => exact ⟨0, Nat.zero_le _, rfl⟩
  case round =>
    obtain ⟨j, hj, rfl⟩ := hrel
    by_cases hjn : j < n
    · obtain ⟨g, ha, c1⟩ := HCC.out j hjn
      subst ha
      have hu := good_used HG.out j (by rw [HN.out]; exact hjn)
      have hj0 : (0 : Int) ≤ (j : Int) := by omega
      have hj1 : (j : Int) < (n : Int) := by omega
      by_cases hjz : j = 0
      · subst hjz
        have c1' : W1.cell? ⟨g, 0, none⟩ = some (.int .i64 (usedL (Z.getD 0 []) : Int)) := c1
        clear c1
        generalize usedL (Z.getD 0 []) = u at *
        have h1 : ¬ (u : Int) < 1 := by omega
        have h2 : ¬ (u : Int) > sz := by omega
        go_wp2
        go_round
        case rel => exact ⟨1, by omega, by go_num⟩
        case measure => simp [intOf]; omega
      · obtain ⟨k, rfl⟩ : ∃ k, j = k + 1 := ⟨j - 1, by omega⟩
        obtain ⟨g', ha', c2⟩ := HCC.out k (by omega)
        cases ha'
        have hap := good_apart HG.out k (by rw [HN.out]; exact hjn)
        have hu2 := good_used HG.out k (by rw [HN.out]; omega)
        have hgt : ((k + 1 : Nat) : Int) > 0 := by omega
        have hk0 : ((k + 1 : Nat) : Int) - 1 = (k : Int) := by omega
        have hk1 : (0 : Int) ≤ (k : Int) := by omega
        have hk2 : (k : Int) < (n : Int) := by omega
        generalize usedL (Z.getD (k + 1) []) = u at *
        generalize usedL (Z.getD k []) = u2 at *
        have h1 : ¬ (u : Int) < 1 := by omega
        have h2 : ¬ (u : Int) > sz := by omega
        by_cases h3 : 4 * (u : Int) < sz
        · have h4 : ¬ 4 * (u2 : Int) < sz := fun h => hap ⟨h3, h⟩
          clear hap
          go_wp2
          go_round
          case rel => exact ⟨k + 1 + 1, by omega, by go_num⟩
          case measure => simp [intOf]; omega
        · clear hap
          go_wp2
          go_round
          case rel => exact ⟨k + 1 + 1, by omega, by go_num⟩
          case measure => simp [intOf]; omega
    · obtain rfl : n = j := by omega
      have hZ := HZF.out
      go_wp2_with fail
      refine (len_ser b sz s W1 HS1.out hs (by omega)).mono ?_
      rintro e w' ⟨rfl, rfl⟩
      by_cases h0 : 0 < n
      · have h1 : 0 < s.z.length := hZ.1 h0
        have h2 : (n : Int) > 0 := by omega
        have h3 : (s.z.length : Int) > 0 := by omega
        clear hZ HZF
        go_wp2
        go_ret
        exact ⟨rfl, b1⟩
      · have h1 : ¬ 0 < s.z.length := fun h => h0 (hZ.2 h)
        have h2 : ¬ (n : Int) > 0 := by omega
        have h3 : ¬ (s.z.length : Int) > 0 := by omega
        clear hZ HZF
        go_wp2
        go_ret
        exact ⟨rfl, b1⟩

end Go.Proofs.YtpbhdlhbcfkhfaaGreat
