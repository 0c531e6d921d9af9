/-
  Contracts.
-/
import Derived.Test.YtmifpfojhlmbkaaGreatJ4
import Derived.Test.YtmifpfojhlmbkaaGreatJ7
import Derived.Test.YtmifpfojhlmbkaaGreatJ9
import Derived.Test.YtmifpfojhlmbkaaGreatJ20
import Derived.Test.YtmifpfojhlmbkaaGreatJ22
import Derived.BigRegion
import Derived.Shelf.Abstract
import Derived.StillTailTactics
import Derived.IntWalk
import Derived.Laws.Rows
import Derived.Laws.EntriesVeiled
import Derived.Laws.StructEq
namespace Go.Proofs.YtmifpfojhlmbkaaGreat
open Lib (hid)
set_option maxRecDepth 100000
set_option maxHeartbeats 16000000
open Go.RowKit
set_option linter.unusedVariables false
set_option linter.unusedSimpArgs false
theorem same_take (x y : List (Int × Int)) (j : Nat) (h1 : j < x.length) (h2 : j < y.length) (h : x.take j = y.take j) (he : tOf x j = tOf y j ∧ vOf x j = vOf y j) : x.take (j + 1) = y.take (j + 1) := by
  rw [List.take_succ_eq_append_getElem h1, List.take_succ_eq_append_getElem h2, h]
  congr 2
  unfold tOf vOf at he
  rw [List.getD_eq_getElem?_getD, List.getElem?_eq_getElem h1, List.getD_eq_getElem?_getD, List.getElem?_eq_getElem h2] at he
  exact Prod.ext he.1 he.2
theorem same_not (x y : List (Int × Int)) (j : Nat) (he : ¬ (tOf x j = tOf y j ∧ vOf x j = vOf y j)) : x ≠ y := by
  intro h; subst h; exact he ⟨rfl, rfl⟩
theorem same_any (a1 a2 : Option Addr) (n1 n2 c1 c2 : Nat) (x y : List (Int × Int)) (w : World) (hx : SampAt w a1 n1 c1 x) (hy : SampAt w a2 n2 c2 y) :
    Calls Tryz.prog 21 #[.slice a1 n1 c1, .slice a2 n2 c2] w fun e w' => e = .returned (.bool (decide (x = y))) ∧ Drew w w' := by
  have l1 := hx.1
  have l2 := hy.1
  have b1 := hx.2.2.1
  have b2 := hy.2.2.1
  have HX := hid hx
  have HY := hid hy
  have L1 := hid l1
  have L2 := hid l2
  by_cases hn : n1 = n2
  · subst hn
    have hnn : ((n1 : Int) != (n1 : Int)) = false := by simp
    clear hx hy l1 l2
    go_enter Tryz.func21, Tryz.ntmps21
    go_wp2
    go_loopw [5] (fun i wr => ∃ j : Nat, j ≤ n1 ∧ i = .int .i64 (j : Int) ∧ Hid (x.take j = y.take j) ∧ Drew w wr) (fun i _ => n1 - (intOf i).toNat)
    case atStart => exact ⟨0, Nat.zero_le _, rfl, rfl, 0, rfl⟩
    case round =>
      obtain ⟨j, hj, rfl, HT, hd⟩ := hrel
      by_cases hjn : j < n1
      · obtain ⟨p, o, rfl, hp, x0, x1⟩ := HX.out.at_ j hjn
        obtain ⟨q, o', rfl, hq, y0, y1⟩ := HY.out.at_ j hjn
        obtain ⟨nn, rfl⟩ := hd
        have x0 : (w.drewN nn).cell? _ = _ := x0
        have x1 : (w.drewN nn).cell? _ = _ := x1
        have y0 : (w.drewN nn).cell? _ = _ := y0
        have y1 : (w.drewN nn).cell? _ = _ := y1
        have hd : Drew w (w.drewN nn) := ⟨nn, rfl⟩
        generalize w.drewN nn = W1 at *
        have HS := hid (same_take x y j (by rw [L1.out]; exact hjn) (by rw [L2.out]; exact hjn) HT.out)
        have HNO := hid (same_not x y j)
        generalize tOf x j = t1 at *
        generalize vOf x j = v1 at *
        generalize tOf y j = t2 at *
        generalize vOf y j = v2 at *
        by_cases het : t1 = t2
        · by_cases hev : v1 = v2
          · have HS2 := hid (HS.out ⟨het, hev⟩)
            subst het hev
            clear HS HNO
            have h1 : (t1 == t1) = true := by simp
            have h2 : (v1 == v1) = true := by simp
            go_wp2_with fail
            go_quiet (fail)
            go_wp2
            go_roundw
            case rel => exact ⟨j + 1, by omega, by go_num, HS2, by obtain ⟨m, rfl⟩ := hd; exact ⟨m + nq, by rw [World.drewN_drewN]⟩⟩
            case measure => simp [intOf]; omega
          · have h1 : (t1 == t2) = true := by simpa using het
            have h2 : (v1 == v2) = false := by simpa using hev
            have HN := hid (HNO.out (fun h => hev h.2))
            clear het hev
            go_wp2_with fail
            go_quiet (fail)
            go_wp2
            go_ret
            exact ⟨ret_bool (by simpa using HN.out), by obtain ⟨m, rfl⟩ := hd; exact ⟨m + nq, by rw [World.drewN_drewN]⟩⟩
        · have h1 : (t1 == t2) = false := by simpa using het
          have HN := hid (HNO.out (fun h => het h.1))
          clear het
          go_wp2_with fail
          go_quiet (fail)
          go_wp2
          go_ret
          exact ⟨ret_bool (by simpa using HN.out), by obtain ⟨m, rfl⟩ := hd; exact ⟨m + nq, by rw [World.drewN_drewN]⟩⟩
      · obtain rfl : j = n1 := by omega
        have HE := hid (show x = y from by
          have := HT.out
          rwa [List.take_of_length_le (by rw [L1.out]; exact Nat.le_refl _), List.take_of_length_le (by rw [L2.out]; exact Nat.le_refl _)] at this)
        go_wp2
        go_ret
        exact ⟨ret_bool (by simpa using HE.out), hd⟩
  · have hnn : ((n1 : Int) != (n2 : Int)) = true := by rw [bne_iff_ne]; omega
    have HE := hid (show x ≠ y from by intro h; subst h; omega)
    clear hx hy l1 l2
    go_enter Tryz.func21, Tryz.ntmps21
    go_wp2
    go_ret
    exact ⟨ret_bool (by simpa using HE.out), 0, rfl⟩
theorem snew_at (sz ret p : Int) (w : World) (hs : 128 ≤ sz) (hs2 : sz ≤ 4096) (hk : keepB ret p) :
    Calls Tryz.prog 152 #[.int .i64 sz, .int .i64 ret, .int .i64 p] w fun e w' => ∃ b, e = .returned (.tuple #[.pointer (some ⟨b, 0, none⟩), .int .i64 0]) ∧ SerAt w' b sz (newSer ret p) ∧ w.heap.size ≤ b ∧ Below w.heap.size w w' := by
  refine (snew_ok sz ret p w hs hs2 hk).mono ?_
  rintro e w' ⟨h1, h2, h3, h4⟩
  exact ⟨_, h1, h2, h3, h4⟩
def okAt (z : List (Int × Int)) (line mx : Int) (i : Nat) : Prop := (if i = 0 then line else tOf z (i - 1) + 1) ≤ tOf z i ∧ tOf z i ≤ mx
instance (z : List (Int × Int)) (line mx : Int) (i : Nat) : Decidable (okAt z line mx i) := inferInstanceAs (Decidable (_ ∧ _))
def okTo (z : List (Int × Int)) (line mx : Int) (n : Nat) : Prop := ∀ i, i < n → okAt z line mx i
def riseZ (z : List (Int × Int)) (line mx : Int) : Prop := okTo z line mx z.length
instance (z : List (Int × Int)) (line mx : Int) : Decidable (riseZ z line mx) := inferInstanceAs (Decidable (∀ i, i < z.length → okAt z line mx i))
def standB (ret mx line : Int) : Prop := (-1 ≤ mx ∧ mx < 1099511627776) ∧ (0 ≤ line ∧ line ≤ max 0 mx) ∧ (ret = 0 ∨ mx - ret ≤ line)
instance (ret mx line : Int) : Decidable (standB ret mx line) := inferInstanceAs (Decidable (_ ∧ _))
def capS (a b : Int) : Int := if 9223372036854775807 < a + b then 9223372036854775807 else if a + b < -9223372036854775808 then -9223372036854775808 else a + b
theorem cap_any (a b : Int) (w : World) (ha : in64 a) (hb : in64 b) :
    Calls Tryz.prog 254 #[.int .i64 a, .int .i64 b] w fun e w' => e = .returned (.int .i64 (capS a b)) ∧ w = w' := by
  have HA := hid ha
  have HB := hid hb
  by_cases h1 : -9223372036854775808 ≤ a + b ∧ a + b ≤ 9223372036854775807
  · have E := hid (show addS a b = (a + b, 0) from by unfold addS; rw [if_pos h1])
    have C := hid (show capS a b = a + b from by unfold capS; rw [if_neg (by omega), if_neg (by omega)])
    clear ha hb
    go_enter Tryz.func254, Tryz.ntmps254
    go_wp2_with fail
    refine (add_any a b w HA.out HB.out).mono ?_
    rintro e w' ⟨rfl, rfl⟩
    rw [E.out]
    unfold two
    go_wp2
    go_ret
    exact ⟨by rw [C.out]; rfl, rfl⟩
  · have E := hid (show addS a b = (0, 9) from by unfold addS; rw [if_neg h1])
    by_cases h2 : a < 0
    · have C := hid (show capS a b = -9223372036854775808 from by unfold in64 at *; unfold capS; rw [if_neg (by omega), if_pos (by omega)])
      clear ha hb
      go_enter Tryz.func254, Tryz.ntmps254
      go_wp2_with fail
      refine (add_any a b w HA.out HB.out).mono ?_
      rintro e w' ⟨rfl, rfl⟩
      rw [E.out]
      unfold two
      go_wp2
      go_ret
      exact ⟨by rw [C.out]; rfl, rfl⟩
    · have C := hid (show capS a b = 9223372036854775807 from by unfold in64 at *; unfold capS; rw [if_pos (by omega)])
      clear ha hb
      go_enter Tryz.func254, Tryz.ntmps254
      go_wp2_with fail
      refine (add_any a b w HA.out HB.out).mono ?_
      rintro e w' ⟨rfl, rfl⟩
      rw [E.out]
      unfold two
      go_wp2
      go_ret
      exact ⟨by rw [C.out]; rfl, rfl⟩
def fold1 (f : Int → Int → Int) : List Int → Int
  | [] => 0
  | v :: l => l.foldl f v
theorem fold1_snoc (f : Int → Int → Int) (l : List Int) (x : Int) (h : l ≠ []) : fold1 f (l ++ [x]) = f (fold1 f l) x := by
  cases l with
  | nil => exact absurd rfl h
  | cons v l => simp [fold1]
def sumC (l : List Int) : Int := fold1 capS l
def minL (l : List Int) : Int := fold1 min l
def maxL (l : List Int) : Int := fold1 max l
def wideL (l : List Int) : Int := if maxL l - minL l ≤ 9223372036854775807 then maxL l - minL l else 9223372036854775807
def valK (k : Int) (l : List Int) : Int :=
  if l = [] then 0 else if k = 1 then sumC l else if k = 2 then minL l else if k = 3 then maxL l else if k = 4 then (l.length : Int) else if k = 5 then l.headD 0 else if k = 6 then l.getLastD 0 else if k = 7 then wideL l else 0
def isK (k : Int) (l : List Int) : Bool := decide (1 ≤ k ∧ k ≤ 7) && decide (l ≠ [])
theorem valK_nil (k : Int) : valK k [] = 0 := by unfold valK; rw [if_pos rfl]
theorem valK_no {k : Int} (l : List Int) (h : ¬ (1 ≤ k ∧ k ≤ 7)) : valK k l = 0 := by
  unfold valK
  split
  · rfl
  · rw [if_neg (by omega), if_neg (by omega), if_neg (by omega), if_neg (by omega), if_neg (by omega), if_neg (by omega), if_neg (by omega)]
theorem snoc_ints {P : List Int → Prop} (h1 : ∀ x, P [x]) (h2 : ∀ l x, l ≠ [] → P l → P (l ++ [x])) : ∀ l, l ≠ [] → P l := by
  have : ∀ n (l : List Int), l.length = n → l ≠ [] → P l := by
    intro n
    induction n with
    | zero => intro l hl hne; exact absurd (List.eq_nil_of_length_eq_zero hl) hne
    | succ n ih =>
      intro l hl hne
      rw [← List.dropLast_concat_getLast hne]
      by_cases h : l.dropLast = []
      · rw [h]; exact h1 _
      · exact h2 _ _ h (ih _ (by simp; omega) h)
  exact fun l => this _ l rfl
theorem minL_is : ∀ l : List Int, l ≠ [] → minL l ∈ l ∧ ∀ x ∈ l, minL l ≤ x := by
  refine snoc_ints (fun x => ?_) (fun l x hne ih => ?_)
  · exact ⟨by simp [minL, fold1], by simp [minL, fold1]⟩
  · have e : minL (l ++ [x]) = min (minL l) x := fold1_snoc min l x hne
    rw [e]
    obtain ⟨h1, h2⟩ := ih
    refine ⟨?_, ?_⟩
    · by_cases h : minL l ≤ x
      · rw [show min (minL l) x = minL l from by omega]; simp [h1]
      · rw [show min (minL l) x = x from by omega]; simp
    · intro y hy
      rcases List.mem_append.1 hy with hy | hy
      · have := h2 y hy; omega
      · have e2 : y = x := by simpa using hy
        subst e2; omega
theorem maxL_is : ∀ l : List Int, l ≠ [] → maxL l ∈ l ∧ ∀ x ∈ l, x ≤ maxL l := by
  refine snoc_ints (fun x => ?_) (fun l x hne ih => ?_)
  · exact ⟨by simp [maxL, fold1], by simp [maxL, fold1]⟩
  · have e : maxL (l ++ [x]) = max (maxL l) x := fold1_snoc max l x hne
    rw [e]
    obtain ⟨h1, h2⟩ := ih
    refine ⟨?_, ?_⟩
    · by_cases h : x ≤ maxL l
      · rw [show max (maxL l) x = maxL l from by omega]; simp [h1]
      · rw [show max (maxL l) x = x from by omega]; simp
    · intro y hy
      rcases List.mem_append.1 hy with hy | hy
      · have := h2 y hy; omega
      · have e2 : y = x := by simpa using hy
        subst e2; omega
theorem sumC_in : ∀ l : List Int, l ≠ [] → (∀ x ∈ l, in64 x) → in64 (sumC l) := by
  refine snoc_ints (P := fun l => (∀ x ∈ l, in64 x) → in64 (sumC l)) (fun x h => h x (by simp)) (fun l x hne ih h => ?_)
  have e : sumC (l ++ [x]) = capS (sumC l) x := fold1_snoc capS l x hne
  rw [e]
  unfold capS in64
  split
  · omega
  · split <;> omega
open Go.RowKit Go.Shelf
def SCel (w : World) (b : Nat) (k n m lo hi : Int) : Prop := w.heap[b]? = some (.cells #[.int .i64 k, .int .i64 n, .int .i64 m, .int .i64 lo, .int .i64 hi] 241 (0, 0))
def fv (f : FuncId) : Value := .func (.func f) #[] #[]
theorem jmin_any (a b : Int) (w : World) : Calls Tryz.prog 255 #[.int .i64 a, .int .i64 b] w fun e w' => e = .returned (.int .i64 (min a b)) ∧ w = w' := by
  by_cases h : a ≤ b
  · have E := hid (Int.min_eq_left h)
    go_enter Tryz.func255, Tryz.ntmps255
    go_wp2
    go_ret
    exact ⟨ret_int E.out.symm, rfl⟩
  · have E := hid (Int.min_eq_right (show b ≤ a by omega))
    go_enter Tryz.func255, Tryz.ntmps255
    go_wp2
    go_ret
    exact ⟨ret_int E.out.symm, rfl⟩
theorem jmax_any (a b : Int) (w : World) : Calls Tryz.prog 256 #[.int .i64 a, .int .i64 b] w fun e w' => e = .returned (.int .i64 (max a b)) ∧ w = w' := by
  by_cases h : b ≤ a
  · have E := hid (Int.max_eq_left h)
    go_enter Tryz.func256, Tryz.ntmps256
    go_wp2
    go_ret
    exact ⟨ret_int E.out.symm, rfl⟩
  · have E := hid (Int.max_eq_right (show a ≤ b by omega))
    go_enter Tryz.func256, Tryz.ntmps256
    go_wp2
    go_ret
    exact ⟨ret_int E.out.symm, rfl⟩
theorem jfst_any (a b : Int) (w : World) : Calls Tryz.prog 257 #[.int .i64 a, .int .i64 b] w fun e w' => e = .returned (.int .i64 a) ∧ w = w' := by
  go_enter Tryz.func257, Tryz.ntmps257
  go_wp2
  go_ret
  exact ⟨rfl, rfl⟩
theorem jlst_any (a b : Int) (w : World) : Calls Tryz.prog 258 #[.int .i64 a, .int .i64 b] w fun e w' => e = .returned (.int .i64 b) ∧ w = w' := by
  go_enter Tryz.func258, Tryz.ntmps258
  go_wp2
  go_ret
  exact ⟨rfl, rfl⟩
def JoinA (jf : Value) (w : World) (e : Ending) (w' : World) : Prop :=
  e = .returned (.agg #[.func (.func 303) #[] #[.pointer (some ⟨w.heap.size, 0, none⟩)], fv 304]) ∧ w'.cell? ⟨w.heap.size, 0, none⟩ = some jf ∧ w.heap.size < w'.heap.size ∧ Below w.heap.size w w'
theorem alloc2 (w : World) (x y : Obj) : ∀ W, (w.alloc x).alloc y = W → W.heap[w.heap.size]? = some x ∧ W.heap[w.heap.size + 1]? = some y ∧ Below w.heap.size w W ∧ w.heap.size + 2 = W.heap.size := by
  intro W h
  subst h
  have e : (w.alloc x).heap.size = w.heap.size + 1 := by simp
  refine ⟨heap_old (heap_new w x), ?_, ((Below.refl w.heap.size w).alloc (Nat.le_refl _) _).alloc (by simp) _, by simp⟩
  have := heap_new (w.alloc x) y
  rwa [e] at this
theorem joining_any (g : FuncId) (w : World) : Calls Tryz.prog 253 #[fv g] w (JoinA (fv g) w) := by
  unfold fv
  go_enter Tryz.func253, Tryz.ntmps253
  go_wp2
  obtain ⟨W, hW⟩ : ∃ W, (w.alloc (.cells #[.func (.func g) #[] #[]] 125)).alloc (.cells #[.func (.func 303) #[] #[.pointer (some ⟨w.heap.size, 0, none⟩)], .func (.func 304) #[] #[]] 245) = W := ⟨_, rfl⟩
  obtain ⟨h0, h1, B, hs⟩ := alloc2 _ _ _ _ hW
  rw [hW]
  refine bodyPost_ret (results_cell_row rfl _ _ _ _ _ _ _ rfl h1 Tryz.underlying245 rfl rfl) rfl ?_
  exact ⟨rfl, by rw [cell_of h0]; rfl, heap_lt h0, B⟩
theorem alloc1 (w : World) (y : Obj) : ∀ W, w.alloc y = W → W.heap[w.heap.size]? = some y ∧ Below w.heap.size w W ∧ w.heap.size + 1 = W.heap.size := by
  intro W h
  subst h
  exact ⟨heap_new w y, (Below.refl w.heap.size w).alloc (Nat.le_refl _) _, by simp⟩
def PairA (f g : FuncId) (w : World) (e : Ending) (w' : World) : Prop := e = .returned (.agg #[fv f, fv g]) ∧ Below w.heap.size w w'
theorem spanning_any (w : World) : Calls Tryz.prog 259 #[] w (PairA 305 306 w) := by
  go_enter Tryz.func259, Tryz.ntmps259
  go_wp2
  obtain ⟨W, hW⟩ : ∃ W, w.alloc (.cells #[.func (.func 305) #[] #[], .func (.func 306) #[] #[]] 245) = W := ⟨_, rfl⟩
  obtain ⟨h1, B, hs⟩ := alloc1 _ _ _ hW
  rw [hW]
  refine bodyPost_ret (results_cell_row rfl _ _ _ _ _ _ _ rfl h1 Tryz.underlying245 rfl rfl) rfl ?_
  exact ⟨rfl, B⟩
theorem counting_any (w : World) : Calls Tryz.prog 260 #[] w (PairA 307 308 w) := by
  go_enter Tryz.func260, Tryz.ntmps260
  go_wp2
  obtain ⟨W, hW⟩ : ∃ W, w.alloc (.cells #[.func (.func 307) #[] #[], .func (.func 308) #[] #[]] 245) = W := ⟨_, rfl⟩
  obtain ⟨h1, B, hs⟩ := alloc1 _ _ _ hW
  rw [hW]
  refine bodyPost_ret (results_cell_row rfl _ _ _ _ _ _ _ rfl h1 Tryz.underlying245 rfl rfl) rfl ?_
  exact ⟨rfl, B⟩
def TurnP (b : Nat) (k n m lo hi : Int) (w : World) (e : Ending) (w' : World) : Prop := e = .returned (.tuple #[]) ∧ SCel w' b k n m lo hi ∧ w.grownBy w' (some b)
theorem SCel.lt {w : World} {b : Nat} {k n m lo hi : Int} (h : SCel w b k n m lo hi) : b < w.heap.size := heap_lt h
theorem join1_first (b c : Nat) (k m lo hi v : Int) (w : World) (h : SCel w b k 0 m lo hi) :
    Calls Tryz.prog 303 #[.pointer (some ⟨b, 0, none⟩), .int .i64 v, .pointer (some ⟨c, 0, none⟩)] w (TurnP b k 0 v lo hi w) := by
  have H := hid h
  have c1 : w.cell? ⟨b, 1, none⟩ = some (.int .i64 0) := by rw [cell_of h]; rfl
  have c2 : w.cell? ⟨b, 2, none⟩ = some (.int .i64 m) := by rw [cell_of h]; rfl
  have f2 := frozen_of (o := 2) h
  have H2 := hid (heap_set (o := 2) (v := .int .i64 v) h)
  clear h
  go_enter Tryz.func303, Tryz.ntmps303
  go_wp2
  go_end0
  exact ⟨rfl, H2.out, gb_set (gb_refl _ _) _ _⟩
theorem join1_more (g : FuncId) (J : Int → Int → Int) (hent : ∀ args w, (callFunc g args).run Tryz.prog w = .ok (.enter g args) w) (hJ : Hid (∀ x y W, in64 x → in64 y → Calls Tryz.prog g #[.int .i64 x, .int .i64 y] W fun e w' => e = .returned (.int .i64 (J x y)) ∧ W = w'))
    (b c : Nat) (k n m lo hi v : Int) (w : World) (h : SCel w b k n m lo hi) (hc : w.cell? ⟨c, 0, none⟩ = some (fv g)) (hn : 0 < n) (hm : in64 m) (hv : in64 v) :
    Calls Tryz.prog 303 #[.pointer (some ⟨b, 0, none⟩), .int .i64 v, .pointer (some ⟨c, 0, none⟩)] w (TurnP b k n (J m v) lo hi w) := by
  unfold fv at hc
  have H := hid h
  have HM := hid hm
  have HV := hid hv
  clear hm hv
  have c1 : w.cell? ⟨b, 1, none⟩ = some (.int .i64 n) := by rw [cell_of h]; rfl
  have c2 : w.cell? ⟨b, 2, none⟩ = some (.int .i64 m) := by rw [cell_of h]; rfl
  clear h
  go_enter Tryz.func303, Tryz.ntmps303
  go_wp2
  go_quiet (with_reducible exact quietL (hJ.out _ _ _ HM.out HV.out))
  have g1 := (show Drew w (w.drewN nq) from ⟨nq, rfl⟩).gb (some b)
  have h2 : SCel (w.drewN nq) b k n m lo hi := H.out
  generalize w.drewN nq = W1 at *
  have d2 : W1.cell? ⟨b, 2, none⟩ = some (.int .i64 m) := by rw [cell_of h2]; rfl
  have f2 := frozen_of (o := 2) h2
  have H2 := hid (heap_set (o := 2) (v := .int .i64 (J m v)) h2)
  clear h2 c1 c2
  go_wp2
  go_end0
  exact ⟨rfl, H2.out, gb_set g1 _ _⟩
theorem join2_any (b : Nat) (k n m lo hi : Int) (w : World) (h : SCel w b k n m lo hi) :
    Calls Tryz.prog 304 #[.pointer (some ⟨b, 0, none⟩)] w fun e w' => e = .returned (.int .i64 m) ∧ w = w' := by
  have c2 : w.cell? ⟨b, 2, none⟩ = some (.int .i64 m) := by rw [cell_of h]; rfl
  clear h
  go_enter Tryz.func304, Tryz.ntmps304
  go_wp2
  go_ret
  exact ⟨rfl, rfl⟩
theorem count1_any (b : Nat) (v : Int) (w : World) :
    Calls Tryz.prog 307 #[.pointer (some ⟨b, 0, none⟩), .int .i64 v] w fun e w' => e = .returned (.tuple #[]) ∧ w = w' := by
  go_enter Tryz.func307, Tryz.ntmps307
  go_wp2
  go_end0
  exact ⟨rfl, rfl⟩
theorem count2_any (b : Nat) (k n m lo hi : Int) (w : World) (h : SCel w b k n m lo hi) :
    Calls Tryz.prog 308 #[.pointer (some ⟨b, 0, none⟩)] w fun e w' => e = .returned (.int .i64 n) ∧ w = w' := by
  have c2 : w.cell? ⟨b, 1, none⟩ = some (.int .i64 n) := by rw [cell_of h]; rfl
  clear h
  go_enter Tryz.func308, Tryz.ntmps308
  go_wp2
  go_ret
  exact ⟨rfl, rfl⟩
theorem span2_any (b : Nat) (k n m lo hi : Int) (w : World) (h : SCel w b k n m lo hi) (hl : in64 lo) (hh : in64 hi) (hle : lo ≤ hi) :
    Calls Tryz.prog 306 #[.pointer (some ⟨b, 0, none⟩)] w fun e w' => e = .returned (.int .i64 (if hi - lo ≤ 9223372036854775807 then hi - lo else 9223372036854775807)) ∧ Drew w w' := by
  have c3 : w.cell? ⟨b, 3, none⟩ = some (.int .i64 lo) := by rw [cell_of h]; rfl
  have c4 : w.cell? ⟨b, 4, none⟩ = some (.int .i64 hi) := by rw [cell_of h]; rfl
  unfold in64 at hl hh
  clear h
  by_cases hd : hi - lo ≤ 9223372036854775807
  · have E := hid (show (if hi - lo ≤ 9223372036854775807 then hi - lo else 9223372036854775807) = hi - lo from if_pos hd)
    rw [E.out]
    have t1 : wrap64 (hi - lo) = hi - lo := by unfold wrap64; omega
    go_enter Tryz.func306, Tryz.ntmps306
    go_wp2
    go_quiet (fail)
    go_wp2
    go_ret
    exact ⟨rfl, nq, rfl⟩
  · have E := hid (show (if hi - lo ≤ 9223372036854775807 then hi - lo else 9223372036854775807) = 9223372036854775807 from if_neg hd)
    rw [E.out]
    have t1 : ¬ (0 ≤ wrap64 (hi - lo)) := by unfold wrap64; omega
    go_enter Tryz.func306, Tryz.ntmps306
    go_wp2
    go_quiet (fail)
    go_wp2
    go_ret
    exact ⟨rfl, nq, rfl⟩
theorem span1_first (b : Nat) (k m lo hi v : Int) (w : World) (h : SCel w b k 0 m lo hi) :
    Calls Tryz.prog 305 #[.pointer (some ⟨b, 0, none⟩), .int .i64 v] w (TurnP b k 0 m v v w) := by
  have c1 : w.cell? ⟨b, 1, none⟩ = some (.int .i64 0) := by rw [cell_of h]; rfl
  have c3 : w.cell? ⟨b, 3, none⟩ = some (.int .i64 lo) := by rw [cell_of h]; rfl
  have c4 : w.cell? ⟨b, 4, none⟩ = some (.int .i64 hi) := by rw [cell_of h]; rfl
  have f3 := frozen_of (o := 3) h
  have f4 := frozen_of (o := 4) h
  have hv : v ≤ v := Int.le_refl v
  have H2 := heap_set (o := 4) (v := .int .i64 v) (heap_set (o := 3) (v := .int .i64 v) h)
  have G2 := gb_set (gb_set (gb_refl w (some b)) 3 (.int .i64 v)) 4 (.int .i64 v)
  have H2' := hid H2
  clear h H2
  go_enter Tryz.func305, Tryz.ntmps305
  go_wp2
  generalize (w.setCell ⟨b, 3, none⟩ (.int .i64 v)).setCell ⟨b, 4, none⟩ (.int .i64 v) = W0 at *
  have h1 := H2'.out
  have g1 := G2
  clear G2 H2' c1 c3 c4 f3 f4
  have c3 : W0.cell? ⟨b, 3, none⟩ = some (.int .i64 v) := by rw [cell_of h1]; rfl
  have c4 : W0.cell? ⟨b, 4, none⟩ = some (.int .i64 v) := by rw [cell_of h1]; rfl
  have f3 := frozen_of (o := 3) h1
  have f4 := frozen_of (o := 4) h1
  go_region
  go_end0
  exact ⟨rfl, heap_set (o := 4) (v := .int .i64 v) (heap_set (o := 3) (v := .int .i64 v) h1), gb_drew (gb_set (gb_set g1 3 (.int .i64 v)) 4 (.int .i64 v))⟩
theorem span1_more (b : Nat) (k n m lo hi v : Int) (w : World) (h : SCel w b k n m lo hi) (hn : 0 < n) :
    Calls Tryz.prog 305 #[.pointer (some ⟨b, 0, none⟩), .int .i64 v] w (TurnP b k n m (min lo v) (max hi v) w) := by
  have c1 : w.cell? ⟨b, 1, none⟩ = some (.int .i64 n) := by rw [cell_of h]; rfl
  have G2 := gb_refl w (some b)
  have HS := hid h
  have H2' := hid h
  have hn0 : (n == 0) = false := by simp; omega
  obtain ⟨lo', E1⟩ : ∃ x, Hid (min lo v = x) := ⟨_, hid rfl⟩
  obtain ⟨hi', E2⟩ : ∃ x, Hid (max hi v = x) := ⟨_, hid rfl⟩
  rw [E1.out, E2.out]
  by_cases h1 : lo ≤ v <;> by_cases h2 : v ≤ hi
  all_goals
    have e1 := E1.out
    have e2 := E2.out
    first | rw [Int.min_eq_left h1] at e1 | rw [Int.min_eq_right (by omega)] at e1
    first | rw [Int.max_eq_left h2] at e2 | rw [Int.max_eq_right (by omega)] at e2
    subst e1 e2
    clear h E1 E2
    go_enter Tryz.func305, Tryz.ntmps305
    go_wp2
    have h1 := H2'.out
    have f3 := frozen_of (o := 3) h1
    have f4 := frozen_of (o := 4) h1
    have c3 : w.cell? ⟨b, 3, none⟩ = some (.int .i64 lo) := by rw [cell_of h1]; rfl
    have c4 : w.cell? ⟨b, 4, none⟩ = some (.int .i64 hi) := by rw [cell_of h1]; rfl
    clear h1 H2' G2 c1
    go_region
    go_end0
    exact ⟨rfl, heap_set (o := 4) (heap_set (o := 3) HS.out), gb_drew (gb_set (gb_set (gb_refl w (some b)) 3 _) 4 _)⟩
end Go.Proofs.YtmifpfojhlmbkaaGreat
