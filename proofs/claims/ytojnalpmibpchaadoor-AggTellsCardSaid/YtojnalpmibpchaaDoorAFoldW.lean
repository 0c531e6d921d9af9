/-
  Contract of strings.EqualFold of two texts of the same length, one of small letters other than k, the other with a byte that is no letter of ASCII: no.
-/
import Derived.Test.YtojnalpmibpchaaDoorADec
import Derived.ScopeJumps
import Derived.Lib.OthersKept
import Derived.Lib.RuneCountTail
import Derived.Lib.DecodeN
import Derived.Laws.RangeAny
import Derived.Deep.LoopGhost
namespace Go.Proofs.YtojnalpmibpchaaDoor
open Go.RowKit Go.Lib
set_option linter.unusedVariables false
set_option linter.unusedSimpArgs false

/-- Small letters, but k. -/
def Low (t : ByteArray) : Prop := ∀ j : Nat, j < t.size → 97 ≤ (t.get! j).toNat ∧ (t.get! j).toNat ≤ 122 ∧ (t.get! j).toNat ≠ 107
theorem low_tail {t : ByteArray} (h : Low t) (n : Nat) : Low (t.extract n t.size) := fun j hj => by
  rw [tail_size] at hj
  rw [tail_get!]
  exact h (n + j) (by omega)
theorem get_is (s : ByteArray) (j : Nat) (h : j < s.size) : s.get! j = s[j] := by
  show s.data[j]! = s.data[j]
  rw [getElem!_pos s.data j h]
theorem decode_383 (s : ByteArray) (p : Nat) (h : (Utf8.decode s p).1 = 383) : (Utf8.decode s p).2 = 2 ∧ 1 < s.size - p := by
  rw [decode_at] at h ⊢
  revert h
  unfold decodeN
  repeat' split
  all_goals (intro h; simp only at h; first | (exfalso; omega) | (refine ⟨rfl, ?_⟩; omega))
/-- How much is left of what is gone over. -/
def iterM (w : World) (k N : Nat) : Nat := match w.heap[k]? with
  | some (.stringIter _ p) => N - p
  | _ => 0
theorem iterM_of {w : World} {k N p : Nat} {s : ByteArray} (h : w.heap[k]? = some (.stringIter s p)) : iterM w k N = N - p := by unfold iterM; rw [h]
theorem lit123 (ts : Array Value) (h : ts.size = 123) : ts = #[ts.getD 0 undef, ts.getD 1 undef, ts.getD 2 undef, ts.getD 3 undef, ts.getD 4 undef, ts.getD 5 undef, ts.getD 6 undef, ts.getD 7 undef, ts.getD 8 undef, ts.getD 9 undef, ts.getD 10 undef, ts.getD 11 undef, ts.getD 12 undef, ts.getD 13 undef, ts.getD 14 undef, ts.getD 15 undef, ts.getD 16 undef, ts.getD 17 undef, ts.getD 18 undef, ts.getD 19 undef, ts.getD 20 undef, ts.getD 21 undef, ts.getD 22 undef, ts.getD 23 undef, ts.getD 24 undef, ts.getD 25 undef, ts.getD 26 undef, ts.getD 27 undef, ts.getD 28 undef, ts.getD 29 undef, ts.getD 30 undef, ts.getD 31 undef, ts.getD 32 undef, ts.getD 33 undef, ts.getD 34 undef, ts.getD 35 undef, ts.getD 36 undef, ts.getD 37 undef, ts.getD 38 undef, ts.getD 39 undef, ts.getD 40 undef, ts.getD 41 undef, ts.getD 42 undef, ts.getD 43 undef, ts.getD 44 undef, ts.getD 45 undef, ts.getD 46 undef, ts.getD 47 undef, ts.getD 48 undef, ts.getD 49 undef, ts.getD 50 undef, ts.getD 51 undef, ts.getD 52 undef, ts.getD 53 undef, ts.getD 54 undef, ts.getD 55 undef, ts.getD 56 undef, ts.getD 57 undef, ts.getD 58 undef, ts.getD 59 undef, ts.getD 60 undef, ts.getD 61 undef, ts.getD 62 undef, ts.getD 63 undef, ts.getD 64 undef, ts.getD 65 undef, ts.getD 66 undef, ts.getD 67 undef, ts.getD 68 undef, ts.getD 69 undef, ts.getD 70 undef, ts.getD 71 undef, ts.getD 72 undef, ts.getD 73 undef, ts.getD 74 undef, ts.getD 75 undef, ts.getD 76 undef, ts.getD 77 undef, ts.getD 78 undef, ts.getD 79 undef, ts.getD 80 undef, ts.getD 81 undef, ts.getD 82 undef, ts.getD 83 undef, ts.getD 84 undef, ts.getD 85 undef, ts.getD 86 undef, ts.getD 87 undef, ts.getD 88 undef, ts.getD 89 undef, ts.getD 90 undef, ts.getD 91 undef, ts.getD 92 undef, ts.getD 93 undef, ts.getD 94 undef, ts.getD 95 undef, ts.getD 96 undef, ts.getD 97 undef, ts.getD 98 undef, ts.getD 99 undef, ts.getD 100 undef, ts.getD 101 undef, ts.getD 102 undef, ts.getD 103 undef, ts.getD 104 undef, ts.getD 105 undef, ts.getD 106 undef, ts.getD 107 undef, ts.getD 108 undef, ts.getD 109 undef, ts.getD 110 undef, ts.getD 111 undef, ts.getD 112 undef, ts.getD 113 undef, ts.getD 114 undef, ts.getD 115 undef, ts.getD 116 undef, ts.getD 117 undef, ts.getD 118 undef, ts.getD 119 undef, ts.getD 120 undef, ts.getD 121 undef, ts.getD 122 undef] := by
  have e : ts = ((List.range 123).map fun k => ts.getD k undef).toArray := by
    apply Array.ext
    · simp [h]
    · intro k h1 h2
      simp [Array.getD, h1]
  exact e
def JFold (s t : ByteArray) (w : World) (M : Nat) : Act → World → Prop := fun a' w' => w' = w ∧ ∃ i : Nat, a'.defers = [] ∧ a'.tmps.size = 123 ∧ a'.tmps.getD 0 undef = .string s ∧ a'.tmps.getD 1 undef = .string t ∧ a'.tmps.getD 5 undef = .int .i64 (i : Int) ∧ a'.tmps.getD 6 undef = .int .i64 (M : Int) ∧ i < M ∧ Hid (128 ≤ (s.get! i).toNat)

set_option maxHeartbeats 16000000 in
set_option maxRecDepth 1000000 in
theorem fold_wide (s t : ByteArray) (w : World) (hA : AsciiAt w) (hO : OrbAt w) (hs : s.size ≤ 100) (hl : s.size = t.size) (hat : Low t) (hw : ∃ j, ∃ (h : j < s.size), 128 ≤ (s[j]'h).toNat) :
    Calls Tryd.prog 21 #[.string s, .string t] w fun e w' => e = .returned (.bool false) ∧ Below w.heap.size w w' := by
  have HA := Lib.hid hA
  have HO := Lib.hid hO
  have HAT := Lib.hid hat
  have HL := Lib.hid hl
  have HW := Lib.hid hw
  obtain ⟨M, hM⟩ : ∃ M, s.size = M := ⟨_, rfl⟩
  have hMt : t.size = M := by omega
  have hmin : min (s.size : Int) (t.size : Int) = (M : Int) := by omega
  clear hat hA hO hw
  go_enter Tryd.func21, Tryd.ntmps21
  go_wp2
  refine wp_scope_jumps 0 (JFold s t w M) (fun _ _ => 0) rfl ?_ ?_
  · go_wp2
    go_loopw [5] (fun i wr => ∃ j : Nat, j ≤ M ∧ i = .int .i64 (j : Int) ∧ Hid (∀ k (h : k < s.size), k < j → (s[k]'h).toNat < 128) ∧ w = wr) (fun i _ => M - (RowKit.intOf i).toNat)
    case atStart => exact ⟨0, Nat.zero_le _, rfl, Lib.hid (fun k _ h => by omega), rfl⟩
    case round =>
      obtain ⟨j, hj, rfl, HK, rfl⟩ := hrel
      by_cases hjm : j < M
      · have h1 : j < s.size := by omega
        have h2 : j < t.size := by omega
        obtain ⟨x, hx⟩ : ∃ x : UInt8, s[j]'h1 = x := ⟨_, rfl⟩
        obtain ⟨y, hy⟩ : ∃ y : UInt8, t[j]'h2 = y := ⟨_, rfl⟩
        have hy128 : y.toNat < 128 := by rw [← hy, ← get_is t j h2]; have := HAT.out j h2; omega
        have hx256 := x.toNat_lt
        have hor : bits .or .u8 (x.toNat : Int) (y.toNat : Int) = ((x.toNat ||| y.toNat : Nat) : Int) := u8_or_nat _ _ (by omega) (by omega)
        by_cases hxa : x.toNat < 128
        · have hor128 : ¬ ((128 : Int) ≤ ((x.toNat ||| y.toNat : Nat) : Int)) := by have := Nat.or_lt_two_pow (n := 7) hxa hy128; omega
          have HK2 := Lib.hid (show ∀ k (h : k < s.size), k < j + 1 → (s[k]'h).toNat < 128 from fun k h hk => by
            by_cases q : k = j
            · subst q; rw [hx]; exact hxa
            · exact HK.out k h (by omega))
          go_wp2
          all_goals (try simp only [beq_iff_eq, beq_eq_false_iff_ne, ne_eq] at *)
          all_goals first
            | (go_roundw
               case rel => exact ⟨j + 1, by omega, by go_num, HK2, by trivial⟩
               case measure => simp [RowKit.intOf]; omega)
            | (try simp only [Exit.jump]
               go_ret
               exact ⟨rfl, Below.refl _ _⟩)
        · have hor128 : (128 : Int) ≤ ((x.toNat ||| y.toNat : Nat) : Int) := by have := Nat.left_le_or (n := x.toNat) (m := y.toNat); omega
          have HX := Lib.hid (show 128 ≤ (s.get! j).toNat from by rw [get_is s j h1, hx]; omega)
          go_wp2
          go_step3
          (try simp only [Exit.inBlock, Exit.then, Exit.jump])
          exact ⟨rfl, rfl, j, rfl, rfl, rfl, rfl, rfl, rfl, hjm, HX⟩
      · exfalso
        obtain ⟨k, hk, hk2⟩ := HW.out
        have := HK.out k hk (by omega)
        omega
  · intro a' w' hJ
    obtain ⟨rfl, i, hd, hsz, g0, g1, g5, g6, hi, HX⟩ := hJ
    obtain ⟨ts, df⟩ := a'
    simp only at hd hsz g0 g1 g5 g6
    subst hd
    obtain ⟨u, hu, e0, e1, e5, e6⟩ : ∃ u : Nat → Value, ts = #[u 0, u 1, u 2, u 3, u 4, u 5, u 6, u 7, u 8, u 9, u 10, u 11, u 12, u 13, u 14, u 15, u 16, u 17, u 18, u 19, u 20, u 21, u 22, u 23, u 24, u 25, u 26, u 27, u 28, u 29, u 30, u 31, u 32, u 33, u 34, u 35, u 36, u 37, u 38, u 39, u 40, u 41, u 42, u 43, u 44, u 45, u 46, u 47, u 48, u 49, u 50, u 51, u 52, u 53, u 54, u 55, u 56, u 57, u 58, u 59, u 60, u 61, u 62, u 63, u 64, u 65, u 66, u 67, u 68, u 69, u 70, u 71, u 72, u 73, u 74, u 75, u 76, u 77, u 78, u 79, u 80, u 81, u 82, u 83, u 84, u 85, u 86, u 87, u 88, u 89, u 90, u 91, u 92, u 93, u 94, u 95, u 96, u 97, u 98, u 99, u 100, u 101, u 102, u 103, u 104, u 105, u 106, u 107, u 108, u 109, u 110, u 111, u 112, u 113, u 114, u 115, u 116, u 117, u 118, u 119, u 120, u 121, u 122] ∧ u 0 = .string s ∧ u 1 = .string t ∧ u 5 = .int .i64 (i : Int) ∧ u 6 = .int .i64 (M : Int) :=
      ⟨fun k => ts.getD k undef, lit123 ts hsz, g0, g1, g5, g6⟩
    rw [hu, e0, e1, e5, e6]
    clear hu e0 e1 e5 e6 g0 g1 g5 g6 hsz
    have hi1 : i < s.size := by omega
    have hi2 : i < t.size := by omega
    have hi3 : (i : Int) ≤ (s.size : Int) := by omega
    have hi4 : (i : Int) ≤ (t.size : Int) := by omega
    obtain ⟨N, hN⟩ : ∃ N, M - i = N := ⟨_, rfl⟩
    have HS1 := Lib.hid (show (s.extract i s.size).size = N from by rw [tail_size, hM]; exact hN)
    have HT1 := Lib.hid (show (t.extract i t.size).size = N from by rw [tail_size, hMt]; exact hN)
    have HLT := Lib.hid (low_tail HAT.out i)
    have HFST := Lib.hid (show 128 ≤ (Utf8.decode (s.extract i s.size) 0).1 from by
      rw [tail_decode]
      exact (decode_high s (i + 0) hi1 (by have := HX.out; rw [get_is s i hi1] at this; exact this)).1)
    have hN0 : 0 < N := by omega
    rw [hM] at HS1 HFST
    rw [hMt] at HT1 HLT
    go_wp2
    generalize s.extract i M = s1 at *
    generalize t.extract i M = t1 at *
    have hk0 : (w'.iter s1 0).heap[w'.heap.size]? = some (.stringIter s1 0) := heap_new w' (.stringIter s1 0)
    have B0 : Below w'.heap.size w' (w'.iter s1 0) := (Below.refl w'.heap.size w').alloc (Nat.le_refl _) (.stringIter s1 0)
    go_loopw [1] (fun tv wr => ∃ (p q : Nat) (tq : ByteArray), tv = .string tq ∧ Hid (Low tq) ∧ Hid (tq.size + q = N) ∧ wr.heap[w'.heap.size]? = some (.stringIter s1 p) ∧ q < N ∧ (p = 0 ∧ q = 0 ∨ q < p) ∧ Below w'.heap.size w' wr) (fun _ wr => iterM wr w'.heap.size N)
    case atStart => exact ⟨0, 0, t1, rfl, HLT, Lib.hid (by rw [HT1.out]; rfl), hk0, hN0, .inl ⟨rfl, rfl⟩, B0⟩
    case round =>
      clear hk0 B0
      obtain ⟨p, q, tq, rfl, HLW, HSZ, hk, hqN, hpq, B⟩ := hrel
      by_cases hp : p < N
      · have hp1 : p < s1.size := by rw [HS1.out]; exact hp
        have hnx : ∀ ty, (Instr.next (.pointer (some ⟨w'.heap.size, 0, none⟩)) true ty).run Tryd.prog wr = _ := fun ty => run_next_any_at (P := Tryd.prog) wr w'.heap.size s1 p ty hk hp1
        have hd1 := width_pos s1 p
        have hr1 := rune_le s1 p
        have H383 := Lib.hid (decode_383 s1 p)
        have HR0 := Lib.hid (show p = 0 → 128 ≤ (Utf8.decode s1 p).1 from fun e => by rw [e]; exact HFST.out)
        have hk2 := iterAt_heap wr w'.heap.size s1 p (p + (Utf8.decode s1 p).2) hk
        have B2 := below_iterAt B (Nat.le_refl _) s1 (p + (Utf8.decode s1 p).2)
        generalize wr.iterAt w'.heap.size s1 (p + (Utf8.decode s1 p).2) = W2 at *
        generalize (Utf8.decode s1 p).1 = r at *
        generalize (Utf8.decode s1 p).2 = d at *
        have HM0 := Lib.hid (iterM_of (N := N) hk)
        have HM1 := Lib.hid (iterM_of (N := N) hk2)
        have hts : 0 < tq.size := by have := HSZ.out; omega
        obtain ⟨hl1, hl2, hl3⟩ := HLW.out 0 hts
        rw [get_is tq 0 hts] at hl1 hl2 hl3
        have hz : ((tq.size : Int) == 0) = false := by rw [beq_eq_false_iff_ne]; omega
        have HLT2 := Lib.hid (low_tail HLW.out 1)
        have HSZ2 := Lib.hid (show (tq.extract 1 tq.size).size + (q + 1) = N from by rw [tail_size]; have := HSZ.out; omega)
        have hts1 : (1 : Int) ≤ (tq.size : Int) := by omega
        obtain ⟨c, hc⟩ : ∃ c : Nat, (tq[0]'hts).toNat = c := ⟨_, rfl⟩
        have HDEC := Lib.hid (dec_ascii tq W2 hts (by omega))
        rw [hc] at hl1 hl2 hl3 HDEC
        clear hc
        go_wp2_with fail
        refine HDEC.out.mono ?_
        rintro e W3 ⟨rfl, rfl⟩
        clear hnx hk B
        by_cases hcr : c = r
        · have tb : ((c : Int) == (r : Int)) = true := by rw [beq_iff_eq]; omega
          have hp0 : q < p := by
            rcases hpq with h | h
            · have := HR0.out h.1; omega
            · exact h
          go_wp2
          go_roundw
          case rel => exact ⟨p + d, q + 1, tq.extract 1 tq.size, rfl, HLT2, HSZ2, hk2, by omega, .inr (by omega), B2⟩
          case measure => rw [HM0.out, HM1.out]; omega
        · have tb : ((c : Int) == (r : Int)) = false := by rw [beq_eq_false_iff_ne]; omega
          by_cases hlt : (c : Int) < (r : Int)
          · by_cases hr : (r : Int) < 128
            · go_wp2
              simp only [Exit.jump]
              go_ret
              exact ⟨rfl, B2⟩
            · have HAW := Lib.hid (HA.out.below B2)
              have HOW := Lib.hid (HO.out.below B2)
              go_wp2_with fail
              refine (sfold_ascii c W2 (by omega) HAW.out).mono ?_
              rintro e W3 ⟨rfl, rfl⟩
              by_cases hc5 : c = 115
              · subst hc5
                have ef : afold 115 = 383 := by decide
                rw [ef]
                go_wp2
                go_loopw [13] (fun x wr => ((x = .int .i32 383) ∨ (x = .int .i32 83 ∧ 383 < r) ∨ (x = .int .i32 115 ∧ 383 < r)) ∧ W2 = wr) (fun x _ => if RowKit.intOf x = 383 then 2 else if RowKit.intOf x = 83 then 1 else 0)
                case atStart => exact ⟨.inl rfl, rfl⟩
                case round =>
                  obtain ⟨hx, rfl⟩ := hrel
                  rcases hx with rfl | ⟨rfl, h3⟩ | ⟨rfl, h3⟩
                  · by_cases h3 : (383 : Int) < (r : Int)
                    · go_wp2_with fail
                      refine (sfold_383 W2 HOW.out).mono ?_
                      rintro e W3 ⟨rfl, rfl⟩
                      go_wp2
                      go_roundw
                      case rel => exact ⟨.inr (.inl ⟨rfl, by omega⟩), by trivial⟩
                      case measure => decide
                    · by_cases h4 : r = 383
                      · have h5 := H383.out h4
                        have tr : ((383 : Int) == (r : Int)) = true := by rw [beq_iff_eq]; omega
                        have h6 := HS1.out
                        go_wp2
                        go_roundw
                        case rel => exact ⟨p + d, q + 1, tq.extract 1 tq.size, rfl, HLT2, HSZ2, hk2, by omega, .inr (by omega), B2⟩
                        case measure => rw [HM0.out, HM1.out]; omega
                      · have tr : ((383 : Int) == (r : Int)) = false := by rw [beq_eq_false_iff_ne]; omega
                        go_wp2
                        simp only [Exit.jump]
                        go_ret
                        exact ⟨rfl, B2⟩
                  · have h3' : (83 : Int) < (r : Int) := by omega
                    go_wp2_with fail
                    refine (sfold_ascii 83 W2 (by omega) HAW.out).mono ?_
                    rintro e W3 ⟨rfl, rfl⟩
                    have ef2 : afold 83 = 115 := by decide
                    rw [ef2]
                    go_wp2
                    go_roundw
                    case rel => exact ⟨.inr (.inr ⟨rfl, h3⟩), by trivial⟩
                    case measure => decide
                  · have tr : ((115 : Int) == (r : Int)) = false := by rw [beq_eq_false_iff_ne]; omega
                    go_wp2
                    simp only [Exit.jump]
                    go_ret
                    exact ⟨rfl, B2⟩
              · obtain ⟨b, hb⟩ : ∃ b : Nat, c = b + 32 := ⟨c - 32, by omega⟩
                have ef : afold c = (b : Int) := by unfold afold; rw [if_neg (by omega), if_neg (by omega), if_neg (by omega), if_pos (by omega)]; omega
                have ef2 : Hid (afold b = (c : Int)) := Lib.hid (by unfold afold; rw [if_pos (by omega)]; omega)
                rw [ef]
                have hbn : ((b : Int) != (c : Int)) = true := by rw [bne_iff_ne]; omega
                have hbr : (b : Int) < (r : Int) := by omega
                have HBC := Lib.hid hb
                clear hb ef
                go_wp2
                go_loopw [13] (fun x wr => (x = .int .i32 (b : Int) ∨ x = .int .i32 (c : Int)) ∧ W2 = wr) (fun x _ => ((c : Int) - RowKit.intOf x).toNat)
                case atStart => exact ⟨.inl rfl, rfl⟩
                case round =>
                  obtain ⟨hx, rfl⟩ := hrel
                  rcases hx with rfl | rfl
                  · go_wp2_with fail
                    refine (sfold_ascii b W2 (by have := HBC.out; omega) HAW.out).mono ?_
                    rintro e W3 ⟨rfl, rfl⟩
                    rw [ef2.out]
                    go_wp2
                    go_roundw
                    case rel => exact ⟨.inr rfl, by trivial⟩
                    case measure => have := HBC.out; simp [RowKit.intOf]; omega
                  · have hcc : ((c : Int) != (c : Int)) = false := by simp
                    go_wp2
                    simp only [Exit.jump]
                    go_ret
                    exact ⟨rfl, B2⟩
          · have hgt : (r : Int) < (c : Int) := by omega
            have hp0 : q < p := by
              rcases hpq with h | h
              · have := HR0.out h.1; omega
              · exact h
            have hc128 : (c : Int) < 128 := by omega
            by_cases hA1 : (65 : Int) ≤ (r : Int)
            · by_cases hA2 : (r : Int) ≤ 90
              · by_cases hA3 : c = r + 32
                · have hw : (c : Int) == ((r : Int) + 97 - 65) := by rw [beq_iff_eq]; omega
                  have tr : ((c : Int) == (r : Int) + 97 - 65) = true := hw
                  go_wp2
                  go_roundw
                  case rel => exact ⟨p + d, q + 1, tq.extract 1 tq.size, rfl, HLT2, HSZ2, hk2, by omega, .inr (by omega), B2⟩
                  case measure => rw [HM0.out, HM1.out]; omega
                · have tr : ((c : Int) == (r : Int) + 97 - 65) = false := by rw [beq_eq_false_iff_ne]; omega
                  go_wp2
                  simp only [Exit.jump]
                  go_ret
                  exact ⟨rfl, B2⟩
              · go_wp2
                simp only [Exit.jump]
                go_ret
                exact ⟨rfl, B2⟩
            · go_wp2
              simp only [Exit.jump]
              go_ret
              exact ⟨rfl, B2⟩
      · have htl : ¬ ((tq.size : Int) == 0) = true := by rw [beq_iff_eq]; have := HSZ.out; omega
        have htl2 : ((tq.size : Int) == 0) = false := by simpa using htl
        have hnx : ∀ ty, (Instr.next (.pointer (some ⟨w'.heap.size, 0, none⟩)) true ty).run Tryd.prog wr = _ := fun ty => run_next_end_at (P := Tryd.prog) wr w'.heap.size s1 p ty hk (by rw [HS1.out]; exact hp)
        go_wp2
        simp only [Exit.jump]
        go_ret
        exact ⟨rfl, B⟩

end Go.Proofs.YtojnalpmibpchaaDoor
