/-
  The statement 'DeltaCuts' of layer 2: for every numbers, the codes one behind the other are read one by one, and nothing is left.
  No condition.
-/
import Derived.Test.YtoanifeffegkiaaDKnown
import Derived.Test.YtoanifeffegkiaaNums
import Derived.ShutString
import Derived.ChangeOld
namespace Go.Proofs.Ytoanifeffegkiaa
namespace deltaCuts
open Go.ChangeShapes Go.WideShapes Go.ChangeAt Go.RowKit
set_option linter.unusedVariables false
set_option linter.unusedSimpArgs false

theorem own : ownKnob Try.prog.godebug = none := by kernel_rfl
theorem laidOut : laidOutB Try.prog = true := by kernel_rfl

set_option maxRecDepth 100000 in
set_option maxHeartbeats 4000000 in
theorem walk (a : Option Addr) (len cap : Nat) (z : List Nat) (w : World) (hz : NumsAt w a len z) :
    Calls Try.prog 7 #[.slice a len cap] w fun e w' => e = .returned (.bool true) ∧ Below w.heap.size w w' := by
  obtain ⟨hzl, hlen, hz64, hzc⟩ := hz
  have HL := Lib.hid hzl
  have H64 : Hid (∀ i, z.getD i 0 < 18446744073709551616) := by
    intro i
    rw [List.getD_eq_getElem?_getD]
    by_cases hi : i < z.length
    · rw [List.getElem?_eq_getElem hi]; exact hz64 _ (List.getElem_mem hi)
    · rw [List.getElem?_eq_none (by omega)]; simp
  have HC : Hid (∀ i, i < len → ∃ b off, a = some ⟨b, off, none⟩ ∧ b < w.heap.size ∧ w.cell? ⟨b, off + i, none⟩ = some (.int .u64 (z.getD i 0 : Int))) := by
    intro i hi
    rcases hzc with h0 | ⟨b, off, rfl, hb, hc⟩
    · omega
    · exact ⟨b, off, rfl, hb, hc i hi⟩
  obtain ⟨m, hm⟩ : ∃ m, m = min len 40 := ⟨_, rfl⟩
  have hm1 : m ≤ len := by omega
  have hm2 : m ≤ 40 := by omega
  have hm3 : len ≤ m ∨ 40 ≤ m := by omega
  have HMZ := Lib.hid (show m ≤ z.length from by omega)
  have HBL := Lib.hid (show (codes (z.take m)).length ≤ 68 * m from by
    have := codes_len (z.take m); rw [List.length_take, Nat.min_eq_left HMZ.out] at this; exact this)
  clear hzl hz64 hzc hm
  rcases Nat.lt_or_ge 40 len with h40 | h40
  all_goals
    go_enter Try.func7, Try.ntmps7
    go_wp2_with fail
    have B1 := (Below.refl w.heap.size w).alloc (Nat.le_refl _) (.cells #[.pointer none, .int .u64 0, .int .i64 0] 28)
    have hw1 := wr_new w
    have s1 : w.heap.size + 1 ≤ (w.alloc (.cells #[.pointer none, .int .u64 0, .int .i64 0] 28)).heap.size := by simp
    generalize w.alloc (.cells #[.pointer none, .int .u64 0, .int .i64 0] 28) = W1 at *
    go_loopw [4, 5] (fun t i wr => ∃ j : Nat, j ≤ m ∧ i = .int .i64 (j : Int) ∧ t = .int .i64 ((codes (z.take j)).length : Int) ∧ WrAt wr w.heap.size (codes (z.take j)) ∧ Below w.heap.size w wr ∧ w.heap.size + 1 ≤ wr.heap.size) (fun _ i _ => m - (intOf i).toNat)
    case atStart => exact ⟨0, Nat.zero_le _, rfl, rfl, hw1, B1, s1⟩
    case round =>
      obtain ⟨j, hj, rfl, rfl, hw2, B2, s2⟩ := hrel
      clear hw1 B1 s1
      by_cases hjm : j < m
      · have hj1 : j < len := by omega
        have hj2 : j < 40 := by omega
        obtain ⟨b, off, rfl, hb, c0⟩ := HC.out j hj1
        have hxl := H64.out j
        have HT := Lib.hid (codes_take z j (Nat.lt_of_lt_of_le hjm HMZ.out))
        have hle : (codes (z.take j)).length ≤ 68 * 40 := by
          have := codes_len (z.take j)
          have h2 := List.length_take_le j z
          omega
        generalize z.getD j 0 = x at *
        obtain ⟨ys, hys⟩ : ∃ ys, ys = codes (z.take (j + 1)) := ⟨_, rfl⟩
        rw [← hys] at HT
        have HYS := Lib.hid hys
        clear hys
        generalize codes (z.take j) = xs at *
        rw [← B2.cell hb] at c0
        go_wp2_with fail
        refine (dput_any w.heap.size xs x _ hw2 (by omega) hxl).mono ?_
        rintro e W3 ⟨rfl, hw3, g3⟩
        have B3 := bel_gb B2 (by omega) (Nat.le_refl _) g3
        have s3 := Nat.le_trans s2 g3.size
        rw [B2.cell hb, ← B3.cell hb] at c0
        clear hw2 B2 s2 g3
        go_wp2_with fail
        refine (size_any x _ hxl).mono ?_
        rintro e w' ⟨rfl, rfl⟩
        have hcs := csize_le x
        have HCS := Lib.hid (show ys.length = xs.length + csize x from by rw [HT.out, List.length_append, code_length])
        generalize csize x = cx at *
        go_wp2
        go_roundw
        case rel => exact ⟨j + 1, by omega, by go_num, by rw [← HYS.out, HCS.out]; go_num, by rw [← HYS.out, HT.out]; exact hw3, B3, s3⟩
        case measure => simp [intOf]; omega
      · obtain rfl : j = m := by omega
        have hq : (¬ j < len) ∨ (j < len ∧ ¬ j < 40) := by omega
        have hbl := HBL.out
        have HDR : Hid (∀ i, i < j → ∃ r, (codes (z.take j)).drop (codes (z.take i)).length = code (z.getD i 0) ++ r ∧ (codes (z.take i)).length + csize (z.getD i 0) = (codes (z.take (i + 1))).length) := fun i hi => codes_drop z i j hi HMZ.out
        obtain ⟨E, hE⟩ : ∃ E, E = codes (z.take j) := ⟨_, rfl⟩
        rw [← hE] at hw2 HBL hbl HDR ⊢
        have HE := Lib.hid hE
        clear hE hjm
        first
          | (have q1 : ¬ j < len := by omega
             go_wp2_with fail)
          | (have q1 : j < len := by omega
             have q2 : ¬ j < 40 := by omega
             go_wp2_with fail)
        refine (bytes_any w.heap.size _ _ hw2 (by omega)).mono ?_
        rintro e W3 ⟨rfl, b3⟩
        have hw3 := hw2.keep_none (gb_below b3)
        have B3 := bel_gbn B2 (by omega) (gb_below b3)
        have s3 := Nat.le_trans s2 b3.size
        clear hw2 B2 s2 b3
        go_wp2_with fail
        refine (len_any w.heap.size _ _ hw3).mono ?_
        rintro e w' ⟨rfl, rfl⟩
        go_wp2_with fail
        refine (read_enc E _ _ (by omega) rfl).mono ?_
        rintro e W4 ⟨rb, rfl, hr4, hrb, b4⟩
        have hw4 := hw3.keep_none (gb_below b4)
        have B4 := bel_gbn B3 (by omega) (gb_below b4)
        have s4 := Nat.le_trans s3 b4.size
        have hrb' := Nat.le_trans s3 hrb
        clear hw3 B3 s3 b4 hrb
        have hEE : ((E.length : Int) != (E.length : Int)) = false := by simp
        go_wp2_with fail
        refine (len_any w.heap.size _ _ hw4).mono ?_
        rintro e w' ⟨rfl, rfl⟩
        clear hw4
        go_wp2_with fail
        go_loopw [8] (fun i wr => ∃ k : Nat, k ≤ j ∧ i = .int .i64 (k : Int) ∧ RdAt wr rb E (codes (z.take k)).length ∧ Below w.heap.size w wr ∧ w.heap.size + 1 ≤ wr.heap.size) (fun i _ => j - (intOf i).toNat)
        case atStart => exact ⟨0, Nat.zero_le _, rfl, hr4, B4, s4⟩
        case round =>
          obtain ⟨k, hk, rfl, hr5, B5, s5⟩ := hrel
          clear hr4 B4 s4
          by_cases hkj : k < j
          · have hk1 : k < len := by omega
            have hk2 : k < 40 := by omega
            obtain ⟨b, off, rfl, hb, c0⟩ := HC.out k hk1
            have hxl := H64.out k
            obtain ⟨r, hr, hrl⟩ := HDR.out k hkj
            have HG := Lib.hid (gets_code (z.getD k 0) hxl r)
            rw [← hr] at HG
            have HRL := Lib.hid hrl
            generalize z.getD k 0 = x at *
            obtain ⟨p, hp⟩ : ∃ p, p = (codes (z.take k)).length := ⟨_, rfl⟩
            rw [← hp] at hr5 HG HRL
            clear hr hrl hp
            go_wp2_with fail
            refine (dget_any rb E p x (csize x) 0 _ hr5 HG.out).mono ?_
            rintro e W6 ⟨rfl, hr6, g6⟩
            have B6 := bel_gb B5 (by omega) (by omega) g6
            have s6 := Nat.le_trans s5 g6.size
            rw [← B6.cell hb] at c0
            rw [HRL.out] at hr6
            have hxx : ((x : Int) != (x : Int)) = false := by simp
            clear hr5 B5 s5 g6
            go_wp2
            go_roundw
            case rel => exact ⟨k + 1, by omega, by go_num, hr6, B6, s6⟩
            case measure => simp [intOf]; omega
          · obtain rfl : k = j := by omega
            rw [← HE.out] at hr5
            have HGN := Lib.hid (show gets (E.drop E.length) = (0, 0, 3) from by rw [List.drop_length]; rfl)
            first
              | (have q1 : ¬ k < len := by omega
                 go_wp2_with fail)
              | (have q1 : k < len := by omega
                 have q2 : ¬ k < 40 := by omega
                 go_wp2_with fail)
            refine (dget_any rb E E.length 0 0 3 _ hr5 HGN.out).mono ?_
            rintro e W6 ⟨rfl, hr6, g6⟩
            have B6 := bel_gb B5 (by omega) (by omega) g6
            have s6 := Nat.le_trans s5 g6.size
            clear hr5 B5 s5 g6
            rw [show ((0 : Nat) : Int) = 0 from rfl]
            go_wp2_with fail
            refine (dget_no _ _ (.inl rfl)).mono ?_
            rintro e w' ⟨rfl, rfl⟩
            go_wp2_with fail
            refine (left_any rb E _ _ hr6).mono ?_
            rintro e W7 ⟨rfl, d7⟩
            have B7 := bel_gbn B6 (by omega) (d7.gb none)
            have s7 := Nat.le_trans s6 (d7.gb none).size
            rw [show ((E.length : Int) - ((E.length + 0 : Nat) : Int)) = 0 from by omega]
            clear hr6 B6 s6 d7
            go_wp2_with fail
            refine (known_any _).mono ?_
            rintro e W8 ⟨rfl, b8⟩
            have B8 := bel_gbn B7 (by omega) (gb_below b8)
            clear b8 B7 s7
            go_wp2
            go_ret
            exact ⟨rfl, B8⟩

set_option maxRecDepth 100000 in
theorem lifted (os : Os) (started : os.Started) (H : Type) (enc : TypeId × Value → H) :
    ReturnsInHanded {} Try.checked os 7 .any (Rows.deltaCutsSpec.pre6 enc Try.prog Try.f7 Rows.deltaCutsRow.domain false) (Rows.deltaCutsSpec.post enc Try.prog Try.f7 false true false false) := by
  refine returnsInHanded_of_change (C := Try.checked) own started (by kernel_rfl) Try.func7
    (ChangeSpec.witness6 (enc := enc) (C := Try.checked) false ⟨#[], #[.slice none 0 0], []⟩ 8 (by kernel_rfl) (by kernel_rfl) (by kernel_rfl) (by kernel_rfl)) ?_
  intro W base args ds gs before hval0 hW hcnd _
  have hval : ∀ (j : Nat) t v, Try.f7.params[j]? = some t → args[j]? = some v → Value.okWide Try.prog W .any base t v := hval0
  have hW' := hW
  obtain ⟨p, q, hA0, hV, rfl, hfz, hnd⟩ := hW
  have hA : DataW.TrodAll enc Try.prog W 0 (fun _ => true) true Try.f7.params.toList args.toList ds p := hA0
  rw [Try.params7] at hA hval
  obtain ⟨v0, vs0, d0, ds0, p0, q0, hargs, rfl, rfl, h0, r0⟩ := trodAll_cons hA
  obtain ⟨rfl, rfl, rfl⟩ := trodAll_nil r0
  obtain rfl : args = #[v0] := by cases args; simp_all
  obtain ⟨rfl, rfl⟩ := trodVars_none hV
  obtain ⟨a0, len0, cap0, rfl⟩ := okWide_slice Try.underlying62 (hval 0 62 v0 rfl rfl)
  have k0 := h0
  have lt0 : ∀ x ∈ p0, x.block < W.heap.size := by obtain ⟨m, hm⟩ := k0; exact DataW.trod_lt m _ _ _ hm
  obtain ⟨z0, w0⟩ := open_u64s h0
  clear hA0 hval0
  refine (walk a0 len0 cap0 z0 W w0).mono fun e W' ⟨he, bel⟩ => ?_
  subst he
  exact ⟨_, rfl, _, _, _, [], _, [], hW', trodAll_mk1 (shut_bool Try.underlying4 _), (trodAll_cons_mk (Below.trod laidOut (by kernel_rfl) (of_decide_eq_true (by kernel_rfl)) k0 bel lt0) trodAll_mk0), rfl, bel.frame _, fun h => by cases h⟩

theorem over : Rows.deltaCutsRow.holds Try.pinned (OpenSpec.ofChange Rows.deltaCutsSpec) :=
  OpenClaim.holds_of_wide 7 Try.f7 rfl rfl rfl rfl rfl rfl rfl ⟨rfl, rfl, rfl, rfl, rfl⟩ rfl rfl rfl rfl rfl (by kernel_rfl) Try.func7 (by kernel_rfl)
    (of_decide_eq_true (by kernel_rfl)) (by unfold Func.isWrapper; first | (rw [if_pos (by decide +kernel)]; kernel_rfl) | (rw [if_neg (by decide +kernel)]; exact ⟨rfl, rfl⟩))
    (fun os started H enc _ => lifted os started H enc)

theorem proved : Rows.DeltaCutsSaid := over
end deltaCuts
theorem deltaCuts_holds : Rows.DeltaCutsSaid := deltaCuts.proved
#print axioms deltaCuts_holds
end Go.Proofs.Ytoanifeffegkiaa
