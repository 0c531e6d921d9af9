/-
  The statement 'PolicyNames' of layer 3: for every policy, every choice of its letters' cases, and every text: the policy's name in these cases is read as it; a text that is read is one's name, but for cases.
  No condition on the arguments; the package's table of names is as the program's text lays it (the card ties that).
-/
import Derived.Test.YtnjfnmgbmkkehaaDoorPKnown
import Derived.Test.YtnjfnmgbmkkehaaDoorPLaid
import Derived.Test.YtnjfnmgbmkkehaaDoorTie
import Derived.Test.YtnjfnmgbmkkehaaDoorCards
import Derived.Test.YtnjfnmgbmkkehaaDoorPRText
import Derived.ShutString
import Derived.ChangeOld
import Derived.SevenTiedAt
namespace Go.Proofs.YtnjfnmgbmkkehaaDoor
namespace policyNames
open Go.ChangeShapes Go.WideShapes Go.ChangeAt Go.RowKit
open Go.ChangeMaps (open_string shut_string)
set_option linter.unusedVariables false

theorem own : ownKnob Tryd.prog.godebug = none := by kernel_rfl

/-- A letter, small if its bit is there. -/
def low (cs : Nat) (i : Nat) (c : UInt8) : UInt8 := if cs / 2 ^ i % 2 = 1 then c + 32 else c
def lows (cs : Nat) (n : ByteArray) : List UInt8 := n.data.toList.mapIdx (low cs)
theorem lows_length (cs : Nat) (n : ByteArray) : (lows cs n).length = n.size := by unfold lows; rw [List.length_mapIdx, size_list]
theorem lows_get (cs : Nat) (n : ByteArray) (j : Nat) (h : j < n.size) : (lows cs n)[j]'(by rw [lows_length]; exact h) = low cs j n[j] := by
  unfold lows
  rw [List.getElem_mapIdx, get_list n j h]
theorem nm_letters (k : Int) (j : Nat) (h : j < (nm k).size) : 65 ≤ (nm k)[j].toNat ∧ (nm k)[j].toNat ≤ 90 := by
  have q : ∀ c ∈ (nm k).data.toList, 65 ≤ c.toNat ∧ c.toNat ≤ 90 := by
    unfold nm
    (repeat' split) <;> decide
  have := get_list (nm k) j h
  rw [← this]
  exact q _ (List.getElem_mem _)
theorem grU_low (cs i : Nat) (c : UInt8) (h : 65 ≤ c.toNat ∧ c.toNat ≤ 90) : grU (low cs i c) = c := by
  apply UInt8.toNat_inj.1
  rw [grU_nat]
  unfold low
  split
  · rw [UInt8.toNat_add, show (32 : UInt8).toNat = 32 from rfl, Nat.mod_eq_of_lt (by omega)]
    unfold grN
    rw [if_pos (by omega)]; omega
  · unfold grN
    rw [if_neg (by omega)]
theorem upper_lows (cs : Nat) (k : Int) : upper ⟨(lows cs (nm k)).toArray⟩ = nm k := by
  apply list_inj
  show (lows cs (nm k)).map grU = _
  apply List.ext_getElem
  · rw [List.length_map, lows_length, size_list]
  · intro j h1 h2
    rw [size_list] at h2
    rw [List.getElem_map, lows_get cs (nm k) j h2, grU_low cs j _ (nm_letters k j h2), get_list (nm k) j h2]
theorem parse_name (s : ByteArray) (k : Nat) (h1 : 1 ≤ k) (h2 : k ≤ 6) (h : upper s = nm (k : Int)) : parseS s = ((k : Int), 0) := by
  refine parse_hit s k h1 h2 (fun i hi1 hi2 e => ?_) h
  rw [h] at e
  have q : ∀ i j : Nat, 1 ≤ i → i < j → j ≤ 6 → nm (j : Int) ≠ nm (i : Int) := by
    intro i j a b c
    have ei : i = 1 ∨ i = 2 ∨ i = 3 ∨ i = 4 ∨ i = 5 := by omega
    have ej : j = 2 ∨ j = 3 ∨ j = 4 ∨ j = 5 ∨ j = 6 := by omega
    rcases ei with rfl | rfl | rfl | rfl | rfl <;> rcases ej with rfl | rfl | rfl | rfl | rfl <;> first | omega | decide
  exact q i k hi1 hi2 h2 e
theorem parse_ok (s : ByteArray) (h : (parseS s).2 = 0) : (1 ≤ (parseS s).1 ∧ (parseS s).1 ≤ 6) ∧ upper s = nm (parseS s).1 := by
  revert h
  unfold parseS
  (repeat' split) <;> intro h <;> first | exact ⟨⟨by decide, by decide⟩, by assumption⟩ | exact absurd h (by decide)

set_option maxRecDepth 100000 in
set_option maxHeartbeats 4000000 in
theorem walk0 (p cs : Nat) (s : ByteArray) (w : World) (h : NamesAt w) (hp : p < 256) (hc : cs < 256) :
    Calls Tryd.prog 7 #[.int .u8 (p : Int), .int .u8 (cs : Int), .string s] w fun e w' => e = .returned (.bool true) ∧ Below w.heap.size w w' := by
  have H := Lib.hid h
  clear h
  by_cases hl : 100 < s.size
  · have hl' : (100 : Int) < (s.size : Int) := by omega
    go_enter Tryd.func7, Tryd.ntmps7
    go_wp2_with fail
    refine (pknown_any _ H.out).mono ?_
    rintro e W2 ⟨rfl, b2⟩
    go_wp2
    go_ret
    exact ⟨rfl, b2⟩
  · have hl' : ¬ (100 : Int) < (s.size : Int) := by omega
    obtain ⟨k, hk⟩ : ∃ k, k = 1 + p % 6 := ⟨_, rfl⟩
    have hk1 : 1 ≤ k := by omega
    have hk2 : k ≤ 6 := by omega
    have tk : 1 + (p : Int) % 6 = (k : Int) := by omega
    have tk' : 1 + (p : Int).tmod 6 = (k : Int) := by rw [Int.tmod_eq_emod_of_nonneg (by omega)]; exact tk
    clear hk
    go_enter Tryd.func7, Tryd.ntmps7
    go_wp2_with fail
    refine (name_any (k : Int) _ H.out).mono ?_
    rintro e w' ⟨rfl, rfl⟩
    obtain ⟨n, hn⟩ : ∃ n, n = nm (k : Int) := ⟨_, rfl⟩
    have HN := Lib.hid hn
    have hns : n.size ≤ 5 := by rw [hn]; exact nm_size _
    have HLET := Lib.hid (show ∀ j (h : j < n.size), 65 ≤ n[j].toNat ∧ n[j].toNat ≤ 90 from by subst hn; exact nm_letters k)
    rw [← hn]
    clear hn
    obtain ⟨m, hm⟩ : ∃ m, n.size = m := ⟨_, rfl⟩
    go_wp2
    go_loopw [8, 10, 11] (fun v i c wr => ∃ j : Nat, j ≤ m ∧ i = .int .i64 (j : Int) ∧ wr.ownsRow w.heap.size 5 1 v j (uv ((lows cs n).take j)) ∧ Below w.heap.size w wr) (fun _ i _ _ => m - (intOf i).toNat)
    case atStart => exact ⟨0, Nat.zero_le _, rfl, World.ownsRow_nil _ _ _ _, Below.refl _ _⟩
    case round =>
      obtain ⟨j, hj, rfl, hown, B2⟩ := hrel
      by_cases hjm : j < m
      · have h1 : j < n.size := by omega
        obtain ⟨hl1, hl2⟩ := HLET.out j h1
        obtain ⟨i0, hi, hz0, hz1, hz2⟩ := info_u8
        have s2 := B2.size
        by_cases hbit : cs / 2 ^ j % 2 = 1
        · have tb : (((cs : Int) / 2 ^ j).tmod 2 == 1) = true := by
            rw [Int.tmod_eq_emod_of_nonneg (Int.ediv_nonneg (by omega) (by exact_mod_cast Nat.zero_le _)), show (cs : Int) / 2 ^ j % 2 = ((cs / 2 ^ j % 2 : Nat) : Int) from by simp, hbit]; rfl
          have HST := Lib.hid (show uv ((lows cs n).take (j + 1)) = uv ((lows cs n).take j) ++ [.int .u8 ((n[j].toNat : Int) + 32)] from by
            rw [List.take_succ_eq_append_getElem (by rw [lows_length]; exact h1), lows_get cs n j h1, uv_append]
            unfold low
            rw [if_pos hbit]
            have e : ((n[j] + 32).toNat : Int) = (n[j].toNat : Int) + 32 := by
              rw [UInt8.toNat_add, show (32 : UInt8).toNat = 32 from rfl, Nat.mod_eq_of_lt (by omega)]; rfl
            rw [← e]; rfl)
          clear hbit
          go_wp2_with (at_builtin; refine wpList_append_own _ rfl _ _ 34 rfl w.heap.size 5 i0 _ 1 1 Tryd.underlying34 hi hz0 hz1 hz2 rfl (by decide) _ _ _ rfl (hown.alloc _) ⟨wr.heap.size, 0, none⟩ 1 1 [.int .u8 ((n[j].toNat : Int) + 32)] rfl rfl ?c1 ?c2 ?c3 ?c4 ?c5 ?_)
          try (case c1 => exact one_cell _ _ _)
          case c2 => first | rfl | exact uv_one _
          case c3 => unfold maxLen; omega
          case c4 => first | omega | (simp; omega)
          case c5 => first | omega | (simp; omega)
          intro v' W5 hown5 g5 _
          have B5 := (B2.alloc s2 (.cells #[.int .u8 ((n[j].toNat : Int) + 32)] 5)).grown g5 (by simp; omega) (fun k hk => (hown.lt k hk).1)
          clear hown g5 hi hz0 hz1 hz2
          go_wp2
          go_roundw
          case rel =>
            refine ⟨j + 1, by omega, by go_num, ?_, B5⟩
            rw [HST.out]
            exact hown5
          case measure => simp [intOf]; omega
        · have tb : (((cs : Int) / 2 ^ j).tmod 2 == 1) = false := by
            rw [Int.tmod_eq_emod_of_nonneg (Int.ediv_nonneg (by omega) (by exact_mod_cast Nat.zero_le _)), show (cs : Int) / 2 ^ j % 2 = ((cs / 2 ^ j % 2 : Nat) : Int) from by simp, beq_eq_false_iff_ne]; omega
          have HST := Lib.hid (show uv ((lows cs n).take (j + 1)) = uv ((lows cs n).take j) ++ [.int .u8 ((n[j].toNat : Int))] from by
            rw [List.take_succ_eq_append_getElem (by rw [lows_length]; exact h1), lows_get cs n j h1, uv_append]
            unfold low
            rw [if_neg hbit]
            rfl)
          clear hbit
          go_wp2_with (at_builtin; refine wpList_append_own _ rfl _ _ 34 rfl w.heap.size 5 i0 _ 1 1 Tryd.underlying34 hi hz0 hz1 hz2 rfl (by decide) _ _ _ rfl (hown.alloc _) ⟨wr.heap.size, 0, none⟩ 1 1 [.int .u8 ((n[j].toNat : Int))] rfl rfl ?c1 ?c2 ?c3 ?c4 ?c5 ?_)
          try (case c1 => exact one_cell _ _ _)
          case c2 => first | rfl | exact uv_one _
          case c3 => unfold maxLen; omega
          case c4 => first | omega | (simp; omega)
          case c5 => first | omega | (simp; omega)
          intro v' W5 hown5 g5 _
          have B5 := (B2.alloc s2 (.cells #[.int .u8 ((n[j].toNat : Int))] 5)).grown g5 (by simp; omega) (fun k hk => (hown.lt k hk).1)
          clear hown g5 hi hz0 hz1 hz2
          go_wp2
          go_roundw
          case rel =>
            refine ⟨j + 1, by omega, by go_num, ?_, B5⟩
            rw [HST.out]
            exact hown5
          case measure => simp [intOf]; omega
      · obtain rfl : j = m := by omega
        rw [List.take_of_length_le (by rw [lows_length]; omega)] at hown
        have hcv := conv_own hown (by rw [lows_length]; omega)
        have HW := Lib.hid (H.out.below B2)
        have EP := Lib.hid (show parseS ⟨(lows cs n).toArray⟩ = ((k : Int), 0) from parse_name _ k hk1 hk2 (by rw [HN.out]; exact upper_lows cs k))
        have hsz : (⟨(lows cs n).toArray⟩ : ByteArray).size ≤ 140737488355328 := by
          rw [← size_list, show (⟨(lows cs n).toArray⟩ : ByteArray).data.toList = lows cs n from rfl, lows_length]; omega
        generalize (⟨(lows cs n).toArray⟩ : ByteArray) = nb at *
        have s2 := B2.size
        clear hown
        have tkk : ((k : Int) == (k : Int)) = true := by simp
        obtain ⟨y, f, HY⟩ : ∃ y f, Hid (parseS s = (y, f)) := ⟨_, _, Lib.hid rfl⟩
        go_wp2_with fail
        refine (parse_any nb _ HW.out hsz).mono ?_
        rintro e W3 ⟨rfl, d3⟩
        have H3 := Lib.hid (HW.out.below d3.below)
        have B3 := bel_gbn B2 s2 (d3.gb none)
        have s3 := B3.size
        clear d3 B2 s2 HW hcv
        rw [EP.out]
        unfold two
        go_wp2_with fail
        refine (parse_any s _ H3.out (by omega)).mono ?_
        rintro e W4 ⟨rfl, d4⟩
        have H4 := Lib.hid (H3.out.below d4.below)
        have B4 := bel_gbn B3 s3 (d4.gb none)
        have s4 := B4.size
        clear d4 B3 s3 H3
        rw [HY.out]
        unfold two
        by_cases hf : f = 0
        · subst hf
          have HO := Lib.hid (parse_ok s (by rw [HY.out]))
          rw [HY.out] at HO
          obtain ⟨n2, hn2⟩ : ∃ n2, n2 = nm y := ⟨_, rfl⟩
          have HN2 := Lib.hid hn2
          have HU := Lib.hid (show upper s = n2 from by rw [hn2]; exact HO.out.2)
          have hs2 : n2.size = s.size := by rw [← HU.out, upper_size]
          have tsz : ((s.size : Int) == (s.size : Int)) = true := by simp
          have tn2 : (n2.toList == n2.toList) = true := by simp
          clear hn2
          go_wp2_with fail
          refine (pright_any y _).mono ?_
          rintro e w' ⟨rfl, rfl⟩
          rw [decide_eq_true HO.out.1]
          go_wp2_with fail
          refine (name_any y _ H4.out).mono ?_
          rintro e w' ⟨rfl, rfl⟩
          rw [← HN2.out]
          go_wp2_with fail
          refine (rupper_any s _ (by omega)).mono ?_
          rintro e W5 ⟨rfl, b5⟩
          have H5 := Lib.hid (H4.out.below b5)
          have B5 := bel_gbn B4 s4 (gb_below b5)
          have s5 := B5.size
          clear b5 B4 s4 H4
          rw [HU.out]
          go_wp2_with fail
          refine (name_any y _ H5.out).mono ?_
          rintro e w' ⟨rfl, rfl⟩
          rw [← HN2.out]
          go_wp2_with fail
          refine (pknown_any _ H5.out).mono ?_
          rintro e W6 ⟨rfl, b6⟩
          have B6 := bel_gbn B5 s5 (gb_below b6)
          go_wp2
          go_ret
          exact ⟨rfl, B6⟩
        · have tf : (f != 0) = true := by simpa using hf
          clear hf
          go_wp2_with fail
          refine (pknown_any _ H4.out).mono ?_
          rintro e W6 ⟨rfl, b6⟩
          have B6 := bel_gbn B4 s4 (gb_below b6)
          go_wp2
          go_ret
          exact ⟨rfl, B6⟩

theorem walk (a0 : Int) (a1 : Int) (a2 : ByteArray) (w : World) (h : NamesAt w) (w0 : (Lit.int .u8 a0).wf = true) (w1 : (Lit.int .u8 a1).wf = true) (w2 : a2.size ≤ maxLen) :
    Calls Tryd.prog 7 #[.int .u8 a0, .int .u8 a1, .string a2] w fun e w' => e = .returned (.bool true) ∧ Below w.heap.size w w' := by
  have b0 := bounds_u8 w0
  have b1 := bounds_u8 w1
  obtain ⟨p, rfl⟩ := Int.eq_ofNat_of_zero_le b0.1
  obtain ⟨c, rfl⟩ := Int.eq_ofNat_of_zero_le b1.1
  exact walk0 p c a2 w h (by omega) (by omega)

set_option maxRecDepth 100000 in
theorem lifted (os : Os) (started : os.Started) (H : Type) (enc : TypeId × Value → H) :
    ReturnsInHanded {} Tryd.checked os 7 .any (fun w args => (Rows.policyNamesSpec.pre enc Tryd.prog Tryd.f7 [] false w args ∧ laidMetH Tryd.prog laidL w) ∧ sizedMet enc Tryd.prog Tryd.f7 (OpenSpec.ofChange Rows.policyNamesSpec) false w args)
      (Rows.policyNamesSpec.post enc Tryd.prog Tryd.f7 false true false false) := by
  refine returnsInHanded_of_change_and (C := Tryd.checked) (X := fun w _ => laidMetH Tryd.prog laidL w) (fun _ _ _ hh h => h.of_heap hh) own started (by kernel_rfl) Tryd.func7
    (ChangeSpec.witness_shaped (enc := enc) (C := Tryd.checked) (os := os) (X := fun w _ => laidMetH Tryd.prog laidL w) false (World.doorLaid Tryd.prog 400 os) #[.int .u8 0, .int .u8 0, .string ByteArray.empty] 8 rfl (World.shaped_of_RefB (by kernel_rfl) (by kernel_rfl)) (by kernel_rfl) (by kernel_rfl) (by kernel_rfl) (door_met os _)) ?_
  intro W base args ds gs before hval0 hW _ _ hL _
  have hval : ∀ (j : Nat) t v, Tryd.f7.params[j]? = some t → args[j]? = some v → Value.okWide Tryd.prog W .any base t v := hval0
  have hW' := hW
  obtain ⟨p, q, hA0, hV, rfl, hfz, hnd⟩ := hW
  have hA : DataW.TrodAll enc Tryd.prog W 0 (fun _ => true) true Tryd.f7.params.toList args.toList ds p := hA0
  rw [Tryd.params7] at hA hval
  obtain ⟨v0, vs0, d0, ds0, p0, q0, hargs, rfl, rfl, h0, r0⟩ := trodAll_cons hA
  obtain ⟨v1, vs1, d1, ds1, p1, q1, rfl, rfl, rfl, h1, r1⟩ := trodAll_cons r0
  obtain ⟨v2, vs2, d2, ds2, p2, q2, rfl, rfl, rfl, h2, r2⟩ := trodAll_cons r1
  obtain ⟨rfl, rfl, rfl⟩ := trodAll_nil r2
  obtain rfl : args = #[v0, v1, v2] := by cases args; simp_all
  obtain ⟨rfl, rfl⟩ := trodVars_none hV
  obtain ⟨a0, rfl, rfl, rfl, w0⟩ := open_int Tryd.underlying5 (hval 0 5 v0 rfl rfl) h0
  obtain ⟨a1, rfl, rfl, rfl, w1⟩ := open_int Tryd.underlying5 (hval 1 5 v1 rfl rfl) h1
  obtain ⟨a2, rfl, rfl, rfl, w2⟩ := open_string Tryd.underlying9 (hval 2 9 v2 rfl rfl) h2
  clear hA0 hval0
  refine (walk a0 a1 a2 W (names_of_laid hL) w0 w1 w2).mono fun e W' ⟨he, bel⟩ => ?_
  subst he
  exact ⟨_, rfl, _, _, _, [], _, [], hW', trodAll_mk1 (shut_bool Tryd.underlying4 _), (trodAll_cons_mk (shut_int Tryd.underlying5 w0) (trodAll_cons_mk (shut_int Tryd.underlying5 w1) (trodAll_cons_mk (shut_string Tryd.underlying9 w2) trodAll_mk0))), rfl, bel.frame _, fun h => by cases h⟩

theorem over : Rows.policyNamesRow.holds Tryd.pinned (OpenSpec.ofChange Rows.policyNamesSpec) :=
  OpenClaim.holds_of_wide 7 Tryd.f7 rfl rfl rfl rfl rfl rfl rfl ⟨rfl, rfl, rfl, rfl, rfl⟩ rfl rfl rfl rfl rfl (by kernel_rfl) Tryd.func7 (by kernel_rfl)
    (of_decide_eq_true (by kernel_rfl)) (by unfold Func.isWrapper; first | (rw [if_pos (by decide +kernel)]; kernel_rfl) | (rw [if_neg (by decide +kernel)]; exact ⟨rfl, rfl⟩))
    (fun os started H enc _ => lifted os started H enc)

theorem proved : Rows.PolicyNamesCardSaid :=
  Claim7.holds_tied_plain_at .later [] Rows.policyNamesCard.laidKinds true Rows.policyNamesCard.stood.harness false
    over (fun _ h => by cases h) (by kernel_rfl) (fun _ h => by cases h) policyNames_row_tie rfl ⟨rfl, rfl⟩ (by kernel_rfl) rfl
    (fun f fn hf hfn => by
      obtain rfl : f = 7 := Option.some.inj ((show Tryd.prog.funcNamed "tachograph/tachographlaw03.PolicyNames" = some 7 by kernel_rfl).symm.trans hf) |>.symm
      obtain rfl : fn = Tryd.f7 := (Option.some.inj (Tryd.func7.symm.trans hfn)).symm
      exact ⟨by kernel_rfl, fun j t ht => by
        rw [Tryd.params7] at ht
        have hm : t ∈ [5, 5, 9] := by simpa using Array.mem_of_getElem? ht
        have hall : ([5, 5, 9].all fun u => !Tryd.prog.wantsStandIn u) = true := by kernel_rfl
        exact (show Tryd.prog.wantsStandIn t = false by simpa using List.all_eq_true.1 hall t hm)⟩)
    (by kernel_rfl)
end policyNames
theorem policyNames_holds : Rows.PolicyNamesCardSaid := policyNames.proved
#print axioms policyNames_holds
end Go.Proofs.YtnjfnmgbmkkehaaDoor
