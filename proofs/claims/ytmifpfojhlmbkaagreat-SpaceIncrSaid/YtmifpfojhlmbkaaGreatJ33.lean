/-
  Contracts.
-/
import Derived.Test.YtmifpfojhlmbkaaGreatJ7
import Derived.Test.YtmifpfojhlmbkaaGreatJ14
import Derived.Test.YtmifpfojhlmbkaaGreatJ15
import Derived.Test.YtmifpfojhlmbkaaGreatJ23
import Derived.Test.YtmifpfojhlmbkaaGreatJ25
import Derived.Test.YtmifpfojhlmbkaaGreatJ26
import Derived.Test.YtmifpfojhlmbkaaGreatJ31
import Derived.Test.YtmifpfojhlmbkaaGreatJ32
import Derived.Lib.Bytealg
namespace Go.Proofs.YtmifpfojhlmbkaaGreat
set_option maxRecDepth 100000
set_option maxHeartbeats 16000000
open Go.RowKit
set_option linter.unusedVariables false
set_option linter.unusedSimpArgs false
theorem iset_ok (w : World) (x bl bn : Nat) (ρ : Rho) (E : List Ent) (key : Tx) (a : Option Addr) (n c : Nat) (l : List Lb) (h : IxAt w x bl bn ρ E) (hl : LbAt w a n c l) :
    Calls Tryz.prog 88 #[.pointer (some ⟨x, 0, none⟩), .string (bs key), .slice a n c] w fun e w' => e = .returned (.int .i64 (if okE key l then 0 else 1)) ∧ ∃ ρ', IxTurn w w' x bl bn ρ ρ' (stepE key l E) := by
  have HX := Lib.hid h
  have HL := Lib.hid hl
  have HK := Lib.hid (key_any key w)
  clear h hl
  by_cases k1 : keyB key
  · rw [decide_eq_true k1] at HK
    have HR := Lib.hid (right9_any a n c l w HL.out)
    by_cases k2 : rightL l
    · rw [decide_eq_true k2] at HR
      have hok : okE key l := ⟨k1, k2⟩
      have hst : stepE key l E = insG (key, srt l) (dels E key) := by unfold stepE; rw [if_pos hok]; rfl
      rw [if_pos hok, hst]
      have hn8 : n ≤ 1000 := by have := k2.1; rw [HL.out.1] at this; omega
      have HK1 := Lib.hid k1
      have HK2 := Lib.hid k2
      clear k1 k2 hok hst
      go_enter Tryz.func88, Tryz.ntmps88
      go_wp2_with fail
      refine (iNone_no w x bl bn HX.out.cell).mono ?_
      rintro e w' ⟨rfl, rfl⟩
      go_wp2_with fail
      refine HK.out.mono ?_
      rintro e w' ⟨rfl, rfl⟩
      go_wp2_with fail
      refine HR.out.mono ?_
      rintro e w1 ⟨rfl, b1⟩
      have B1 := Lib.hid b1
      have X1 := Lib.hid (HX.out.keep b1)
      clear b1
      go_wp2_with fail
      refine (idrop_ok w1 x bl bn ρ E key X1.out).mono ?_
      rintro e w2 ⟨rfl, t2⟩
      have T2 := Lib.hid t2
      have L2 := Lib.hid ((HL.out.keep B1.out).trn t2.trn)
      clear t2 X1
      go_wp2_with fail
      refine (sorted9_any a n c l w2 L2.out hn8 HK2.out.2.2).mono ?_
      rintro e w3 ⟨a', c', rfl, l3, b3, y3⟩
      have L3 := Lib.hid l3
      have Y3 := Lib.hid y3
      have T3 := Lib.hid (T2.out.thenB b3)
      clear l3 b3 y3 T2 L2
      go_wp2_with fail
      refine (iput_ok w3 x bl bn ρ (dels E key) key a' n c' (srt l) T3.out.ix (dels_not E key) HK1.out (right_srt HK2.out) (srt_ss HK2.out.2.2) L3.out Y3.out).mono ?_
      rintro e w4 ⟨rfl, ρ', t4⟩
      have T4 := Lib.hid (IxTurn.pre B1.out (T3.out.trans t4))
      clear t4 T3 L3
      go_wp2
      go_ret
      exact ⟨rfl, ρ', T4.out⟩
    · rw [decide_eq_false k2] at HR
      have hok : ¬ okE key l := fun h => k2 h.2
      rw [if_neg hok, show stepE key l E = E from if_neg hok]
      clear k1 k2 hok
      go_enter Tryz.func88, Tryz.ntmps88
      go_wp2_with fail
      refine (iNone_no w x bl bn HX.out.cell).mono ?_
      rintro e w' ⟨rfl, rfl⟩
      go_wp2_with fail
      refine HK.out.mono ?_
      rintro e w' ⟨rfl, rfl⟩
      go_wp2_with fail
      refine HR.out.mono ?_
      rintro e w1 ⟨rfl, b1⟩
      go_wp2
      go_ret
      exact ⟨rfl, ρ, HX.out.keep b1, .refl _ _, .of b1⟩
  · rw [decide_eq_false k1] at HK
    have hok : ¬ okE key l := fun h => k1 h.1
    rw [if_neg hok, show stepE key l E = E from if_neg hok]
    clear k1 hok
    go_enter Tryz.func88, Tryz.ntmps88
    go_wp2_with fail
    refine (iNone_no w x bl bn HX.out.cell).mono ?_
    rintro e w' ⟨rfl, rfl⟩
    go_wp2_with fail
    refine HK.out.mono ?_
    rintro e w' ⟨rfl, rfl⟩
    go_wp2
    go_ret
    exact ⟨rfl, ρ, HX.out, .refl _ _, .refl _ _⟩
def MadeL (w : World) (l : List Lb) (e : Ending) (w' : World) : Prop := ∃ a c, e = .returned (.slice a l.length c) ∧ LbAt w' a l.length c l ∧ Below w.heap.size w w'
theorem ilabels_ok (w : World) (x bl bn : Nat) (ρ : Rho) (E : List Ent) (key : Tx) (h : IxAt w x bl bn ρ E) :
    Calls Tryz.prog 83 #[.pointer (some ⟨x, 0, none⟩), .string (bs key)] w (MadeL w ((look E key).getD [])) := by
  obtain ⟨hc, rl, rn, ⟨T, t1, t2, t3⟩, hn, hok, hg⟩ := h
  obtain ⟨a, c, m, hlk, hv, hm⟩ : ∃ a c m, (look (T.map mpV) key).getD (.slice none 0 0) = .slice a m c ∧ LbAt w a m c ((look E key).getD []) ∧ m ≤ 8 := by
    by_cases hk : key ∈ keysL E
    · obtain ⟨p, hp, rfl⟩ := List.mem_map.1 hk
      have hp' : (p.1, p.2) ∈ E := hp
      obtain ⟨v, hlv, a, c, rfl, hl, _⟩ := LabsAt.look_hit t1.nodup t2 t3 hp'
      rw [hlv, mem_look (ssG_nodup hg.ss) hp']
      exact ⟨a, c, p.2.length, rfl, hl, (hg.right _ hp').1⟩
    · rw [LabsAt.look_miss t2 hk, look_none.2 hk]
      exact ⟨none, 0, 0, rfl, LbAt.nil w none 0, by omega⟩
  have HV := Lib.hid hv
  have HC := Lib.hid hc
  have H1 := Lib.hid t1
  have c0 := hc.c0
  clear t1 t2 t3 hn hok hg hc hv rl rn
  generalize (look E key).getD [] = l at *
  go_enter Tryz.func83, Tryz.ntmps83
  go_wp2_with fail
  refine (iNone_no w x bl bn HC.out).mono ?_
  rintro e w' ⟨rfl, rfl⟩
  go_wp2_with (first
    | (at_lookup; refine wpList_lookup_m _ rfl _ _ 168 rfl 9 28 Tryz.underlying168 Tryz.underlying9 _ (Tryz.zeroValue28 _) bl _ rfl H1.out key _ rfl rfl _ hlk ?_))
  refine (lclone_any a m c l w HV.out (by omega)).mono ?_
  rintro e w1 ⟨v, rfl, R1, b1⟩
  obtain ⟨a1, c1, rfl, l1⟩ := R1.shape
  have L1 := Lib.hid l1
  have B1 := Lib.hid b1
  clear R1 l1 b1
  generalize l.length = q at *
  go_wp2
  go_ret
  exact ⟨a1, c1, by rw [L1.out.1]; rfl, by rw [L1.out.1]; exact L1.out, B1.out⟩
end Go.Proofs.YtmifpfojhlmbkaaGreat
namespace Go.Proofs.YtmifpfojhlmbkaaGreat
set_option maxRecDepth 100000
set_option maxHeartbeats 16000000
open Go.RowKit
set_option linter.unusedVariables false
set_option linter.unusedSimpArgs false
theorem gisNone_no (w : World) (x bi bf : Nat) (h : GrCell w x bi bf) : Calls Tryz.prog 114 #[.pointer (some ⟨x, 0, none⟩)] w fun e w' => e = .returned (.bool false) ∧ w = w' := by
  have heq := fun (r : Option Nat) (W : World) => run_eql_map_nil W 173 _ _ r Tryz.underlying173
  have c0 := h.c0
  go_enter Tryz.func114, Tryz.ntmps114
  go_wp2
  go_ret
  exact ⟨rfl, rfl⟩
theorem gnew_any (w : World) : Calls Tryz.prog 52 #[] w fun e w' => ∃ x bi bf F, e = .returned (.pointer (some ⟨x, 0, none⟩)) ∧ GrAt w' x bi bf F [] ∧ Below w.heap.size w w' ∧ w.heap.size ≤ x ∧ ∀ i, F i → w.heap.size ≤ i := by
  have hmm := @run_makeMap Tryz.prog
  have B1 := (Below.refl w.heap.size w).alloc (Nat.le_refl _) (.map #[] 0)
  have M1 := MapAt.new w
  have M2 := MapAt.new (w.alloc (.map #[] 0))
  have M1' := M1.keep ((Below.refl _ _).alloc (Nat.le_refl _) (.map #[] 0))
  have B2 := B1.alloc (by simp) (.map #[] 0)
  have B3 := B2.alloc (by simp; omega) (.cells #[mp w.heap.size, mp (w.heap.size + 1)] 176)
  have X3 := heap_new ((w.alloc (.map #[] 0)).alloc (.map #[] 0)) (.cells #[mp w.heap.size, mp (w.heap.size + 1)] 176)
  have B23 := (Below.refl _ ((w.alloc (.map #[] 0)).alloc (.map #[] 0))).alloc (Nat.le_refl _) (.cells #[mp w.heap.size, mp (w.heap.size + 1)] 176)
  have M1'' := M1'.keep B23
  have M2' := M2.keep B23
  have s1 : (w.alloc (.map #[] 0)).heap.size = w.heap.size + 1 := by simp
  have s2 : ((w.alloc (.map #[] 0)).alloc (.map #[] 0)).heap.size = w.heap.size + 1 + 1 := by simp
  rw [s1] at M2'
  rw [s2] at X3
  clear B1 B2 M1 M2 M1' B23
  go_enter Tryz.func52, Tryz.ntmps52
  go_wp2
  go_ret
  refine ⟨w.heap.size + 1 + 1, w.heap.size, w.heap.size + 1, fun i => i = w.heap.size ∨ i = w.heap.size + 1, rfl, ⟨⟨X3, by omega, .inl rfl, .inr rfl, by omega, fun i hi => ?_, ⟨[], M1'', fun _ => rfl⟩, ⟨[], fun _ => none, M2', fun _ => rfl, ⟨fun _ _ e => (by cases e), fun _ _ _ e => (by cases e), fun _ _ => rfl, fun _ _ _ _ _ e => (by cases e)⟩⟩⟩, GoodU.nil, fun LF m k hk => by rw [m.uniq M2'] at hk; cases hk⟩, B3, by omega, fun i hi => by omega⟩
  rcases hi with rfl | rfl
  · exact .inl M1''.isMap
  · exact .inl M2'.isMap
theorem isMade_ok (w : World) (x bi bf : Nat) (I : Tx → Option Ru) (d : Tx) (hc : GrCell w x bi bf) (h : IntoAt w bi I) :
    Calls Tryz.prog 163 #[.pointer (some ⟨x, 0, none⟩), .string (bs d)] w fun e w' => e = .returned (.bool (I d).isSome) ∧ Below w.heap.size w w' := by
  have c0 := hc.c0
  obtain ⟨LI, h1, h2⟩ := h
  have H1 := Lib.hid h1
  obtain ⟨r0, r1, r2, r3, r4, hu⟩ : ∃ (r0 r1 : ByteArray) (r2 r3 r4 : Int), (look LI d).getD (.agg #[.string ⟨#[]⟩, .string ⟨#[]⟩, .int .i64 0, .int .i64 0, .int .i64 0]) = .agg #[.string r0, .string r1, .int .i64 r2, .int .i64 r3, .int .i64 r4] := by
    rw [h2]
    cases I d with
    | none => exact ⟨_, _, _, _, _, rfl⟩
    | some r => exact ⟨_, _, _, _, _, rfl⟩
  have hok : (look LI d).isSome = (I d).isSome := by rw [h2]; cases I d <;> rfl
  have HB := Lib.hid ((Below.refl w.heap.size w).alloc (Nat.le_refl _) (.cells #[.string r0, .string r1, .int .i64 r2, .int .i64 r3, .int .i64 r4] 32))
  clear hc h1 h2
  generalize (I d).isSome = b at *
  go_enter Tryz.func163, Tryz.ntmps163
  go_wp2_with (first
    | (at_lookup; refine wpList_lookup_mok _ rfl _ _ 173 rfl 9 32 Tryz.underlying173 Tryz.underlying9 _ (Tryz.zeroValue32 _) bi _ rfl H1.out d _ rfl rfl _ hu _ hok ?_))
  go_ret
  exact ⟨rfl, HB.out⟩
theorem isSource_ok (w : World) (x bi bf : Nat) (F : Nat → Prop) (O : Tx → List Ru) (d : Tx) (hc : GrCell w x bi bf) (h : FromAt w bf F O) :
    Calls Tryz.prog 164 #[.pointer (some ⟨x, 0, none⟩), .string (bs d)] w fun e w' => e = .returned (.bool (decide (O d ≠ []))) ∧ w = w' := by
  have c1 := hc.c1
  obtain ⟨LF, K, h1, h2, h3⟩ := h
  have H1 := Lib.hid h1
  obtain ⟨a, cap, e, hr, _⟩ := (h3.row d).shape
  have hl : (look LF d).getD (.slice none 0 0) = .slice a (O d).length cap := by rw [h2, ← e]; rfl
  have HD := Lib.hid (show decide (O d ≠ []) = decide (0 < ((O d).length : Int)) from by
    rw [decide_eq_decide]
    cases O d <;> simp)
  clear h1 h2 h3 e hr hc
  generalize (O d).length = n at *
  generalize decide (O d ≠ []) = b at *
  by_cases h0 : 0 < (n : Int)
  · rw [decide_eq_true h0] at HD
    go_enter Tryz.func164, Tryz.ntmps164
    go_wp2_with (first
      | (at_lookup; refine wpList_lookup_m _ rfl _ _ 174 rfl 9 38 Tryz.underlying174 Tryz.underlying9 _ (Tryz.zeroValue38 _) bf _ rfl H1.out d _ rfl rfl _ hl ?_))
    go_ret
    exact ⟨ret_bool (by rw [HD.out]; simpa using h0), rfl⟩
  · rw [decide_eq_false h0] at HD
    go_enter Tryz.func164, Tryz.ntmps164
    go_wp2_with (first
      | (at_lookup; refine wpList_lookup_m _ rfl _ _ 174 rfl 9 38 Tryz.underlying174 Tryz.underlying9 _ (Tryz.zeroValue38 _) bf _ rfl H1.out d _ rfl rfl _ hl ?_))
    go_ret
    exact ⟨ret_bool (by rw [HD.out]; simpa using h0), rfl⟩
theorem end_pos (size align : Int) : decide (0 < endB 0 size align) = decide (rightB size align) := by
  rw [decide_eq_decide]
  by_cases h : rightB size align
  · have hs := h.1
    have ha := h.2
    simp only [h, iff_true]
    by_cases h0 : (0 : Int) < align
    · rw [endB_of h (by omega) (by omega), if_pos h0]; exact h0
    · rw [endB_of h (by omega) (by omega), if_neg h0]
      have := startB_in (t := 0) (size := size) (align := align)
      omega
  · simp only [h, iff_false]
    unfold endB
    rw [if_pos (.inl h)]
    omega
theorem gcut_any (size align : Int) (w : World) :
    Calls Tryz.prog 162 #[.int .i64 size, .int .i64 align] w fun e w' => e = .returned (.bool (decide (rightB size align))) ∧ w = w' := by
  have E := Lib.hid (end_pos size align)
  have H := Lib.hid (fun W => end_any 0 size align W)
  generalize endB 0 size align = n at *
  generalize decide (rightB size align) = b at *
  by_cases h0 : 0 < n
  · rw [decide_eq_true h0] at E
    go_enter Tryz.func162, Tryz.ntmps162
    go_wp2_with fail
    refine (H.out _).mono ?_
    rintro e w' ⟨rfl, rfl⟩
    go_wp2
    go_ret
    exact ⟨ret_bool E.out, rfl⟩
  · rw [decide_eq_false h0] at E
    go_enter Tryz.func162, Tryz.ntmps162
    go_wp2_with fail
    refine (H.out _).mono ?_
    rintro e w' ⟨rfl, rfl⟩
    go_wp2
    go_ret
    exact ⟨ret_bool (by rw [← E.out]; simpa using h0), rfl⟩
theorem gright_any (r : Ru) (w : World) : Calls Tryz.prog 91 #[ruV r] w fun e w' => e = .returned (.bool (decide (rightU r))) ∧ Below w.heap.size w w' := by
  obtain ⟨s, d, k, n, a⟩ := r
  unfold ruV
  show Calls Tryz.prog 91 #[.agg #[.string (bs s), .string (bs d), .int .i64 k, .int .i64 n, .int .i64 a]] w _
  have hne : ((bs s).toList == (bs d).toList) = decide (s = d) := eq_bs s d
  have X := BoxU.new 32 w ⟨s, d, k, n, a⟩
  have x0 := X.x0
  have x1 := X.x1
  have x2 := X.x2
  have x3 := X.x3
  have x4 := X.x4
  have HB := Lib.hid ((Below.refl w.heap.size w).alloc (Nat.le_refl _) (.cells #[.string (bs s), .string (bs d), .int .i64 k, .int .i64 n, .int .i64 a] 32))
  simp only at x0 x1 x2 x3 x4
  have HS := Lib.hid (fun W => key_any s W)
  have HD := Lib.hid (fun W => key_any d W)
  have HK := Lib.hid (fun W => aright_any k W)
  have HC := Lib.hid (fun W => gcut_any n a W)
  have HE := Lib.hid (show decide (rightU ⟨s, d, k, n, a⟩) = (decide (keyB s) && (decide (keyB d) && (!decide (s = d) && (decide (kok k) && decide (rightB n a))))) from by
    rw [← decide_not, ← Bool.decide_and, ← Bool.decide_and, ← Bool.decide_and, ← Bool.decide_and]; rfl)
  clear X
  generalize decide (rightU ⟨s, d, k, n, a⟩) = b at *
  generalize decide (keyB s) = b1 at *
  generalize decide (keyB d) = b2 at *
  generalize decide (s = d) = b3 at *
  generalize decide (kok k) = b4 at *
  generalize decide (rightB n a) = b5 at *
  cases b1
  · go_enter Tryz.func91, Tryz.ntmps91
    go_wp2_with (first | (go_at_call 153; refine (HS.out _).mono ?_; rintro e w' ⟨rfl, rfl⟩))
    go_ret
    exact ⟨ret_bool HE.out.symm, HB.out⟩
  cases b2
  · go_enter Tryz.func91, Tryz.ntmps91
    go_wp2_with fail
    refine (HS.out _).mono ?_; rintro e w' ⟨rfl, rfl⟩
    go_wp2_with fail
    refine (HD.out _).mono ?_; rintro e w' ⟨rfl, rfl⟩
    go_wp2
    go_ret
    exact ⟨ret_bool HE.out.symm, HB.out⟩
  cases b3
  · cases b4
    · go_enter Tryz.func91, Tryz.ntmps91
      go_wp2_with fail
      refine (HS.out _).mono ?_; rintro e w' ⟨rfl, rfl⟩
      go_wp2_with fail
      refine (HD.out _).mono ?_; rintro e w' ⟨rfl, rfl⟩
      go_wp2_with fail
      refine (HK.out _).mono ?_; rintro e w' ⟨rfl, rfl⟩
      go_wp2
      go_ret
      exact ⟨ret_bool HE.out.symm, HB.out⟩
    · go_enter Tryz.func91, Tryz.ntmps91
      go_wp2_with fail
      refine (HS.out _).mono ?_; rintro e w' ⟨rfl, rfl⟩
      go_wp2_with fail
      refine (HD.out _).mono ?_; rintro e w' ⟨rfl, rfl⟩
      go_wp2_with fail
      refine (HK.out _).mono ?_; rintro e w' ⟨rfl, rfl⟩
      go_wp2_with fail
      refine (HC.out _).mono ?_; rintro e w' ⟨rfl, rfl⟩
      go_wp2
      go_ret
      exact ⟨ret_bool (by rw [HE.out]; rfl), HB.out⟩
  · go_enter Tryz.func91, Tryz.ntmps91
    go_wp2_with fail
    refine (HS.out _).mono ?_; rintro e w' ⟨rfl, rfl⟩
    go_wp2_with fail
    refine (HD.out _).mono ?_; rintro e w' ⟨rfl, rfl⟩
    go_wp2
    go_ret
    exact ⟨ret_bool HE.out.symm, HB.out⟩
theorem compare_is : ∀ (x y : Tx), Lib.compareBytes x y = cmpL x y
  | [], [] => by simp [Lib.compareBytes, cmpL]
  | [], b :: y => by simp [Lib.compareBytes, cmpL]
  | a :: x, [] => by simp [Lib.compareBytes, cmpL]
  | a :: x, b :: y => by
    have ih := compare_is x y
    unfold Lib.compareBytes
    unfold cmpL at *
    simp only [List.cons_lt_cons_iff]
    by_cases h1 : a < b
    · simp [h1]
    · by_cases h2 : b < a
      · have : ¬ a = b := fun e => h1 (by rw [e] at h2; exact absurd h2 (by rw [UInt8.lt_iff_toNat_lt]; omega))
        simp [h1, h2, this]
      · have : a = b := UInt8.toNat_inj.1 (by rw [UInt8.lt_iff_toNat_lt] at h1 h2; omega)
        subst this
        simp [h1, ih]
theorem compareString_any (a b : ByteArray) (w : World) :
    Calls Tryz.prog 324 #[.string a, .string b] w fun e w' => e = .returned (.int .i64 (Lib.compareBytes a.data.toList b.data.toList)) ∧ w = w' := by
  go_enter Tryz.func324, Tryz.ntmps324
  go_wp2
  rw [run_callFunc_extern Tryz.func342 (by kernel_rfl) (by kernel_rfl) (by kernel_rfl) (e := Extern.BytealgCompare.compare) (by kernel_rfl), Lib.run_compareString]
  simp only [Result.andThen]
  rw [Oper.upon_value]
  go_wp2
  go_ret
  exact ⟨rfl, rfl⟩
theorem compare_any (x y : Tx) (w : World) :
    Calls Tryz.prog 285 #[.string (bs x), .string (bs y)] w fun e w' => e = .returned (.int .i64 (cmpL x y)) ∧ w = w' := by
  have H := Lib.hid (compareString_any (bs x) (bs y) w)
  rw [show (bs x).data.toList = x from tx_bs x, show (bs y).data.toList = y from tx_bs y, compare_is] at H
  go_enter Tryz.func285, Tryz.ntmps285
  go_wp2_with fail
  refine H.out.mono ?_
  rintro e w' ⟨rfl, rfl⟩
  go_wp2
  go_ret
  exact ⟨rfl, rfl⟩
theorem byDst_any (r : Ru) (d : Tx) (w : World) : Calls Tryz.prog 232 #[ruV r, .string (bs d)] w fun e w' => e = .returned (.int .i64 (cmpL r.dst d)) ∧ Below w.heap.size w w' := by
  obtain ⟨s, t, k, n, a⟩ := r
  unfold ruV
  show Calls Tryz.prog 232 #[.agg #[.string (bs s), .string (bs t), .int .i64 k, .int .i64 n, .int .i64 a], .string (bs d)] w fun e w' => e = .returned (.int .i64 (cmpL t d)) ∧ Below w.heap.size w w'
  have X := BoxU.new 32 w ⟨s, t, k, n, a⟩
  have x1 := X.x1
  have HB := Lib.hid ((Below.refl w.heap.size w).alloc (Nat.le_refl _) (.cells #[.string (bs s), .string (bs t), .int .i64 k, .int .i64 n, .int .i64 a] 32))
  simp only at x1
  have H := Lib.hid (fun W => compare_any t d W)
  generalize cmpL t d = c at *
  clear X
  go_enter Tryz.func232, Tryz.ntmps232
  go_wp2_with fail
  refine (H.out _).mono ?_
  rintro e w' ⟨rfl, rfl⟩
  go_wp2
  go_ret
  exact ⟨rfl, HB.out⟩
end Go.Proofs.YtmifpfojhlmbkaaGreat
namespace Go.Proofs.YtmifpfojhlmbkaaGreat
set_option maxRecDepth 100000
set_option maxHeartbeats 16000000
set_option linter.unusedVariables false
set_option linter.unusedSimpArgs false
def Far (sz : Int) (a b : List (Int × Int)) : Prop := ∃ a1 a2 b1 b2, a = a1 ++ a2 ∧ b = b1 ++ b2 ∧ 8 * sz < (bitsZ (a2 ++ b1) : Int)
theorem Far.left {sz : Int} {a b : List (Int × Int)} (h : Far sz a b) (c : List (Int × Int)) : Far sz (c ++ a) b := by
  obtain ⟨a1, a2, b1, b2, rfl, rfl, h⟩ := h
  exact ⟨c ++ a1, a2, b1, b2, by rw [List.append_assoc], rfl, h⟩
theorem Far.right {sz : Int} {a b : List (Int × Int)} (h : Far sz a b) (c : List (Int × Int)) : Far sz a (b ++ c) := by
  obtain ⟨a1, a2, b1, b2, rfl, rfl, h⟩ := h
  exact ⟨a1, a2, b1, b2 ++ c, rfl, by rw [List.append_assoc], h⟩
theorem Far.of {sz : Int} {a b : List (Int × Int)} (h : ¬ Fit sz (a ++ b)) : Far sz a b := by
  unfold Fit at h
  exact ⟨[], a, b, [], rfl, by rw [List.append_nil], by omega⟩
theorem Far.apart {sz : Int} (hs : 128 ≤ sz) {a b : List (Int × Int)} (h : Far sz a b) : Apart sz a b := by
  rintro ⟨ha, hb⟩
  obtain ⟨a1, a2, b1, b2, rfl, rfl, h⟩ := h
  have h1 := small_bits ha
  have h2 := small_bits hb
  have h3 := bits_back a1 a2
  have h4 := bits_front b1 b2
  have h5 := bits_app a2 b1
  omega
theorem adj_mono {α : Type} {R S : α → α → Prop} (h : ∀ a b, R a b → S a b) : ∀ l : List α, Adj R l → Adj S l
  | [], _ => trivial
  | [_], _ => trivial
  | a :: b :: l, k => ⟨h a b k.1, adj_mono h (b :: l) k.2⟩
def LaidL (sz : Int) (z : List (Int × Int)) (Z : List (List (Int × Int))) : Prop := Z.flatten = z ∧ (∀ x ∈ Z, x ≠ [] ∧ Fit sz x) ∧ Adj (Far sz) Z
theorem LaidL.good {sz : Int} (hs : 128 ≤ sz) {z : List (Int × Int)} {Z : List (List (Int × Int))} (h : LaidL sz z Z) : Good sz Z := ⟨h.2.1, adj_mono (fun _ _ k => k.apart hs) Z h.2.2⟩
theorem LaidL.ne {sz : Int} {z : List (Int × Int)} {Z : List (List (Int × Int))} (h : LaidL sz z Z) (hz : z ≠ []) : Z ≠ [] := by
  intro e; subst e; exact hz h.1.symm
theorem LaidL.part {sz : Int} {x y p q : List (Int × Int)} {I R : List (List (Int × Int))} (h : LaidL sz x (I ++ [p])) (k : LaidL sz y (q :: R)) (hf : ¬ Fit sz (p ++ q)) : LaidL sz (x ++ y) (I ++ [p] ++ q :: R) := by
  obtain ⟨h1, h2, h3⟩ := h
  obtain ⟨k1, k2, k3⟩ := k
  refine ⟨?_, ?_, ?_⟩
  · rw [List.flatten_append, h1, k1]
  · intro u hu
    rcases List.mem_append.1 hu with hu | hu
    · exact h2 u hu
    · exact k2 u hu
  · refine (adj_app _ _).2 ⟨h3, k3, fun a ha b hb => ?_⟩
    have e : a = p := by simpa using ha.symm
    have e2 : b = q := by simpa using hb.symm
    subst e e2
    exact Far.of hf
theorem LaidL.nil (sz : Int) : LaidL sz [] [] := ⟨rfl, by simp, trivial⟩
theorem LaidL.one {sz : Int} (hs : 128 ≤ sz) (u : Int × Int) : LaidL sz [u] [[u]] := ⟨rfl, fun x hx => by simp at hx; subst hx; exact ⟨by simp, fit_one hs _ (by simp)⟩, trivial⟩
end Go.Proofs.YtmifpfojhlmbkaaGreat
namespace Go.Proofs.YtmifpfojhlmbkaaGreat
set_option maxRecDepth 100000
set_option maxHeartbeats 16000000
open Go.RowKit
set_option linter.unusedVariables false
set_option linter.unusedSimpArgs false
theorem hNew (w : World) : Calls Tryz.prog 9 #[] w fun e w' => ∃ x m, e = .returned (.pointer (some ⟨x, 0, none⟩)) ∧ SpAt w' x m noSpc ∧ w.heap.size ≤ x ∧ Below w.heap.size w w' ∧ ∀ i, Own m [] i → w.heap.size ≤ i := by
  have hmm := @run_makeMap Tryz.prog
  have B1 := (Below.refl w.heap.size w).alloc (Nat.le_refl _) (.map #[] 0)
  have M1 := Lib.hid (MapAt.new w)
  have HB1 := Lib.hid B1
  have s1 : (w.alloc (.map #[] 0)).heap.size = w.heap.size + 1 := by simp
  have S1 := Lib.hid s1
  clear B1 s1
  go_enter Tryz.func9, Tryz.ntmps9
  go_wp2_with fail
  generalize hBB : w.heap.size = B0 at *
  have HBB := Lib.hid hBB
  generalize w.alloc (.map #[] 0) = w1 at *
  clear hBB
  refine (new_any w1).mono ?_
  rintro e w2 ⟨ix, bl, bn, ρ, rfl, hix, b2, hfa⟩
  have HI := Lib.hid hix
  have B2 := Lib.hid b2
  have HFA := Lib.hid hfa
  clear hix b2 hfa
  go_wp2_with fail
  refine (gnew_any w2).mono ?_
  rintro e w3 ⟨gx, bi, bf, F, rfl, hgr, b3, hgx, hF⟩
  have HG := Lib.hid hgr
  have B3 := Lib.hid b3
  have HF := Lib.hid hF
  have B4 := Lib.hid ((Below.refl w3.heap.size w3).alloc (Nat.le_refl _) (.cells #[mp B0, pt ix, pt gx] 98))
  have HX := Lib.hid (heap_new w3 (.cells #[mp B0, pt ix, pt gx] 98))
  unfold pt mp at B4 HX
  clear hgr b3 hgx hF
  go_wp2
  go_ret
  have e1 := S1.out
  have e2 := B2.out.size
  have e3 := B3.out.size
  refine ⟨w3.heap.size, ⟨B0, ix, bl, bn, ρ, gx, bi, bf, F, fun _ => 0⟩, rfl, ⟨HX.out, ⟨[], ?_, fun k => rfl⟩, (HI.out.keep B3.out).keep B4.out, HG.out.keep B4.out, fun k hk => absurd hk (by simp [Spc.has, noSpc, keysL]), fun k j hk => absurd hk (by simp [Spc.has, noSpc, keysL]), fun f => ?_, fun f => ?_, fun i f a => ?_, Ok12.none⟩, by rw [HBB.out]; omega, ?_, fun i f => ?_⟩
  · exact ((M1.out.keep B2.out).keep B3.out).keep B4.out
  · have := HFA.out B0 f; omega
  · have := HF.out B0 f; omega
  · have h1 := HF.out i f
    have h2 := HI.out.lt a
    omega
  · rw [HBB.out]
    exact (HB1.out.trans (B2.out.mono (by omega))).trans ((B3.out.mono (by omega)).trans (B4.out.mono (by omega)))
  · rw [HBB.out]
    rcases f with rfl | f | f | ⟨k, hk, _⟩
    · exact Nat.le_refl _
    · have := HFA.out i f; omega
    · have := HF.out i f; omega
    · simp [keysL] at hk
def BegP (k : Tx) (P : Spc) (sz ret pol : Int) (l : List Lb) (w : World) (e : Ending) (w' : World) : Prop :=
  ∃ p, e = .returned (.tuple #[.pointer p, .int .i64 (bErr P k sz ret pol l)]) ∧ (bErr P k sz ret pol l = 0 → ∃ o, p = some ⟨o, 0, none⟩ ∧ w.heap.size ≤ o ∧ SerAt w' o sz (newSer ret pol)) ∧ Below w.heap.size w w'
def BoxN (w : World) (B : Nat) (sz ret pol : Int) (v : Value) : Prop := w.heap[B]? = some (.cells #[.int .i64 sz, .int .i64 ret, .int .i64 pol, v] 30 (0, 0))
theorem BoxN.x0 {w : World} {B : Nat} {sz ret pol : Int} {v : Value} (h : BoxN w B sz ret pol v) : w.cell? ⟨B, 0, none⟩ = some (.int .i64 sz) := by rw [cell_of h]; rfl
theorem BoxN.x1 {w : World} {B : Nat} {sz ret pol : Int} {v : Value} (h : BoxN w B sz ret pol v) : w.cell? ⟨B, 1, none⟩ = some (.int .i64 ret) := by rw [cell_of h]; rfl
theorem BoxN.x2 {w : World} {B : Nat} {sz ret pol : Int} {v : Value} (h : BoxN w B sz ret pol v) : w.cell? ⟨B, 2, none⟩ = some (.int .i64 pol) := by rw [cell_of h]; rfl
theorem BoxN.x3 {w : World} {B : Nat} {sz ret pol : Int} {v : Value} (h : BoxN w B sz ret pol v) : w.cell? ⟨B, 3, none⟩ = some v := by rw [cell_of h]; rfl
theorem BoxN.keep {w w' : World} {B : Nat} {sz ret pol : Int} {v : Value} (h : BoxN w B sz ret pol v) (b : Below w.heap.size w w') : BoxN w' B sz ret pol v := (b.block B (heap_lt h)).trans h
theorem hBegun (w : World) (x : Nat) (m : Mem) (P : Spc) (k : Tx) (sz ret pol : Int) (a : Option Addr) (n c : Nat) (l : List Lb) (h : SpAt w x m P) (hl : LbAt w a n c l) :
    Calls Tryz.prog 84 #[.pointer (some ⟨x, 0, none⟩), .string (bs k), .agg #[.int .i64 sz, .int .i64 ret, .int .i64 pol, .slice a n c]] w (BegP k P sz ret pol l w) := by
  have B1 := (Below.refl w.heap.size w).alloc (Nat.le_refl _) (.cells #[.int .i64 sz, .int .i64 ret, .int .i64 pol, .slice a n c] 30)
  have H1 := Lib.hid (h.keep B1)
  have L1 := Lib.hid (hl.keep B1)
  have HB1 := Lib.hid B1
  have HX := Lib.hid (show BoxN (w.alloc (.cells #[.int .i64 sz, .int .i64 ret, .int .i64 pol, .slice a n c] 30)) w.heap.size sz ret pol (.slice a n c) from heap_new w _)
  have HK := Lib.hid (fun W => key_any k W)
  have HR := Lib.hid (fun W (q : LbAt W a n c l) => right9_any a n c l W q)
  have HH := Lib.hid (fun W (q : SpAt W x m P) => hHas W x m P k q)
  by_cases h1 : (128 ≤ sz ∧ sz ≤ 4096) ∧ keepB ret pol
  · have HN := Lib.hid (fun W => snew_at sz ret pol W h1.1.1 h1.1.2 h1.2)
    by_cases h2 : keyB k
    · rw [decide_eq_true h2] at HK
      by_cases h3 : rightL l
      · rw [decide_eq_true h3] at HR
        by_cases h4 : P.has k
        · rw [decide_eq_true h4] at HH
          have HE := Lib.hid (show bErr P k sz ret pol l = 6 from by unfold bErr; rw [if_neg (by simp [h1, h2, h3]), if_pos h4])
          clear h hl B1 h1 h2 h3 h4
          go_enter Tryz.func84, Tryz.ntmps84
          go_wp2_with fail
          generalize hBB : w.heap.size = B0 at *
          have HBB := Lib.hid hBB
          generalize w.alloc (.cells #[.int .i64 sz, .int .i64 ret, .int .i64 pol, .slice a n c] 30) = w1 at *
          clear hBB
          refine (hNone_no w1 x m H1.out.cell).mono ?_
          rintro e w' ⟨rfl, rfl⟩
          have x0 := HX.out.x0
          have x1 := HX.out.x1
          have x2 := HX.out.x2
          go_wp2_with fail
          refine (HN.out _).mono ?_
          rintro e w2 ⟨o, rfl, s2, ho, b2⟩
          have x3 := (HX.out.keep b2).x3
          have L2 := Lib.hid (L1.out.keep b2)
          have H2 := Lib.hid (H1.out.keep b2)
          have B2 := Lib.hid b2
          clear b2 s2 ho x0 x1 x2
          go_wp2_with fail
          refine (HK.out _).mono ?_
          rintro e w' ⟨rfl, rfl⟩
          go_wp2_with fail
          refine (HR.out _ L2.out).mono ?_
          rintro e w3 ⟨rfl, b3⟩
          have H3 := Lib.hid (H2.out.keep b3)
          have B3 := Lib.hid (B2.out.trans (b3.mono B2.out.size))
          clear b3 x3
          go_wp2_with fail
          refine (HH.out _ H3.out).mono ?_
          rintro e w4 ⟨rfl, b4⟩
          have B4 := Lib.hid (show Below w.heap.size w w4 from by rw [HBB.out]; exact HB1.out.trans ((B3.out.trans (b4.mono B3.out.size)).mono (Nat.le_of_lt (heap_lt HX.out))))
          clear b4
          go_wp2
          go_ret2
          exact ⟨none, by rw [HE.out]; rfl, by rw [HE.out]; intro q; omega, B4.out⟩
        · rw [decide_eq_false h4] at HH
          have HE := Lib.hid (show bErr P k sz ret pol l = 0 from by unfold bErr; rw [if_neg (by simp [h1, h2, h3]), if_neg h4])
          clear h hl B1 h1 h2 h3 h4
          go_enter Tryz.func84, Tryz.ntmps84
          go_wp2_with fail
          generalize hBB : w.heap.size = B0 at *
          have HBB := Lib.hid hBB
          generalize w.alloc (.cells #[.int .i64 sz, .int .i64 ret, .int .i64 pol, .slice a n c] 30) = w1 at *
          clear hBB
          refine (hNone_no w1 x m H1.out.cell).mono ?_
          rintro e w' ⟨rfl, rfl⟩
          have x0 := HX.out.x0
          have x1 := HX.out.x1
          have x2 := HX.out.x2
          go_wp2_with fail
          refine (HN.out _).mono ?_
          rintro e w2 ⟨o, rfl, s2, ho, b2⟩
          have x3 := (HX.out.keep b2).x3
          have L2 := Lib.hid (L1.out.keep b2)
          have H2 := Lib.hid (H1.out.keep b2)
          have B2 := Lib.hid b2
          have S2 := Lib.hid s2
          have HO := Lib.hid (show w.heap.size ≤ o from by rw [HBB.out]; exact Nat.le_trans (Nat.le_of_lt (heap_lt HX.out)) ho)
          clear b2 s2 ho x0 x1 x2
          go_wp2_with fail
          refine (HK.out _).mono ?_
          rintro e w' ⟨rfl, rfl⟩
          go_wp2_with fail
          refine (HR.out _ L2.out).mono ?_
          rintro e w3 ⟨rfl, b3⟩
          have H3 := Lib.hid (H2.out.keep b3)
          have S3 := Lib.hid (S2.out.keepB b3)
          have B3 := Lib.hid (B2.out.trans (b3.mono B2.out.size))
          clear b3 x3
          go_wp2_with fail
          refine (HH.out _ H3.out).mono ?_
          rintro e w4 ⟨rfl, b4⟩
          have S4 := Lib.hid (S3.out.keepB b4)
          have B4 := Lib.hid (show Below w.heap.size w w4 from by rw [HBB.out]; exact HB1.out.trans ((B3.out.trans (b4.mono B3.out.size)).mono (Nat.le_of_lt (heap_lt HX.out))))
          clear b4
          go_wp2
          go_ret2
          exact ⟨_, by rw [HE.out]; rfl, fun _ => ⟨o, rfl, HO.out, S4.out⟩, B4.out⟩
      · rw [decide_eq_false h3] at HR
        have HE := Lib.hid (show bErr P k sz ret pol l = 1 from by unfold bErr; rw [if_pos (.inr (.inr h3))])
        clear h hl B1 h1 h2 h3
        go_enter Tryz.func84, Tryz.ntmps84
        go_wp2_with fail
        generalize hBB : w.heap.size = B0 at *
        have HBB := Lib.hid hBB
        generalize w.alloc (.cells #[.int .i64 sz, .int .i64 ret, .int .i64 pol, .slice a n c] 30) = w1 at *
        clear hBB
        refine (hNone_no w1 x m H1.out.cell).mono ?_
        rintro e w' ⟨rfl, rfl⟩
        have x0 := HX.out.x0
        have x1 := HX.out.x1
        have x2 := HX.out.x2
        go_wp2_with fail
        refine (HN.out _).mono ?_
        rintro e w2 ⟨o, rfl, s2, ho, b2⟩
        have x3 := (HX.out.keep b2).x3
        have L2 := Lib.hid (L1.out.keep b2)
        have B2 := Lib.hid b2
        clear b2 s2 ho x0 x1 x2
        go_wp2_with fail
        refine (HK.out _).mono ?_
        rintro e w' ⟨rfl, rfl⟩
        go_wp2_with fail
        refine (HR.out _ L2.out).mono ?_
        rintro e w3 ⟨rfl, b3⟩
        have B3 := Lib.hid (show Below w.heap.size w w3 from by rw [HBB.out]; exact HB1.out.trans ((B2.out.trans (b3.mono B2.out.size)).mono (Nat.le_of_lt (heap_lt HX.out))))
        clear b3 x3
        go_wp2
        go_ret2
        exact ⟨none, by rw [HE.out]; rfl, by rw [HE.out]; intro q; omega, B3.out⟩
    · rw [decide_eq_false h2] at HK
      have HE := Lib.hid (show bErr P k sz ret pol l = 1 from by unfold bErr; rw [if_pos (.inr (.inl h2))])
      clear h hl B1 h1 h2
      go_enter Tryz.func84, Tryz.ntmps84
      go_wp2_with fail
      generalize hBB : w.heap.size = B0 at *
      have HBB := Lib.hid hBB
      generalize w.alloc (.cells #[.int .i64 sz, .int .i64 ret, .int .i64 pol, .slice a n c] 30) = w1 at *
      clear hBB
      refine (hNone_no w1 x m H1.out.cell).mono ?_
      rintro e w' ⟨rfl, rfl⟩
      have x0 := HX.out.x0
      have x1 := HX.out.x1
      have x2 := HX.out.x2
      go_wp2_with fail
      refine (HN.out _).mono ?_
      rintro e w2 ⟨o, rfl, s2, ho, b2⟩
      have B2 := Lib.hid (show Below w.heap.size w w2 from by rw [HBB.out]; exact HB1.out.trans (b2.mono (Nat.le_of_lt (heap_lt HX.out))))
      clear b2 s2 ho x0 x1 x2
      go_wp2_with fail
      refine (HK.out _).mono ?_
      rintro e w' ⟨rfl, rfl⟩
      go_wp2
      go_ret2
      exact ⟨none, by rw [HE.out]; rfl, by rw [HE.out]; intro q; omega, B2.out⟩
  · have HN := Lib.hid (fun W => snew_bad sz ret pol W h1)
    have HE := Lib.hid (show bErr P k sz ret pol l = 1 from by unfold bErr; rw [if_pos (.inl h1)])
    clear h hl B1 h1
    go_enter Tryz.func84, Tryz.ntmps84
    go_wp2_with fail
    generalize hBB : w.heap.size = B0 at *
    have HBB := Lib.hid hBB
    generalize w.alloc (.cells #[.int .i64 sz, .int .i64 ret, .int .i64 pol, .slice a n c] 30) = w1 at *
    clear hBB
    refine (hNone_no w1 x m H1.out.cell).mono ?_
    rintro e w' ⟨rfl, rfl⟩
    have x0 := HX.out.x0
    have x1 := HX.out.x1
    have x2 := HX.out.x2
    go_wp2_with fail
    refine (HN.out _).mono ?_
    rintro e w2 ⟨rfl, b2⟩
    have B2 := Lib.hid (show Below w.heap.size w w2 from by rw [HBB.out]; exact HB1.out.trans (b2.mono (Nat.le_of_lt (heap_lt HX.out))))
    clear b2 x0 x1 x2
    go_wp2
    go_ret2
    exact ⟨none, by rw [HE.out]; rfl, by rw [HE.out]; intro q; omega, B2.out⟩
end Go.Proofs.YtmifpfojhlmbkaaGreat
