/-
  The statement 'FilterReads' of layer 10: any text's term, and any texts' terms, or what is wrong.
  No condition on the arguments; the tables of unicode/utf8 are as the program's text lays them (the card ties that).
-/
import Derived.Test.YtifjbbiphekmmaaGreatDoorFCut
import Derived.Test.YtifjbbiphekmmaaGreatDoorFRefW
import Derived.Test.YtifjbbiphekmmaaGreatDoorFShow
import Derived.Deep.Cut
import Derived.Test.YtifjbbiphekmmaaGreatDoorFAll
import Derived.Test.YtifjbbiphekmmaaGreatDoorFKnown
import Derived.Test.YtifjbbiphekmmaaGreatDoorFArgs
import Derived.Test.YtifjbbiphekmmaaGreatDoorFLaid
import Derived.Test.YtifjbbiphekmmaaGreatDoorTie
import Derived.Test.YtifjbbiphekmmaaGreatDoorCards
import Derived.Test.YtifjbbiphekmmaaGreatDoorFParse
import Derived.Test.YtifjbbiphekmmaaGreatDoorFSame
import Derived.Test.YtifjbbiphekmmaaGreatDoorFLight
import Derived.Test.YtifjbbiphekmmaaGreatDoorFMeet
import Derived.ShutString
import Derived.ChangeOld
import Derived.SevenTiedAt
/-
  Contract of the document's cut.
-/
namespace Go.Proofs.YtifjbbiphekmmaaGreatDoor
open Go.RowKit Go.Lib
set_option linter.unusedVariables false
set_option linter.unusedSimpArgs false

theorem rcut_more {s : Tx} {f j : Nat} (hf : f ≤ j) (hj : j < s.length) (h : ∀ b ∈ (s.drop f).take (j - f), b ≠ 44) (e : s[j]'hj = 44) : splitC (s.drop f) = (s.drop f).take (j - f) :: splitC (s.drop (j + 1)) := by
  have h1 : s.drop f = (s.drop f).take (j - f) ++ 44 :: s.drop (j + 1) := by
    conv => lhs; rw [← List.take_append_drop (j - f) (s.drop f)]
    rw [List.drop_drop, show f + (j - f) = j by omega, List.drop_eq_getElem_cons hj, e]
  conv => lhs; rw [h1]
  exact split_more (fun hm => h 44 hm rfl)
theorem rcut_next {s : Tx} {f j : Nat} (hf : f ≤ j) (hj : j < s.length) (h : ∀ b ∈ (s.drop f).take (j - f), b ≠ 44) (e : s[j]'hj ≠ 44) : ∀ b ∈ (s.drop f).take (j + 1 - f), b ≠ 44 := by
  rw [show j + 1 - f = (j - f) + 1 by omega, List.take_succ_eq_append_getElem (by simp; omega)]
  intro b hb
  rcases List.mem_append.1 hb with hb | hb
  · exact h b hb
  · rw [List.mem_singleton] at hb
    rw [hb, List.getElem_drop]
    simpa [show f + (j - f) = j by omega] using e
theorem rcut_end {s : Tx} {f : Nat} (h : ∀ b ∈ (s.drop f).take (s.length - f), b ≠ 44) : splitC (s.drop f) = [s.drop f] := by
  rw [List.take_of_length_le (by simp)] at h
  exact split_one (fun hm => h 44 hm rfl)
theorem TRow.spl {w w' : World} {v : Value} {l : List Tx} (h : TRow w' w.heap.size v l) (hb : Below w.heap.size w w') : SplP w l (.returned v) w' := by
  obtain ⟨a, c, e, t⟩ := h.shape
  refine ⟨a, l.length, c, by rw [e], t, hb, fun ad e2 => ?_, fun ad e2 => ?_⟩
  all_goals
    subst e2
    rcases h.2 with ⟨h1, _⟩ | ⟨g, cap, cur, h1, hbg, hg, r⟩
    · rw [e] at h1; cases h1
    · rw [e] at h1
      cases h1
      first
        | exact hbg
        | exact ⟨cur, _, hg⟩
theorem byte44 (x : UInt8) : ((x.toNat : Int) == 44) = decide (x = 44) := by
  by_cases h : x = 44
  · rw [decide_eq_true h, h]; rfl
  · rw [decide_eq_false h]
    exact beq_eq_false_iff_ne.2 fun e => h (UInt8.toNat_inj.1 (by have : (44 : UInt8).toNat = 44 := rfl; omega))

set_option maxHeartbeats 2000000 in
theorem rcut_any (s : Tx) (w : World) (hs : s.length ≤ 1000) : Calls Tryz.prog 46 #[.string (bs s)] w (SplP w (splitC s)) := by
  have hz := bs_size s
  have HZ := Lib.hid hz
  go_enter Tryz.func46, Tryz.ntmps46
  go_wp2
  go_loopw [3, 4, 5] (fun v fv i wr => ∃ (j f : Nat) (D : List Tx), j ≤ s.length ∧ f ≤ j ∧ i = .int .i64 (j : Int) ∧ fv = .int .i64 (f : Int) ∧ D.length ≤ f ∧ Hid (TRow wr w.heap.size v D) ∧ Hid (splitC s = D ++ splitC (s.drop f)) ∧ Hid (∀ b ∈ (s.drop f).take (j - f), b ≠ 44) ∧ Hid (Below w.heap.size w wr)) (fun _ _ i _ => s.length - (intOf i).toNat)
  case atStart => exact ⟨0, 0, [], by omega, by omega, rfl, rfl, by simp, Lib.hid (TRow.nil _ _), Lib.hid rfl, Lib.hid (by simp), Lib.hid (Below.refl _ _)⟩
  case round =>
    obtain ⟨j, f, D, hj, hf, rfl, rfl, hD, HO, HS, HN, HB⟩ := hrel
    by_cases hjn : j < s.length
    · have hjs : j < (bs s).size := by omega
      have HX := Lib.hid (bs_at s j hjs hjn)
      obtain ⟨x, hx⟩ : ∃ x : UInt8, (bs s)[j]'hjs = x := ⟨_, rfl⟩
      rw [hx] at HX
      have hb := byte44 x
      have hlt : (j : Int) < ((bs s).size : Int) := by omega
      by_cases hc : x = 44
      · rw [decide_eq_true hc] at hb
        have HE := Lib.hid (rcut_more hf hjn HN.out (by rw [← HX.out]; exact hc))
        have HEX := Lib.hid (bs_ext s f j)
        have hfj : (f : Int) ≤ (j : Int) := by omega
        have hjz : (j : Int) ≤ ((bs s).size : Int) := by omega
        clear hc HX HN
        generalize (s.drop f).take (j - f) = p at *
        have HT := Lib.hid (TxAt.one wr p)
        have HS2 := Lib.hid (show splitC s = (D ++ [p]) ++ splitC (s.drop (j + 1)) by rw [HS.out, HE.out]; simp)
        have HOA := Lib.hid (HO.out.keep ((Below.refl wr.heap.size wr).alloc (Nat.le_refl _) (.cells #[.string (bs p)] 9)))
        have HBA := Lib.hid (HB.out.alloc HB.out.size (.cells #[.string (bs p)] 9))
        rw [← HEX.out] at HT HOA HBA
        clear HE HS HO HB
        go_wp2_with (at_builtin; refine wpList_append_tx rfl _ _ rfl w.heap.size _ D rfl HOA.out _ 1 1 [p] rfl HT.out (by omega) HBA.out.size ?_)
        intro v5 w5 o5 g5
        have HB5 := Lib.hid (TRow.bel HBA.out HBA.out.size HOA.out (Nat.le_refl _) g5)
        have HO5 := Lib.hid o5
        clear o5 g5 HOA HBA
        go_wp2
        go_roundw
        case rel => exact ⟨j + 1, j + 1, D ++ [p], by omega, by omega, by go_num, by go_num, by simp; omega, HO5, HS2, Lib.hid (by simp), HB5⟩
        case measure => simp [intOf]; omega
      · rw [decide_eq_false hc] at hb
        have HN2 := Lib.hid (rcut_next hf hjn HN.out (by rw [← HX.out]; exact hc))
        clear hc HX HN
        go_wp2
        go_roundw
        case rel => exact ⟨j + 1, f, D, by omega, by omega, by go_num, rfl, hD, HO, HS, HN2, HB⟩
        case measure => simp [intOf]; omega
    · obtain rfl : j = s.length := by omega
      have HE := Lib.hid (rcut_end HN.out)
      have HEX := Lib.hid (show (bs s).extract f (bs s).size = bs (s.drop f) by rw [bs_ext, hz, List.take_of_length_le (by simp)])
      have hlt : ¬ ((s.length : Nat) : Int) < ((bs s).size : Int) := by omega
      have hfz : (f : Int) ≤ ((bs s).size : Int) := by omega
      clear HN
      generalize s.drop f = p at *
      have HT := Lib.hid (TxAt.one wr p)
      have HS2 := Lib.hid (show splitC s = D ++ [p] by rw [HS.out, HE.out])
      have HOA := Lib.hid (HO.out.keep ((Below.refl wr.heap.size wr).alloc (Nat.le_refl _) (.cells #[.string (bs p)] 9)))
      have HBA := Lib.hid (HB.out.alloc HB.out.size (.cells #[.string (bs p)] 9))
      rw [← HEX.out] at HT HOA HBA
      clear HE HS HO HB
      go_wp2_with (at_builtin; refine wpList_append_tx rfl _ _ rfl w.heap.size _ D rfl HOA.out _ 1 1 [p] rfl HT.out (by omega) HBA.out.size ?_)
      intro v5 w5 o5 g5
      have HB5 := Lib.hid (TRow.bel HBA.out HBA.out.size HOA.out (Nat.le_refl _) g5)
      have HO5 := Lib.hid o5
      clear o5 g5 HOA HBA
      go_wp2
      go_ret
      rw [HS2.out]
      exact TRow.spl HO5.out HB5.out
end Go.Proofs.YtifjbbiphekmmaaGreatDoor
/-
  Contract of the document's Show.
-/
namespace Go.Proofs.YtifjbbiphekmmaaGreatDoor
open Go.RowKit Go.Lib
set_option linter.unusedVariables false
set_option linter.unusedSimpArgs false

theorem join_snoc : ∀ {l : List Tx} (v : Tx), l ≠ [] → joinC (l ++ [v]) = joinC l ++ 44 :: v
  | [x], v, _ => rfl
  | x :: y :: l, v, _ => by
    show x ++ 44 :: joinC (y :: l ++ [v]) = _
    rw [join_snoc (l := y :: l) v (by simp)]
    show _ = (x ++ 44 :: joinC (y :: l)) ++ 44 :: v
    simp
/-- A term's text up to its i-th value. -/
def partT (pre : Tx) (l : List Tx) (i : Nat) : Tx := if i = 0 then pre else pre ++ 40 :: joinC (l.take i)
theorem part_one {pre : Tx} {l : List Tx} (h : 0 < l.length) : partT pre l 1 = (pre ++ [40]) ++ l.getD 0 [] := by
  unfold partT
  rw [if_neg (by decide), getD_get h, List.take_succ_eq_append_getElem h]
  simp [joinC]
theorem part_more {pre : Tx} {l : List Tx} {i : Nat} (h : i < l.length) (h0 : i ≠ 0) : partT pre l (i + 1) = (partT pre l i ++ [44]) ++ l.getD i [] := by
  unfold partT
  rw [if_neg (by omega), if_neg h0, getD_get h, List.take_succ_eq_append_getElem h, join_snoc _ (by intro e; have := congrArg List.length e; rw [List.length_take] at this; simp at this; rcases this with k | k; exact h0 k; rw [k] at h; simp at h)]
  simp
theorem part_len {t : Trm} (h : rightT t) {pre : Tx} (hp : pre.length ≤ 66) (i : Nat) : (partT pre t.2.2 i).length ≤ 2000 := by
  unfold partT
  split
  · omega
  · have h1 := join_len_one (v := []) (K := 64) (l := t.2.2.take i) (fun x hx => (word_len (h.2.2 x (List.mem_of_mem_take hx))).2)
    have h2 := h.1
    have h3 : (t.2.2.take i).length ≤ 16 := by rw [List.length_take]; omega
    have h4 : (t.2.2.take i).length * (64 + 1) ≤ 16 * 65 := Nat.mul_le_mul h3 (Nat.le_refl _)
    simp; omega
theorem part_end {n : Tx} {b : Bool} {l : List Tx} (h : 1 < l.length) : partT (n ++ signT b) l l.length ++ [41] = textT (n, b, l) := by
  unfold partT textT listT
  rw [if_neg (by omega), if_pos h, List.take_of_length_le (Nat.le_refl _)]
  simp
theorem text_none {n : Tx} {b : Bool} {l : List Tx} (h : l.length = 0) : n ++ signT b = textT (n, b, l) := by
  have : l = [] := List.eq_nil_of_length_eq_zero h
  subst this
  unfold textT listT
  simp [joinC]
theorem text_one {n : Tx} {b : Bool} {l : List Tx} (h : l.length = 1) : (n ++ signT b) ++ l.getD 0 [] = textT (n, b, l) := by
  match l, h with
  | [v], _ => unfold textT listT; simp [joinC]
theorem sign_0 (nm : Tx) : bs nm ++ (⟨#[61]⟩ : ByteArray) = bs (nm ++ signT false) := by
  rw [show (⟨#[61]⟩ : ByteArray) = bs [61] from rfl, bs_app]; rfl
theorem sign_1 (nm : Tx) : bs nm ++ (⟨#[33, 61]⟩ : ByteArray) = bs (nm ++ signT true) := by
  rw [show (⟨#[33, 61]⟩ : ByteArray) = bs [33, 61] from rfl, bs_app]; rfl
theorem app_40 (a v : Tx) : bs a ++ (⟨#[40]⟩ : ByteArray) ++ bs v = bs ((a ++ [40]) ++ v) := by
  rw [show (⟨#[40]⟩ : ByteArray) = bs [40] from rfl, bs_app, bs_app]
theorem app_44 (a v : Tx) : bs a ++ (⟨#[44]⟩ : ByteArray) ++ bs v = bs ((a ++ [44]) ++ v) := by
  rw [show (⟨#[44]⟩ : ByteArray) = bs [44] from rfl, bs_app, bs_app]
theorem app_41 (a : Tx) : bs a ++ (⟨#[41]⟩ : ByteArray) = bs (a ++ [41]) := by
  rw [show (⟨#[41]⟩ : ByteArray) = bs [41] from rfl, bs_app]
theorem rright10_x (nm : Tx) (ng : Bool) (ad : Option Addr) (n c : Nat) (vs : List Tx) (W : World) (h : TxAt W ad n c vs) (h1 : nm.length ≤ 1000000) (h2 : ∀ v ∈ vs, v.length ≤ 1000000) (h3 : n ≤ 1000000) :
    Calls Tryz.prog 15 #[.agg #[.string (bs nm), .bool ng, .slice ad n c]] W fun r w' => r = .returned (.bool (decide (rightT (nm, ng, vs)))) ∧ Below W.heap.size W w' := rright10_any ⟨nm, ng, ad, n, c, vs⟩ W h h1 h2 h3

set_option maxHeartbeats 4000000 in
theorem rshow10_any (e : TmT) (w : World) (h : TmOk w e) (h1 : e.name.length ≤ 1000000) (h2 : ∀ v ∈ e.l, v.length ≤ 1000000) (h3 : e.n ≤ 1000000) :
    Calls Tryz.prog 12 #[tmV e] w fun r w' => r = .returned (.string (bs (showT e.trm))) ∧ Below w.heap.size w w' := by
  obtain ⟨nm, ng, a, n, c, l⟩ := e
  have HS := Lib.hid (show TxAt w a n c l from h)
  have hlen : l.length = n := h.1
  have h63 := h.2.2.1
  clear h
  unfold tmV
  have X0 := Lib.hid (BoxT.new 30 w ⟨nm, ng, a, n, c, l⟩)
  have B0 := Lib.hid ((Below.refl w.heap.size w).alloc (Nat.le_refl _) (.cells #[.string (bs nm), .bool ng, .slice a n c] 30))
  have HS0 := Lib.hid (HS.out.keep B0.out)
  simp only at X0 h63 h1 h2 h3 ⊢
  have HR := Lib.hid (rright10_x nm ng a n c l _ HS0.out h1 h2 h3)
  show Calls _ _ _ _ fun r w' => r = .returned (.string (bs (showT (nm, ng, l)))) ∧ Below w.heap.size w w'
  by_cases hr : rightT (nm, ng, l)
  · rw [decide_eq_true hr] at HR
    have HN := Lib.hid (show_right hr)
    have hn16 : n ≤ 16 := by have := hr.1; simp only at this; omega
    have hsn : (bs nm).size ≤ 64 := by rw [bs_size]; exact (word_len hr.2.1).2
    have HPL := Lib.hid (fun pre (hp : pre.length ≤ 66) i => part_len hr (pre := pre) hp i)
    have HVL := Lib.hid (fun i (hi : i < l.length) => (word_len (hr.2.2 _ (getD_in hi))).2)
    have HLEN := Lib.hid hlen
    have HPRE := Lib.hid (show (nm ++ signT ng).length ≤ 66 by have h64 : nm.length ≤ 64 := (word_len hr.2.1).2; rw [List.length_append]; cases ng <;> simp [signT] <;> omega)
    clear hr hlen HS h1 h2 h3
    have g1 : ¬ 9223372036854775807 < (bs nm).size + 1 := by omega
    have g2 : ¬ 9223372036854775807 < (bs nm).size + 2 := by omega
    cases ng
    · go_enter Tryz.func12, Tryz.ntmps12
      go_wp2_with fail
      generalize w.alloc (.cells #[.string (bs nm), .bool false, .slice a n c] 30) = W0 at *
      refine HR.out.mono ?_
      rintro e w1 ⟨rfl, hb⟩
      have X1 := Lib.hid (X0.out.keep hb)
      have B1 := Lib.hid (B0.out.trans (hb.mono B0.out.size))
      have HS1 := Lib.hid (HS0.out.keep hb)
      clear X0 B0 HS0 hb HR
      have x0 := X1.out.x0
      have x1 := X1.out.x1
      have x2 := X1.out.x2
      simp only at x0 x1 x2
      by_cases k0 : n = 0
      · have z0 : ((n : Int) == 0) = true := beq_iff_eq.2 (by omega)
        have HTX := Lib.hid (fun b => text_none (n := nm) (b := b) (l := l) (by rw [HLEN.out]; exact k0))
        clear k0
        go_wp2
        go_ret
        refine ⟨?_, B1.out⟩
        rw [HN.out, ← HTX.out]
        first
          | exact congrArg (fun x => Ending.returned (.string x)) (sign_0 nm)
          | exact congrArg (fun x => Ending.returned (.string x)) (sign_1 nm)
      · have z0 : ((n : Int) == 0) = false := beq_eq_false_iff_ne.2 (by omega)
        by_cases k1 : n = 1
        · have z1 : ((n : Int) == 1) = true := beq_iff_eq.2 (by omega)
          have HTX := Lib.hid (fun b => text_one (n := nm) (b := b) (l := l) (by rw [HLEN.out]; exact k1))
          obtain ⟨p, o, rfl, hp, y0⟩ := HS1.out.at_ 0 (by omega)
          have hv := HVL.out 0 (by rw [HLEN.out]; omega)
          have hv2 : (bs (l.getD 0 [])).size ≤ 64 := by rw [bs_size]; exact hv
          have hn0 : (0 : Int) < (n : Int) := by omega
          rw [Nat.add_zero] at y0
          generalize l.getD 0 [] = v at *
          have g3 : ¬ 9223372036854775807 < (bs nm).size + 1 + (bs v).size := by omega
          have g4 : ¬ 9223372036854775807 < (bs nm).size + 2 + (bs v).size := by omega
          clear k0 k1 hv
          go_wp2
          go_ret
          refine ⟨?_, B1.out⟩
          rw [HN.out, ← HTX.out]
          first
            | exact congrArg (fun x => Ending.returned (.string x)) ((congrArg (fun x => x ++ bs v) (sign_0 nm)).trans (bs_app _ _))
            | exact congrArg (fun x => Ending.returned (.string x)) ((congrArg (fun x => x ++ bs v) (sign_1 nm)).trans (bs_app _ _))
        · have z1 : ((n : Int) == 1) = false := beq_eq_false_iff_ne.2 (by omega)
          have HTX := Lib.hid (fun b => part_end (n := nm) (b := b) (l := l) (by rw [HLEN.out]; omega))
          go_wp2_with fail
          go_loopw [3, 5] (fun sv i wr => ∃ j : Nat, j ≤ n ∧ i = .int .i64 (j : Int) ∧ sv = .string (bs (partT (nm ++ signT false) l j)) ∧ w1 = wr) (fun _ i _ => n - (intOf i).toNat)
          case atStart =>
            refine ⟨0, by omega, rfl, ?_, rfl⟩
            first
              | exact congrArg Value.string (sign_0 nm)
              | exact congrArg Value.string (sign_1 nm)
          case round =>
            obtain ⟨j, hj, rfl, rfl, rfl⟩ := hrel
            obtain ⟨pre, hpre⟩ : ∃ pre, nm ++ signT false = pre := ⟨_, rfl⟩
            rw [hpre] at HPRE
            have HTX := Lib.hid (HTX.out false)
            rw [hpre] at HTX ⊢
            have HPR := Lib.hid hpre
            clear hpre
            have hpl := HPL.out _ HPRE.out j
            have hps : (bs (partT pre l j)).size ≤ 2000 := by rw [bs_size]; exact hpl
            by_cases hjn : j < n
            · obtain ⟨p, o, rfl, hp, y0⟩ := HS1.out.at_ j hjn
              have hv := HVL.out j (by rw [HLEN.out]; exact hjn)
              have hv2 : (bs (l.getD j [])).size ≤ 64 := by rw [bs_size]; exact hv
              by_cases hj0 : j = 0
              · have HP := Lib.hid (show partT pre l (j + 1) = (partT pre l j ++ [40]) ++ l.getD j [] by subst hj0; exact part_one (by rw [HLEN.out]; exact hjn))
                have HQ := Lib.hid ((app_40 (partT pre l j) (l.getD j [])).trans (congrArg bs HP.out.symm))
                have z2 : ((j : Int) == 0) = true := beq_iff_eq.2 (by omega)
                generalize l.getD j [] = v at *
                generalize partT pre l j = P at *
                have g5 : ¬ 9223372036854775807 < (bs P).size + 1 := by omega
                have g6 : ¬ 9223372036854775807 < (bs P).size + 1 + (bs v).size := by omega
                clear hj0 HP hv hpl
                go_wp2
                go_roundw
                case rel => exact ⟨j + 1, by omega, by go_num, by exact congrArg Value.string HQ.out, trivial⟩
                case measure => simp [intOf]; omega
              · have HP := Lib.hid (show partT pre l (j + 1) = (partT pre l j ++ [44]) ++ l.getD j [] from part_more (by rw [HLEN.out]; exact hjn) hj0)
                have HQ := Lib.hid ((app_44 (partT pre l j) (l.getD j [])).trans (congrArg bs HP.out.symm))
                have z2 : ((j : Int) == 0) = false := beq_eq_false_iff_ne.2 (by omega)
                generalize l.getD j [] = v at *
                generalize partT pre l j = P at *
                have g5 : ¬ 9223372036854775807 < (bs P).size + 1 := by omega
                have g6 : ¬ 9223372036854775807 < (bs P).size + 1 + (bs v).size := by omega
                clear hj0 HP hv hpl
                go_wp2
                go_roundw
                case rel => exact ⟨j + 1, by omega, by go_num, by exact congrArg Value.string HQ.out, trivial⟩
                case measure => simp [intOf]; omega
            · obtain rfl : j = n := by omega
              have HE := Lib.hid ((app_41 (partT pre l j)).trans (congrArg bs (show partT pre l j ++ [41] = textT (nm, false, l) by rw [← HTX.out, HLEN.out])))
              generalize partT pre l j = P at *
              have g5 : ¬ 9223372036854775807 < (bs P).size + 1 := by omega
              go_wp2
              go_ret
              refine ⟨?_, B1.out⟩
              rw [HN.out]
              exact congrArg (fun x => Ending.returned (.string x)) HE.out
    · go_enter Tryz.func12, Tryz.ntmps12
      go_wp2_with fail
      generalize w.alloc (.cells #[.string (bs nm), .bool true, .slice a n c] 30) = W0 at *
      refine HR.out.mono ?_
      rintro e w1 ⟨rfl, hb⟩
      have X1 := Lib.hid (X0.out.keep hb)
      have B1 := Lib.hid (B0.out.trans (hb.mono B0.out.size))
      have HS1 := Lib.hid (HS0.out.keep hb)
      clear X0 B0 HS0 hb HR
      have x0 := X1.out.x0
      have x1 := X1.out.x1
      have x2 := X1.out.x2
      simp only at x0 x1 x2
      by_cases k0 : n = 0
      · have z0 : ((n : Int) == 0) = true := beq_iff_eq.2 (by omega)
        have HTX := Lib.hid (fun b => text_none (n := nm) (b := b) (l := l) (by rw [HLEN.out]; exact k0))
        clear k0
        go_wp2
        go_ret
        refine ⟨?_, B1.out⟩
        rw [HN.out, ← HTX.out]
        first
          | exact congrArg (fun x => Ending.returned (.string x)) (sign_0 nm)
          | exact congrArg (fun x => Ending.returned (.string x)) (sign_1 nm)
      · have z0 : ((n : Int) == 0) = false := beq_eq_false_iff_ne.2 (by omega)
        by_cases k1 : n = 1
        · have z1 : ((n : Int) == 1) = true := beq_iff_eq.2 (by omega)
          have HTX := Lib.hid (fun b => text_one (n := nm) (b := b) (l := l) (by rw [HLEN.out]; exact k1))
          obtain ⟨p, o, rfl, hp, y0⟩ := HS1.out.at_ 0 (by omega)
          have hv := HVL.out 0 (by rw [HLEN.out]; omega)
          have hv2 : (bs (l.getD 0 [])).size ≤ 64 := by rw [bs_size]; exact hv
          have hn0 : (0 : Int) < (n : Int) := by omega
          rw [Nat.add_zero] at y0
          generalize l.getD 0 [] = v at *
          have g3 : ¬ 9223372036854775807 < (bs nm).size + 1 + (bs v).size := by omega
          have g4 : ¬ 9223372036854775807 < (bs nm).size + 2 + (bs v).size := by omega
          clear k0 k1 hv
          go_wp2
          go_ret
          refine ⟨?_, B1.out⟩
          rw [HN.out, ← HTX.out]
          first
            | exact congrArg (fun x => Ending.returned (.string x)) ((congrArg (fun x => x ++ bs v) (sign_0 nm)).trans (bs_app _ _))
            | exact congrArg (fun x => Ending.returned (.string x)) ((congrArg (fun x => x ++ bs v) (sign_1 nm)).trans (bs_app _ _))
        · have z1 : ((n : Int) == 1) = false := beq_eq_false_iff_ne.2 (by omega)
          have HTX := Lib.hid (fun b => part_end (n := nm) (b := b) (l := l) (by rw [HLEN.out]; omega))
          go_wp2_with fail
          go_loopw [3, 5] (fun sv i wr => ∃ j : Nat, j ≤ n ∧ i = .int .i64 (j : Int) ∧ sv = .string (bs (partT (nm ++ signT true) l j)) ∧ w1 = wr) (fun _ i _ => n - (intOf i).toNat)
          case atStart =>
            refine ⟨0, by omega, rfl, ?_, rfl⟩
            first
              | exact congrArg Value.string (sign_0 nm)
              | exact congrArg Value.string (sign_1 nm)
          case round =>
            obtain ⟨j, hj, rfl, rfl, rfl⟩ := hrel
            obtain ⟨pre, hpre⟩ : ∃ pre, nm ++ signT true = pre := ⟨_, rfl⟩
            rw [hpre] at HPRE
            have HTX := Lib.hid (HTX.out true)
            rw [hpre] at HTX ⊢
            have HPR := Lib.hid hpre
            clear hpre
            have hpl := HPL.out _ HPRE.out j
            have hps : (bs (partT pre l j)).size ≤ 2000 := by rw [bs_size]; exact hpl
            by_cases hjn : j < n
            · obtain ⟨p, o, rfl, hp, y0⟩ := HS1.out.at_ j hjn
              have hv := HVL.out j (by rw [HLEN.out]; exact hjn)
              have hv2 : (bs (l.getD j [])).size ≤ 64 := by rw [bs_size]; exact hv
              by_cases hj0 : j = 0
              · have HP := Lib.hid (show partT pre l (j + 1) = (partT pre l j ++ [40]) ++ l.getD j [] by subst hj0; exact part_one (by rw [HLEN.out]; exact hjn))
                have HQ := Lib.hid ((app_40 (partT pre l j) (l.getD j [])).trans (congrArg bs HP.out.symm))
                have z2 : ((j : Int) == 0) = true := beq_iff_eq.2 (by omega)
                generalize l.getD j [] = v at *
                generalize partT pre l j = P at *
                have g5 : ¬ 9223372036854775807 < (bs P).size + 1 := by omega
                have g6 : ¬ 9223372036854775807 < (bs P).size + 1 + (bs v).size := by omega
                clear hj0 HP hv hpl
                go_wp2
                go_roundw
                case rel => exact ⟨j + 1, by omega, by go_num, by exact congrArg Value.string HQ.out, trivial⟩
                case measure => simp [intOf]; omega
              · have HP := Lib.hid (show partT pre l (j + 1) = (partT pre l j ++ [44]) ++ l.getD j [] from part_more (by rw [HLEN.out]; exact hjn) hj0)
                have HQ := Lib.hid ((app_44 (partT pre l j) (l.getD j [])).trans (congrArg bs HP.out.symm))
                have z2 : ((j : Int) == 0) = false := beq_eq_false_iff_ne.2 (by omega)
                generalize l.getD j [] = v at *
                generalize partT pre l j = P at *
                have g5 : ¬ 9223372036854775807 < (bs P).size + 1 := by omega
                have g6 : ¬ 9223372036854775807 < (bs P).size + 1 + (bs v).size := by omega
                clear hj0 HP hv hpl
                go_wp2
                go_roundw
                case rel => exact ⟨j + 1, by omega, by go_num, by exact congrArg Value.string HQ.out, trivial⟩
                case measure => simp [intOf]; omega
            · obtain rfl : j = n := by omega
              have HE := Lib.hid ((app_41 (partT pre l j)).trans (congrArg bs (show partT pre l j ++ [41] = textT (nm, true, l) by rw [← HTX.out, HLEN.out])))
              generalize partT pre l j = P at *
              have g5 : ¬ 9223372036854775807 < (bs P).size + 1 := by omega
              go_wp2
              go_ret
              refine ⟨?_, B1.out⟩
              rw [HN.out]
              exact congrArg (fun x => Ending.returned (.string x)) HE.out
  · rw [decide_eq_false hr] at HR
    have HN := Lib.hid (show showT (nm, ng, l) = [] from if_neg hr)
    clear hr hlen HS
    go_enter Tryz.func12, Tryz.ntmps12
    go_wp2_with fail
    refine HR.out.mono ?_
    rintro e w1 ⟨rfl, hb⟩
    have B1 := Lib.hid (B0.out.trans (hb.mono B0.out.size))
    go_wp2
    go_ret
    exact ⟨by rw [HN.out]; rfl, B1.out⟩
end Go.Proofs.YtifjbbiphekmmaaGreatDoor
/-
  Contract of the document's Parse.
-/
namespace Go.Proofs.YtifjbbiphekmmaaGreatDoor
open Go.RowKit Go.Lib
set_option linter.unusedVariables false
set_option linter.unusedSimpArgs false

theorem cut_take {c : UInt8} {s : Tx} {k : Nat} (h : k < s.length) (hn : ∀ b ∈ s.take k, b ≠ c) (e : s[k]'h = c) : cutAt c s = some (s.take k, s.drop (k + 1)) := by
  have h1 : s = s.take k ++ c :: s.drop (k + 1) := by
    conv => lhs; rw [← List.take_append_drop k s, List.drop_eq_getElem_cons h, e]
  conv => lhs; rw [h1]
  exact cut_app (fun hm => hn c hm rfl) _
theorem cut_no {c : UInt8} {s : Tx} (hn : ∀ b ∈ s.take s.length, b ≠ c) : cutAt c s = none := by
  rw [List.take_of_length_le (Nat.le_refl _)] at hn
  exact cut_none.2 (fun hm => hn c hm rfl)
theorem byteB (c : UInt8) (x : UInt8) : ((x.toNat : Int) == (c.toNat : Int)) = decide (x = c) := by
  by_cases h : x = c
  · rw [decide_eq_true h, h]; exact beq_self_eq_true _
  · rw [decide_eq_false h]
    exact beq_eq_false_iff_ne.2 fun e => h (UInt8.toNat_inj.1 (by omega))
theorem take_next {c : UInt8} {s : Tx} {k : Nat} (h : k < s.length) (hn : ∀ b ∈ s.take k, b ≠ c) (e : s[k]'h ≠ c) : ∀ b ∈ s.take (k + 1), b ≠ c := by
  rw [List.take_succ_eq_append_getElem h]
  intro b hb
  rcases List.mem_append.1 hb with hb | hb
  · exact hn b hb
  · rw [List.mem_singleton] at hb; rw [hb]; exact e

theorem bs_head (r : Tx) (h : 0 < (bs r).size) : r.head? = some ((bs r)[0]'h) := by
  have h2 : 0 < r.length := by rw [bs_size] at h; exact h
  rw [bs_at r 0 h h2, List.head?_eq_getElem?, List.getElem?_eq_getElem h2]
theorem bs_last (r : Tx) (h : (bs r).size - 1 < (bs r).size) : r.getLast? = some ((bs r)[(bs r).size - 1]'h) := by
  have h2 : (bs r).size - 1 < r.length := by rw [← bs_size r]; exact h
  rw [bs_at r _ h h2, List.getLast?_eq_getElem?]
  simp only [bs_size]
  rw [List.getElem?_eq_getElem (by rw [bs_size] at h2; exact h2)]
theorem vals_word {n : Tx} {b : Bool} {r : Tx} (h : 40 ∈ r) : ¬ rightT (n, b, [r]) := fun k => word_not (k.2.2 r (by simp)) (c := 40) (by decide) h
theorem rest_cases (r : Tx) : r = [] ∨ (∃ (h0 : 0 < (bs r).size) (c0 : UInt8), (bs r)[0]'h0 = c0 ∧ c0 ≠ 40 ∧ valsT r = [r]) ∨
    (∃ (h0 : 0 < (bs r).size) (h1 : (bs r).size - 1 < (bs r).size) (c1 : UInt8), (bs r)[0]'h0 = 40 ∧ (bs r)[(bs r).size - 1]'h1 = c1 ∧ c1 ≠ 41 ∧ valsT r = [r] ∧ 40 ∈ r) ∨
    (∃ (h0 : 0 < (bs r).size) (h1 : (bs r).size - 1 < (bs r).size), (bs r)[0]'h0 = 40 ∧ (bs r)[(bs r).size - 1]'h1 = 41 ∧ 2 ≤ r.length ∧ valsT r = splitC (r.drop 1).dropLast) := by
  by_cases hr : r = []
  · exact .inl hr
  · right
    have hp : 0 < r.length := List.length_pos_iff.2 hr
    have h0 : 0 < (bs r).size := by rw [bs_size]; exact hp
    have h1 : (bs r).size - 1 < (bs r).size := by omega
    have eh := bs_head r h0
    have el := bs_last r h1
    by_cases h40 : (bs r)[0]'h0 = 40
    · rw [h40] at eh
      right
      by_cases h41 : (bs r)[(bs r).size - 1]'h1 = 41
      · right
        rw [h41] at el
        have h2 : 2 ≤ r.length := by
          cases r with
          | nil => simp at hp
          | cons x l =>
            cases l with
            | nil => simp at eh el; rw [eh] at el; exact absurd el (by decide)
            | cons y l => simp
        exact ⟨h0, h1, h40, h41, h2, by unfold valsT; rw [if_neg hr, if_pos ⟨eh, el, h2⟩]⟩
      · left
        refine ⟨h0, h1, _, h40, rfl, h41, ?_, List.mem_of_head? eh⟩
        unfold valsT
        rw [if_neg hr, if_neg]
        rintro ⟨_, e2, _⟩
        rw [el] at e2
        exact h41 (Option.some.inj e2)
    · left
      refine ⟨h0, _, rfl, h40, ?_⟩
      unfold valsT
      rw [if_neg hr, if_neg]
      rintro ⟨e1, _, _⟩
      rw [eh] at e1
      exact h40 (Option.some.inj e1)
theorem par_ofT {s a r nm : Tx} {ng : Bool} {vs : List Tx} {ad : Option Addr} {n c : Nat} {b : Bool} (h : cutAt 61 s = some (a, r)) (hn : nameT a = (nm, ng)) (hv : valsT r = vs) (e : decide (rightT (nm, ng, vs)) = b) :
    (b = true → ParS s ⟨nm, ng, ad, n, c, vs⟩ 0) ∧ (b = false → ParS s zTm 4) := by
  have hr : rawT a r = (nm, ng, vs) := by unfold rawT; rw [hn, hv]
  constructor
  · intro hb
    have hw : rightT (nm, ng, vs) := of_decide_eq_true (e.trans hb)
    refine .inl ⟨?_, rfl⟩
    unfold parseT; rw [h]
    show (if rightT (rawT a r) then some (rawT a r) else none) = _
    rw [hr, if_pos hw]; rfl
  · intro hb
    have hw : ¬ rightT (nm, ng, vs) := of_decide_eq_false (e.trans hb)
    refine .inr ⟨?_, rfl, rfl⟩
    unfold parseT; rw [h]
    show (if rightT (rawT a r) then some (rawT a r) else none) = none
    rw [hr, if_neg hw]
theorem par_zero {s r : Tx} (h : cutAt 61 s = some ([], r)) : ParS s zTm 4 := by
  refine (par_ofT (nm := []) (ng := false) (ad := none) (n := 0) (c := 0) (b := false) h rfl rfl (decide_eq_false fun k => ?_)).2 rfl
  have := (word_len k.2.1).1
  simp at this
theorem name_1 {s : Tx} {k : Nat} (hk : k ≤ s.length) (h0 : k ≠ 0) (h : k - 1 < (bs s).size) (e : (bs s)[k - 1]'h = 33) : nameT (s.take k) = ((s.take k).dropLast, true) := by
  unfold nameT
  rw [if_pos]
  have h2 : k - 1 < s.length := by rw [bs_size] at h; exact h
  rw [bs_at s _ h h2] at e
  rw [List.getLast?_eq_getElem?, List.length_take, Nat.min_eq_left hk, List.getElem?_take, if_pos (by omega), List.getElem?_eq_getElem h2, e]
theorem name_0 {s : Tx} {k : Nat} (hk : k ≤ s.length) (h0 : k ≠ 0) (h : k - 1 < (bs s).size) (e : (bs s)[k - 1]'h ≠ 33) : nameT (s.take k) = (s.take k, false) := by
  unfold nameT
  rw [if_neg]
  have h2 : k - 1 < s.length := by rw [bs_size] at h; exact h
  rw [bs_at s _ h h2] at e
  rw [List.getLast?_eq_getElem?, List.length_take, Nat.min_eq_left hk, List.getElem?_take, if_pos (by omega), List.getElem?_eq_getElem h2]
  exact fun k => e (Option.some.inj k)
theorem ext_1 {s : Tx} {k : Nat} (hk : k ≤ s.length) : (bs s).extract 0 (k - 1) = bs (s.take k).dropLast := by
  rw [bs_ext, List.drop_zero, Nat.sub_zero, List.dropLast_eq_take, List.length_take, Nat.min_eq_left hk, List.take_take, Nat.min_eq_left (by omega)]
theorem ext_0 {s : Tx} {k : Nat} : (bs s).extract 0 k = bs (s.take k) := by rw [bs_ext, List.drop_zero, Nat.sub_zero]
theorem ext_r {s : Tx} {k : Nat} : (bs s).extract (k + 1) (bs s).size = bs (s.drop (k + 1)) := by rw [bs_ext, bs_size, List.take_of_length_le (by simp)]
theorem ext_in {r : Tx} : (bs r).extract 1 ((bs r).size - 1) = bs (r.drop 1).dropLast := by
  rw [bs_ext, bs_size, List.dropLast_eq_take]; simp

theorem splitC_short : ∀ (s : Tx), ∀ v ∈ splitC s, v.length ≤ s.length
  | [], v, h => by simp [splitC] at h; rw [h]; exact Nat.le_refl _
  | x :: l, v, h => by
    unfold splitC at h
    split at h
    · rcases List.mem_cons.1 h with rfl | h
      · simp
      · have := splitC_short l v h; simp; omega
    · split at h
      · simp at h; rw [h]; simp
      · rename_i p q hq
        rcases List.mem_cons.1 h with rfl | h
        · have := splitC_short l p (by rw [hq]; simp); simp; omega
        · have := splitC_short l v (by rw [hq]; simp [h]); simp; omega
def RarP (w : World) (s : Tx) (e : Ending) (w' : World) : Prop := ∃ (tm : TmT) (er : Int), e = .returned (.tuple #[tmV tm, .int .i64 er]) ∧ TmOk w' tm ∧ Below w.heap.size w w' ∧ TyA w' tm.a ∧ ParS s tm er

set_option maxRecDepth 100000 in
set_option maxHeartbeats 8000000 in
theorem rparse10_any (s : Tx) (w : World) (hs : s.length ≤ 1000) : Calls Tryz.prog 23 #[.string (bs s)] w (RarP w s) := by
  have hsz := bs_size s
  have HZ := Lib.hid hsz
  clear hsz
  have X0 := Lib.hid (heap_new w (.cells #[.string ⟨#[]⟩, .bool false, .slice none 0 0] 30))
  have B0 := Lib.hid ((Below.refl w.heap.size w).alloc (Nat.le_refl _) (.cells #[.string ⟨#[]⟩, .bool false, .slice none 0 0] 30))
  go_enter Tryz.func23, Tryz.ntmps23
  go_wp2_with fail
  generalize w.alloc (.cells #[.string ⟨#[]⟩, .bool false, .slice none 0 0] 30) = W0 at *
  obtain ⟨x, hx⟩ : ∃ x, w.heap.size = x := ⟨_, rfl⟩
  rw [hx] at X0 B0 ⊢
  have HXE := Lib.hid hx
  clear hx
  go_loopw [4] (fun i wr => ∃ k : Nat, k ≤ s.length ∧ i = .int .i64 (k : Int) ∧ Hid (∀ b ∈ s.take k, b ≠ 61) ∧ W0 = wr) (fun i _ => s.length - (intOf i).toNat)
  case atStart => exact ⟨0, by omega, rfl, Lib.hid (by simp), rfl⟩
  case round =>
    obtain ⟨k, hk, rfl, HN, rfl⟩ := hrel
    by_cases hkn : k < s.length
    · have hks : k < (bs s).size := by rw [HZ.out]; omega
      have HC := Lib.hid (bs_at s k hks hkn)
      obtain ⟨c, hc⟩ : ∃ c : UInt8, (bs s)[k]'hks = c := ⟨_, rfl⟩
      rw [hc] at HC
      have hlt : decide ((k : Int) < ((bs s).size : Int)) = true := decide_eq_true (by omega)
      by_cases h61 : c = 61
      · have hb : ((c.toNat : Int) == 61) = true := by rw [h61]; rfl
        have HCU := Lib.hid (cut_take hkn HN.out (by rw [← HC.out]; exact h61))
        have hne : ((k : Int) == ((bs s).size : Int)) = false := beq_eq_false_iff_ne.2 (by omega)
        clear h61 HN HC
        by_cases h0 : k = 0
        · have hz0 : ((k : Int) == 0) = true := beq_iff_eq.2 (by omega)
          have HF := Lib.hid (par_zero (show cutAt 61 s = some ([], s.drop (k + 1)) by rw [HCU.out, h0]; rfl))
          clear h0 HCU
          have f0 := frozen_of (o := 0) X0.out
          have f1 := frozen_of (o := 1) X0.out
          have f2 := frozen_of (o := 2) X0.out
          have c0 : W0.cell? ⟨x, 0, none⟩ = some (.string ⟨#[]⟩) := by rw [cell_of X0.out]; rfl
          have c1 : W0.cell? ⟨x, 1, none⟩ = some (.bool false) := by rw [cell_of X0.out]; rfl
          have c2 : W0.cell? ⟨x, 2, none⟩ = some (.slice none 0 0) := by rw [cell_of X0.out]; rfl
          go_wp2
          refine bodyPost_ret (results_cell_pair rfl _ _ x _ _ _ _ (.int .i64 4) rfl rfl (heap_set (heap_set (heap_set X0.out))) Tryz.underlying30 rfl (by kernel_rfl)) rfl ?_
          exact ⟨zTm, 4, rfl, zTm_ok _, by rw [HXE.out]; exact (((B0.out.setCell (p := ⟨x, 0, none⟩) (Nat.le_refl _) _).setCell (p := ⟨x, 1, none⟩) (Nat.le_refl _) _).setCell (p := ⟨x, 2, none⟩) (Nat.le_refl _) _), TyA.noA _, HF.out⟩
        · have hz0 : ((k : Int) == 0) = false := beq_eq_false_iff_ne.2 (by omega)
          have hk1 : k - 1 < (bs s).size := by omega
          have hkk : (1 : Int) ≤ (k : Int) := by omega
          have hkm : (k : Int) - 1 < ((bs s).size : Int) := by omega
          obtain ⟨c1, hc1⟩ : ∃ c1 : UInt8, (bs s)[k - 1]'hk1 = c1 := ⟨_, rfl⟩
          by_cases h33 : c1 = 33
          · have hb1 : ((c1.toNat : Int) == 33) = true := by rw [h33]; rfl
            go_upto_region 10 with fail
            obtain ⟨nm, hnm⟩ : ∃ nm, (s.take k).dropLast = nm := ⟨_, rfl⟩
            have hE : (bs s).extract 0 (k - 1) = bs nm := by rw [← hnm]; exact ext_1 hk
            have HNM := Lib.hid (show nameT (s.take k) = (nm, true) by rw [← hnm]; exact name_1 hk h0 hk1 (hc1.trans h33))
            have hnl : nm.length ≤ 1000 := by rw [← hnm]; simp; omega
            clear hnm
            rw [hE]
            clear hE
            have HY := Lib.hid (heap_new W0 (.cells #[.string (bs nm), .bool true, .slice none 0 0] 30))
            have HX1 := Lib.hid (heap_old (o := .cells #[.string (bs nm), .bool true, .slice none 0 0] 30) X0.out)
            have B1 := Lib.hid (B0.out.alloc (by have := heap_lt X0.out; omega) (.cells #[.string (bs nm), .bool true, .slice none 0 0] 30))
            have hxy : x < W0.heap.size := heap_lt X0.out
            generalize W0.alloc (.cells #[.string (bs nm), .bool true, .slice none 0 0] 30) = W1 at *
            generalize W0.heap.size = y at *
            obtain ⟨r, hr⟩ : ∃ r, s.drop (k + 1) = r := ⟨_, rfl⟩
            have hex : (bs s).extract (k + 1) (bs s).size = bs r := by rw [← hr]; exact ext_r
            rw [hr] at HCU
            have hrl : r.length ≤ 1000 := by rw [← hr]; simp; omega
            have hrs : (bs r).size ≤ 1000 := by rw [bs_size]; exact hrl
            have hk3 : (k : Int) + 1 ≤ ((bs s).size : Int) := by omega
            have hk4 : (0 : Int) ≤ (k : Int) + 1 := by omega
            clear hr
            rcases rest_cases r with hr0 | ⟨q0, b0, e0, n0, hv⟩ | ⟨q0, q1, b1, e0, e1, n1, hv, hm⟩ | ⟨q0, q1, e0, e1, h2, hv⟩
            · have hrz : (bs r).size = 0 := by rw [hr0]; rfl
              have z0 : decide ((0 : Int) < ((bs r).size : Int)) = false := by rw [hrz]; rfl
              have z0n : ¬ 0 < (bs r).size := by omega
              have HP := Lib.hid (fun b (e : decide (rightT (nm, true, [])) = b) => par_ofT (ad := none) (n := 0) (c := 0) HCU.out HNM.out (show valsT r = [] by rw [hr0]; rfl) e)
              clear hr0 hrz
              go_upto_region 18 with fail
              have HYV := HY
              have HXV := HX1
              have BV := B1
              have TV := Lib.hid (TxAt.nil W1 none 0)
              have YV := Lib.hid (TyA.noA W1)
              have HNE := Lib.hid (show ∀ ad : Addr, (none : Option Addr) = some ad → ad.block ≠ x from fun ad e => by cases e)
              have HVL := Lib.hid (show ∀ v ∈ ([] : List Tx), v.length ≤ 1000000 from fun v h => by simp at h)
              have HVN := Lib.hid (show 0 ≤ 1000000 by omega)
              generalize W1 = WV at *
              have HRR := Lib.hid (rright10_x nm true none 0 0 [] WV TV.out (by omega) HVL.out HVN.out)
              obtain ⟨b, hb⟩ : ∃ b, decide (rightT (nm, true, [])) = b := ⟨_, rfl⟩
              have HPB := Lib.hid (HP.out b hb)
              rw [hb] at HRR
              clear hb HP HVL HVN
              have y0 : WV.cell? ⟨y, 0, none⟩ = some (.string (bs nm)) := by rw [cell_of HYV.out]; rfl
              have y1 : WV.cell? ⟨y, 1, none⟩ = some (.bool true) := by rw [cell_of HYV.out]; rfl
              have y2 : WV.cell? ⟨y, 2, none⟩ = some (.slice none 0 0) := by rw [cell_of HYV.out]; rfl
              cases b
              · have HF := Lib.hid (HPB.out.2 rfl)
                go_wp2_with fail
                refine HRR.out.mono ?_
                rintro e w4 ⟨rfl, b4⟩
                have HX4 := Lib.hid ((b4.block _ (heap_lt HXV.out)).trans HXV.out)
                have B4 := Lib.hid (BV.out.trans (b4.mono (by have := BV.out.size; have := HXE.out; omega)))
                clear HXV BV HRR HPB TV YV b4 y0 y1 y2
                have f0 := frozen_of (o := 0) HX4.out
                have f1 := frozen_of (o := 1) HX4.out
                have f2 := frozen_of (o := 2) HX4.out
                have c0 : w4.cell? ⟨x, 0, none⟩ = some (.string ⟨#[]⟩) := by rw [cell_of HX4.out]; rfl
                have c1 : w4.cell? ⟨x, 1, none⟩ = some (.bool false) := by rw [cell_of HX4.out]; rfl
                have c2 : w4.cell? ⟨x, 2, none⟩ = some (.slice none 0 0) := by rw [cell_of HX4.out]; rfl
                go_wp2
                refine bodyPost_ret (results_cell_pair rfl _ _ x _ _ _ _ (.int .i64 4) rfl rfl (heap_set (heap_set (heap_set HX4.out))) Tryz.underlying30 rfl (by kernel_rfl)) rfl ?_
                exact ⟨zTm, 4, rfl, zTm_ok _, by rw [HXE.out]; exact (((B4.out.setCell (p := ⟨x, 0, none⟩) (Nat.le_refl _) _).setCell (p := ⟨x, 1, none⟩) (Nat.le_refl _) _).setCell (p := ⟨x, 2, none⟩) (Nat.le_refl _) _), TyA.noA _, HF.out⟩
              · have HF := Lib.hid (HPB.out.1 rfl)
                go_wp2_with fail
                refine HRR.out.mono ?_
                rintro e w4 ⟨rfl, b4⟩
                have HX4 := Lib.hid ((b4.block _ (heap_lt HXV.out)).trans HXV.out)
                have B4 := Lib.hid (BV.out.trans (b4.mono (by have := BV.out.size; have := HXE.out; omega)))
                have HY4 := Lib.hid ((b4.block _ (heap_lt HYV.out)).trans HYV.out)
                have T4 := Lib.hid (TV.out.keep b4)
                have YA4 := Lib.hid (YV.out.keep b4)
                clear HXV BV HRR HPB TV YV b4 y0 y1 y2 HYV
                have f0 := frozen_of (o := 0) HX4.out
                have f1 := frozen_of (o := 1) HX4.out
                have f2 := frozen_of (o := 2) HX4.out
                have c0 : w4.cell? ⟨x, 0, none⟩ = some (.string ⟨#[]⟩) := by rw [cell_of HX4.out]; rfl
                have c1 : w4.cell? ⟨x, 1, none⟩ = some (.bool false) := by rw [cell_of HX4.out]; rfl
                have c2 : w4.cell? ⟨x, 2, none⟩ = some (.slice none 0 0) := by rw [cell_of HX4.out]; rfl
                have y0 : w4.cell? ⟨y, 0, none⟩ = some (.string (bs nm)) := by rw [cell_of HY4.out]; rfl
                have y1 : w4.cell? ⟨y, 1, none⟩ = some (.bool true) := by rw [cell_of HY4.out]; rfl
                have y2 : w4.cell? ⟨y, 2, none⟩ = some (.slice none 0 0) := by rw [cell_of HY4.out]; rfl
                go_wp2
                refine bodyPost_ret (results_cell_pair rfl _ _ x _ _ _ _ (.int .i64 0) rfl rfl (heap_set (heap_set (heap_set HX4.out))) Tryz.underlying30 rfl (by kernel_rfl)) rfl ?_
                exact ⟨⟨nm, true, none, 0, 0, []⟩, 0, rfl, ((T4.out.set HNE.out).set HNE.out).set HNE.out, by rw [HXE.out]; exact (((B4.out.setCell (p := ⟨x, 0, none⟩) (Nat.le_refl _) _).setCell (p := ⟨x, 1, none⟩) (Nat.le_refl _) _).setCell (p := ⟨x, 2, none⟩) (Nat.le_refl _) _), ((YA4.out.set HNE.out).set HNE.out).set HNE.out, HF.out⟩
            · have z0 : decide ((0 : Int) < ((bs r).size : Int)) = true := decide_eq_true (by omega)
              have z1 : ((b0.toNat : Int) == 40) = false := (byteB 40 b0).trans (decide_eq_false n0)
              have HP := Lib.hid (fun ad b (e : decide (rightT (nm, true, [r])) = b) => par_ofT (ad := ad) (n := 1) (c := 1) HCU.out HNM.out hv e)
              clear hv n0
              have HYA := Lib.hid (heap_old (o := (.cells #[.string (bs r)] 9)) HY.out)
              have HXA := Lib.hid (heap_old (o := (.cells #[.string (bs r)] 9)) HX1.out)
              have BA := Lib.hid (B1.out.alloc (by have := heap_lt HX1.out; omega) (.cells #[.string (bs r)] 9))
              have TA := Lib.hid (TxAt.one W1 r)
              have YA := Lib.hid (NewA.new W1 #[.string (bs r)])
              have hzx : W1.heap.size ≠ x := by have := heap_lt HX1.out; omega
              have hzy : W1.heap.size ≠ y := by have := heap_lt HY.out; omega
              have f2 := frozen_of (o := 2) HYA.out
              have y2 : (W1.alloc (.cells #[.string (bs r)] 9)).cell? ⟨y, 2, none⟩ = some (.slice none 0 0) := by rw [cell_of HYA.out]; rfl
              go_upto_region 18 with fail
              have HYV := Lib.hid (heap_set (o := 2) (v := .slice (some ⟨W1.heap.size, 0, none⟩) 1 1) HYA.out)
              have HXV := Lib.hid (show ((W1.alloc (.cells #[.string (bs r)] 9)).setCell ⟨y, 2, none⟩ (.slice (some ⟨W1.heap.size, 0, none⟩) 1 1)).heap[x]? = _ from (heap_set_ne (show x ≠ y by omega)).trans HXA.out)
              have BV := Lib.hid (show Below x w ((W1.alloc (.cells #[.string (bs r)] 9)).setCell ⟨y, 2, none⟩ (.slice (some ⟨W1.heap.size, 0, none⟩) 1 1)) from BA.out.setCell (p := ⟨y, 2, none⟩) (show x ≤ y by omega) _)
              have TV := Lib.hid (TA.out.set (x := y) (o := 2) (v := .slice (some ⟨W1.heap.size, 0, none⟩) 1 1) (fun ad e => by cases e; exact hzy))
              have YV := Lib.hid (YA.out.2.set (x := y) (o := 2) (v := .slice (some ⟨W1.heap.size, 0, none⟩) 1 1) (fun ad e => by cases e; exact hzy))
              have HNE := Lib.hid (show ∀ ad : Addr, (some ⟨W1.heap.size, 0, none⟩ : Option Addr) = some ad → ad.block ≠ x from fun ad e => by cases e; exact hzx)
              have HVL := Lib.hid (show ∀ v ∈ [r], v.length ≤ 1000000 from fun v h => by rw [List.mem_singleton] at h; rw [h]; omega)
              have HVN := Lib.hid (show 1 ≤ 1000000 by omega)
              have HP := Lib.hid (HP.out (some ⟨W1.heap.size, 0, none⟩))
              have HYV : Hid (((W1.alloc (.cells #[.string (bs r)] 9)).setCell ⟨y, 2, none⟩ (.slice (some ⟨W1.heap.size, 0, none⟩) 1 1)).heap[y]? = some (.cells #[.string (bs nm), .bool true, .slice (some ⟨W1.heap.size, 0, none⟩) 1 1] 30 (0, 0))) := HYV
              clear HYA HXA BA TA YA f2 y2 HY HX1 B1 hzy
              generalize (W1.alloc (.cells #[.string (bs r)] 9)).setCell ⟨y, 2, none⟩ (.slice (some ⟨W1.heap.size, 0, none⟩) 1 1) = WV at *
              generalize W1.heap.size = zb at *
              have HRR := Lib.hid (rright10_x nm true (some ⟨zb, 0, none⟩) 1 1 [r] WV TV.out (by omega) HVL.out HVN.out)
              obtain ⟨b, hb⟩ : ∃ b, decide (rightT (nm, true, [r])) = b := ⟨_, rfl⟩
              have HPB := Lib.hid (HP.out b hb)
              rw [hb] at HRR
              clear hb HP HVL HVN
              have y0 : WV.cell? ⟨y, 0, none⟩ = some (.string (bs nm)) := by rw [cell_of HYV.out]; rfl
              have y1 : WV.cell? ⟨y, 1, none⟩ = some (.bool true) := by rw [cell_of HYV.out]; rfl
              have y2 : WV.cell? ⟨y, 2, none⟩ = some (.slice (some ⟨zb, 0, none⟩) 1 1) := by rw [cell_of HYV.out]; rfl
              cases b
              · have HF := Lib.hid (HPB.out.2 rfl)
                go_wp2_with fail
                refine HRR.out.mono ?_
                rintro e w4 ⟨rfl, b4⟩
                have HX4 := Lib.hid ((b4.block _ (heap_lt HXV.out)).trans HXV.out)
                have B4 := Lib.hid (BV.out.trans (b4.mono (by have := BV.out.size; have := HXE.out; omega)))
                clear HXV BV HRR HPB TV YV b4 y0 y1 y2
                have f0 := frozen_of (o := 0) HX4.out
                have f1 := frozen_of (o := 1) HX4.out
                have f2 := frozen_of (o := 2) HX4.out
                have c0 : w4.cell? ⟨x, 0, none⟩ = some (.string ⟨#[]⟩) := by rw [cell_of HX4.out]; rfl
                have c1 : w4.cell? ⟨x, 1, none⟩ = some (.bool false) := by rw [cell_of HX4.out]; rfl
                have c2 : w4.cell? ⟨x, 2, none⟩ = some (.slice none 0 0) := by rw [cell_of HX4.out]; rfl
                go_wp2
                refine bodyPost_ret (results_cell_pair rfl _ _ x _ _ _ _ (.int .i64 4) rfl rfl (heap_set (heap_set (heap_set HX4.out))) Tryz.underlying30 rfl (by kernel_rfl)) rfl ?_
                exact ⟨zTm, 4, rfl, zTm_ok _, by rw [HXE.out]; exact (((B4.out.setCell (p := ⟨x, 0, none⟩) (Nat.le_refl _) _).setCell (p := ⟨x, 1, none⟩) (Nat.le_refl _) _).setCell (p := ⟨x, 2, none⟩) (Nat.le_refl _) _), TyA.noA _, HF.out⟩
              · have HF := Lib.hid (HPB.out.1 rfl)
                go_wp2_with fail
                refine HRR.out.mono ?_
                rintro e w4 ⟨rfl, b4⟩
                have HX4 := Lib.hid ((b4.block _ (heap_lt HXV.out)).trans HXV.out)
                have B4 := Lib.hid (BV.out.trans (b4.mono (by have := BV.out.size; have := HXE.out; omega)))
                have HY4 := Lib.hid ((b4.block _ (heap_lt HYV.out)).trans HYV.out)
                have T4 := Lib.hid (TV.out.keep b4)
                have YA4 := Lib.hid (YV.out.keep b4)
                clear HXV BV HRR HPB TV YV b4 y0 y1 y2 HYV
                have f0 := frozen_of (o := 0) HX4.out
                have f1 := frozen_of (o := 1) HX4.out
                have f2 := frozen_of (o := 2) HX4.out
                have c0 : w4.cell? ⟨x, 0, none⟩ = some (.string ⟨#[]⟩) := by rw [cell_of HX4.out]; rfl
                have c1 : w4.cell? ⟨x, 1, none⟩ = some (.bool false) := by rw [cell_of HX4.out]; rfl
                have c2 : w4.cell? ⟨x, 2, none⟩ = some (.slice none 0 0) := by rw [cell_of HX4.out]; rfl
                have y0 : w4.cell? ⟨y, 0, none⟩ = some (.string (bs nm)) := by rw [cell_of HY4.out]; rfl
                have y1 : w4.cell? ⟨y, 1, none⟩ = some (.bool true) := by rw [cell_of HY4.out]; rfl
                have y2 : w4.cell? ⟨y, 2, none⟩ = some (.slice (some ⟨zb, 0, none⟩) 1 1) := by rw [cell_of HY4.out]; rfl
                go_wp2
                refine bodyPost_ret (results_cell_pair rfl _ _ x _ _ _ _ (.int .i64 0) rfl rfl (heap_set (heap_set (heap_set HX4.out))) Tryz.underlying30 rfl (by kernel_rfl)) rfl ?_
                exact ⟨⟨nm, true, (some ⟨zb, 0, none⟩), 1, 1, [r]⟩, 0, rfl, ((T4.out.set HNE.out).set HNE.out).set HNE.out, by rw [HXE.out]; exact (((B4.out.setCell (p := ⟨x, 0, none⟩) (Nat.le_refl _) _).setCell (p := ⟨x, 1, none⟩) (Nat.le_refl _) _).setCell (p := ⟨x, 2, none⟩) (Nat.le_refl _) _), ((YA4.out.set HNE.out).set HNE.out).set HNE.out, HF.out⟩
            · have z0 : decide ((0 : Int) < ((bs r).size : Int)) = true := decide_eq_true (by omega)
              have z1 : (((40 : UInt8).toNat : Int) == 40) = true := rfl
              have z2 : ((b1.toNat : Int) == 41) = false := (byteB 41 b1).trans (decide_eq_false n1)
              have h1i : (1 : Int) ≤ ((bs r).size : Int) := by omega
              have HF := Lib.hid ((par_ofT (ad := none) (n := 0) (c := 0) HCU.out HNM.out hv (decide_eq_false (vals_word hm))).2 rfl)
              clear hv n1 hm
              have f0 := frozen_of (o := 0) HX1.out
              have f1 := frozen_of (o := 1) HX1.out
              have f2 := frozen_of (o := 2) HX1.out
              have c0 : W1.cell? ⟨x, 0, none⟩ = some (.string ⟨#[]⟩) := by rw [cell_of HX1.out]; rfl
              have c1 : W1.cell? ⟨x, 1, none⟩ = some (.bool false) := by rw [cell_of HX1.out]; rfl
              have c2 : W1.cell? ⟨x, 2, none⟩ = some (.slice none 0 0) := by rw [cell_of HX1.out]; rfl
              go_wp2
              refine bodyPost_ret (results_cell_pair rfl _ _ x _ _ _ _ (.int .i64 4) rfl rfl (heap_set (heap_set (heap_set HX1.out))) Tryz.underlying30 rfl (by kernel_rfl)) rfl ?_
              exact ⟨zTm, 4, rfl, zTm_ok _, by rw [HXE.out]; exact (((B1.out.setCell (p := ⟨x, 0, none⟩) (Nat.le_refl _) _).setCell (p := ⟨x, 1, none⟩) (Nat.le_refl _) _).setCell (p := ⟨x, 2, none⟩) (Nat.le_refl _) _), TyA.noA _, HF.out⟩
            · have z0 : decide ((0 : Int) < ((bs r).size : Int)) = true := decide_eq_true (by omega)
              have z1 : (((40 : UInt8).toNat : Int) == 40) = true := rfl
              have h1i : (1 : Int) ≤ ((bs r).size : Int) := by omega
              have h2i : (1 : Int) ≤ ((bs r).size : Int) - 1 := by have := bs_size r; omega
              have HCT := Lib.hid (rcut_any (r.drop 1).dropLast W1 (by simp; omega))
              rw [← ext_in] at HCT
              have HVL := Lib.hid (show ∀ v ∈ splitC (r.drop 1).dropLast, v.length ≤ 1000000 from fun v h => by have h9 := splitC_short _ v h; have h8 : ((r.drop 1).dropLast).length ≤ r.length := (by simp; omega); omega)
              obtain ⟨vs, hvs⟩ : ∃ vs, splitC (r.drop 1).dropLast = vs := ⟨_, rfl⟩
              have HVN0 := Lib.hid (show vs.length ≤ 1000000 by rw [← hvs]; have h9 := split_lenT (r.drop 1).dropLast; have h8 : ((r.drop 1).dropLast).length ≤ r.length := (by simp; omega); omega)
              rw [hvs] at HVL HCT hv
              have HP := Lib.hid (fun ad n c b (e : decide (rightT (nm, true, vs)) = b) => par_ofT (ad := ad) (n := n) (c := c) HCU.out HNM.out hv e)
              clear hv hvs h2
              go_wp2_with fail
              refine HCT.out.mono ?_
              rintro e w2 ⟨va, vn, vc, rfl, t2, b2, na⟩
              have HYA := Lib.hid ((b2.block _ (heap_lt HY.out)).trans HY.out)
              have HXA := Lib.hid ((b2.block _ (heap_lt HX1.out)).trans HX1.out)
              have BA := Lib.hid (B1.out.trans (b2.mono (by have := heap_lt HX1.out; omega)))
              have hzx : ∀ ad, va = some ad → ad.block ≠ x := fun ad e => by have := heap_lt HX1.out; have := na.1 ad e; omega
              have hzy : ∀ ad, va = some ad → ad.block ≠ y := fun ad e => by have := heap_lt HY.out; have := na.1 ad e; omega
              have HVN := Lib.hid (show vn ≤ 1000000 by rw [← t2.1]; exact HVN0.out)
              have f2 := frozen_of (o := 2) HYA.out
              have y2 : w2.cell? ⟨y, 2, none⟩ = some (.slice none 0 0) := by rw [cell_of HYA.out]; rfl
              have HNE := Lib.hid hzx
              have HNY := Lib.hid hzy
              have TA := Lib.hid t2
              have YA := Lib.hid na.2
              clear hzx hzy t2 na HCT b2 HVN0
              go_upto_region 18 with fail
              have HYV := Lib.hid (heap_set (o := 2) (v := .slice va vn vc) HYA.out)
              have HXV := Lib.hid (show (w2.setCell ⟨y, 2, none⟩ (.slice va vn vc)).heap[x]? = _ from (heap_set_ne (show x ≠ y by omega)).trans HXA.out)
              have BV := Lib.hid (show Below x w (w2.setCell ⟨y, 2, none⟩ (.slice va vn vc)) from BA.out.setCell (p := ⟨y, 2, none⟩) (show x ≤ y by omega) _)
              have TV := Lib.hid (TA.out.set (x := y) (o := 2) (v := .slice va vn vc) HNY.out)
              have YV := Lib.hid (YA.out.set (x := y) (o := 2) (v := .slice va vn vc) HNY.out)
              have HP := Lib.hid (HP.out va vn vc)
              have HYV : Hid ((w2.setCell ⟨y, 2, none⟩ (.slice va vn vc)).heap[y]? = some (.cells #[.string (bs nm), .bool true, .slice va vn vc] 30 (0, 0))) := HYV
              clear HYA HXA BA TA YA f2 y2 HY HX1 B1 HNY
              generalize w2.setCell ⟨y, 2, none⟩ (.slice va vn vc) = WV at *
              have HRR := Lib.hid (rright10_x nm true va vn vc vs WV TV.out (by omega) HVL.out HVN.out)
              obtain ⟨b, hb⟩ : ∃ b, decide (rightT (nm, true, vs)) = b := ⟨_, rfl⟩
              have HPB := Lib.hid (HP.out b hb)
              rw [hb] at HRR
              clear hb HP HVL HVN
              have y0 : WV.cell? ⟨y, 0, none⟩ = some (.string (bs nm)) := by rw [cell_of HYV.out]; rfl
              have y1 : WV.cell? ⟨y, 1, none⟩ = some (.bool true) := by rw [cell_of HYV.out]; rfl
              have y2 : WV.cell? ⟨y, 2, none⟩ = some (.slice va vn vc) := by rw [cell_of HYV.out]; rfl
              cases b
              · have HF := Lib.hid (HPB.out.2 rfl)
                go_wp2_with fail
                refine HRR.out.mono ?_
                rintro e w4 ⟨rfl, b4⟩
                have HX4 := Lib.hid ((b4.block _ (heap_lt HXV.out)).trans HXV.out)
                have B4 := Lib.hid (BV.out.trans (b4.mono (by have := BV.out.size; have := HXE.out; omega)))
                clear HXV BV HRR HPB TV YV b4 y0 y1 y2
                have f0 := frozen_of (o := 0) HX4.out
                have f1 := frozen_of (o := 1) HX4.out
                have f2 := frozen_of (o := 2) HX4.out
                have c0 : w4.cell? ⟨x, 0, none⟩ = some (.string ⟨#[]⟩) := by rw [cell_of HX4.out]; rfl
                have c1 : w4.cell? ⟨x, 1, none⟩ = some (.bool false) := by rw [cell_of HX4.out]; rfl
                have c2 : w4.cell? ⟨x, 2, none⟩ = some (.slice none 0 0) := by rw [cell_of HX4.out]; rfl
                go_wp2
                refine bodyPost_ret (results_cell_pair rfl _ _ x _ _ _ _ (.int .i64 4) rfl rfl (heap_set (heap_set (heap_set HX4.out))) Tryz.underlying30 rfl (by kernel_rfl)) rfl ?_
                exact ⟨zTm, 4, rfl, zTm_ok _, by rw [HXE.out]; exact (((B4.out.setCell (p := ⟨x, 0, none⟩) (Nat.le_refl _) _).setCell (p := ⟨x, 1, none⟩) (Nat.le_refl _) _).setCell (p := ⟨x, 2, none⟩) (Nat.le_refl _) _), TyA.noA _, HF.out⟩
              · have HF := Lib.hid (HPB.out.1 rfl)
                go_wp2_with fail
                refine HRR.out.mono ?_
                rintro e w4 ⟨rfl, b4⟩
                have HX4 := Lib.hid ((b4.block _ (heap_lt HXV.out)).trans HXV.out)
                have B4 := Lib.hid (BV.out.trans (b4.mono (by have := BV.out.size; have := HXE.out; omega)))
                have HY4 := Lib.hid ((b4.block _ (heap_lt HYV.out)).trans HYV.out)
                have T4 := Lib.hid (TV.out.keep b4)
                have YA4 := Lib.hid (YV.out.keep b4)
                clear HXV BV HRR HPB TV YV b4 y0 y1 y2 HYV
                have f0 := frozen_of (o := 0) HX4.out
                have f1 := frozen_of (o := 1) HX4.out
                have f2 := frozen_of (o := 2) HX4.out
                have c0 : w4.cell? ⟨x, 0, none⟩ = some (.string ⟨#[]⟩) := by rw [cell_of HX4.out]; rfl
                have c1 : w4.cell? ⟨x, 1, none⟩ = some (.bool false) := by rw [cell_of HX4.out]; rfl
                have c2 : w4.cell? ⟨x, 2, none⟩ = some (.slice none 0 0) := by rw [cell_of HX4.out]; rfl
                have y0 : w4.cell? ⟨y, 0, none⟩ = some (.string (bs nm)) := by rw [cell_of HY4.out]; rfl
                have y1 : w4.cell? ⟨y, 1, none⟩ = some (.bool true) := by rw [cell_of HY4.out]; rfl
                have y2 : w4.cell? ⟨y, 2, none⟩ = some (.slice va vn vc) := by rw [cell_of HY4.out]; rfl
                go_wp2
                refine bodyPost_ret (results_cell_pair rfl _ _ x _ _ _ _ (.int .i64 0) rfl rfl (heap_set (heap_set (heap_set HX4.out))) Tryz.underlying30 rfl (by kernel_rfl)) rfl ?_
                exact ⟨⟨nm, true, va, vn, vc, vs⟩, 0, rfl, ((T4.out.set HNE.out).set HNE.out).set HNE.out, by rw [HXE.out]; exact (((B4.out.setCell (p := ⟨x, 0, none⟩) (Nat.le_refl _) _).setCell (p := ⟨x, 1, none⟩) (Nat.le_refl _) _).setCell (p := ⟨x, 2, none⟩) (Nat.le_refl _) _), ((YA4.out.set HNE.out).set HNE.out).set HNE.out, HF.out⟩
          · have hb1 : ((c1.toNat : Int) == 33) = false := (byteB 33 c1).trans (decide_eq_false h33)
            go_upto_region 10 with fail
            obtain ⟨nm, hnm⟩ : ∃ nm, s.take k = nm := ⟨_, rfl⟩
            have hE : (bs s).extract 0 k = bs nm := by rw [← hnm]; exact ext_0
            have HNM := Lib.hid (show nameT (s.take k) = (nm, false) by rw [← hnm]; exact name_0 hk h0 hk1 (fun e => h33 (hc1.symm.trans e)))
            have hnl : nm.length ≤ 1000 := by rw [← hnm]; simp; omega
            clear hnm
            rw [hE]
            clear hE
            have HY := Lib.hid (heap_new W0 (.cells #[.string (bs nm), .bool false, .slice none 0 0] 30))
            have HX1 := Lib.hid (heap_old (o := .cells #[.string (bs nm), .bool false, .slice none 0 0] 30) X0.out)
            have B1 := Lib.hid (B0.out.alloc (by have := heap_lt X0.out; omega) (.cells #[.string (bs nm), .bool false, .slice none 0 0] 30))
            have hxy : x < W0.heap.size := heap_lt X0.out
            generalize W0.alloc (.cells #[.string (bs nm), .bool false, .slice none 0 0] 30) = W1 at *
            generalize W0.heap.size = y at *
            obtain ⟨r, hr⟩ : ∃ r, s.drop (k + 1) = r := ⟨_, rfl⟩
            have hex : (bs s).extract (k + 1) (bs s).size = bs r := by rw [← hr]; exact ext_r
            rw [hr] at HCU
            have hrl : r.length ≤ 1000 := by rw [← hr]; simp; omega
            have hrs : (bs r).size ≤ 1000 := by rw [bs_size]; exact hrl
            have hk3 : (k : Int) + 1 ≤ ((bs s).size : Int) := by omega
            have hk4 : (0 : Int) ≤ (k : Int) + 1 := by omega
            clear hr
            rcases rest_cases r with hr0 | ⟨q0, b0, e0, n0, hv⟩ | ⟨q0, q1, b1, e0, e1, n1, hv, hm⟩ | ⟨q0, q1, e0, e1, h2, hv⟩
            · have hrz : (bs r).size = 0 := by rw [hr0]; rfl
              have z0 : decide ((0 : Int) < ((bs r).size : Int)) = false := by rw [hrz]; rfl
              have z0n : ¬ 0 < (bs r).size := by omega
              have HP := Lib.hid (fun b (e : decide (rightT (nm, false, [])) = b) => par_ofT (ad := none) (n := 0) (c := 0) HCU.out HNM.out (show valsT r = [] by rw [hr0]; rfl) e)
              clear hr0 hrz
              go_upto_region 18 with fail
              have HYV := HY
              have HXV := HX1
              have BV := B1
              have TV := Lib.hid (TxAt.nil W1 none 0)
              have YV := Lib.hid (TyA.noA W1)
              have HNE := Lib.hid (show ∀ ad : Addr, (none : Option Addr) = some ad → ad.block ≠ x from fun ad e => by cases e)
              have HVL := Lib.hid (show ∀ v ∈ ([] : List Tx), v.length ≤ 1000000 from fun v h => by simp at h)
              have HVN := Lib.hid (show 0 ≤ 1000000 by omega)
              generalize W1 = WV at *
              have HRR := Lib.hid (rright10_x nm false none 0 0 [] WV TV.out (by omega) HVL.out HVN.out)
              obtain ⟨b, hb⟩ : ∃ b, decide (rightT (nm, false, [])) = b := ⟨_, rfl⟩
              have HPB := Lib.hid (HP.out b hb)
              rw [hb] at HRR
              clear hb HP HVL HVN
              have y0 : WV.cell? ⟨y, 0, none⟩ = some (.string (bs nm)) := by rw [cell_of HYV.out]; rfl
              have y1 : WV.cell? ⟨y, 1, none⟩ = some (.bool false) := by rw [cell_of HYV.out]; rfl
              have y2 : WV.cell? ⟨y, 2, none⟩ = some (.slice none 0 0) := by rw [cell_of HYV.out]; rfl
              cases b
              · have HF := Lib.hid (HPB.out.2 rfl)
                go_wp2_with fail
                refine HRR.out.mono ?_
                rintro e w4 ⟨rfl, b4⟩
                have HX4 := Lib.hid ((b4.block _ (heap_lt HXV.out)).trans HXV.out)
                have B4 := Lib.hid (BV.out.trans (b4.mono (by have := BV.out.size; have := HXE.out; omega)))
                clear HXV BV HRR HPB TV YV b4 y0 y1 y2
                have f0 := frozen_of (o := 0) HX4.out
                have f1 := frozen_of (o := 1) HX4.out
                have f2 := frozen_of (o := 2) HX4.out
                have c0 : w4.cell? ⟨x, 0, none⟩ = some (.string ⟨#[]⟩) := by rw [cell_of HX4.out]; rfl
                have c1 : w4.cell? ⟨x, 1, none⟩ = some (.bool false) := by rw [cell_of HX4.out]; rfl
                have c2 : w4.cell? ⟨x, 2, none⟩ = some (.slice none 0 0) := by rw [cell_of HX4.out]; rfl
                go_wp2
                refine bodyPost_ret (results_cell_pair rfl _ _ x _ _ _ _ (.int .i64 4) rfl rfl (heap_set (heap_set (heap_set HX4.out))) Tryz.underlying30 rfl (by kernel_rfl)) rfl ?_
                exact ⟨zTm, 4, rfl, zTm_ok _, by rw [HXE.out]; exact (((B4.out.setCell (p := ⟨x, 0, none⟩) (Nat.le_refl _) _).setCell (p := ⟨x, 1, none⟩) (Nat.le_refl _) _).setCell (p := ⟨x, 2, none⟩) (Nat.le_refl _) _), TyA.noA _, HF.out⟩
              · have HF := Lib.hid (HPB.out.1 rfl)
                go_wp2_with fail
                refine HRR.out.mono ?_
                rintro e w4 ⟨rfl, b4⟩
                have HX4 := Lib.hid ((b4.block _ (heap_lt HXV.out)).trans HXV.out)
                have B4 := Lib.hid (BV.out.trans (b4.mono (by have := BV.out.size; have := HXE.out; omega)))
                have HY4 := Lib.hid ((b4.block _ (heap_lt HYV.out)).trans HYV.out)
                have T4 := Lib.hid (TV.out.keep b4)
                have YA4 := Lib.hid (YV.out.keep b4)
                clear HXV BV HRR HPB TV YV b4 y0 y1 y2 HYV
                have f0 := frozen_of (o := 0) HX4.out
                have f1 := frozen_of (o := 1) HX4.out
                have f2 := frozen_of (o := 2) HX4.out
                have c0 : w4.cell? ⟨x, 0, none⟩ = some (.string ⟨#[]⟩) := by rw [cell_of HX4.out]; rfl
                have c1 : w4.cell? ⟨x, 1, none⟩ = some (.bool false) := by rw [cell_of HX4.out]; rfl
                have c2 : w4.cell? ⟨x, 2, none⟩ = some (.slice none 0 0) := by rw [cell_of HX4.out]; rfl
                have y0 : w4.cell? ⟨y, 0, none⟩ = some (.string (bs nm)) := by rw [cell_of HY4.out]; rfl
                have y1 : w4.cell? ⟨y, 1, none⟩ = some (.bool false) := by rw [cell_of HY4.out]; rfl
                have y2 : w4.cell? ⟨y, 2, none⟩ = some (.slice none 0 0) := by rw [cell_of HY4.out]; rfl
                go_wp2
                refine bodyPost_ret (results_cell_pair rfl _ _ x _ _ _ _ (.int .i64 0) rfl rfl (heap_set (heap_set (heap_set HX4.out))) Tryz.underlying30 rfl (by kernel_rfl)) rfl ?_
                exact ⟨⟨nm, false, none, 0, 0, []⟩, 0, rfl, ((T4.out.set HNE.out).set HNE.out).set HNE.out, by rw [HXE.out]; exact (((B4.out.setCell (p := ⟨x, 0, none⟩) (Nat.le_refl _) _).setCell (p := ⟨x, 1, none⟩) (Nat.le_refl _) _).setCell (p := ⟨x, 2, none⟩) (Nat.le_refl _) _), ((YA4.out.set HNE.out).set HNE.out).set HNE.out, HF.out⟩
            · have z0 : decide ((0 : Int) < ((bs r).size : Int)) = true := decide_eq_true (by omega)
              have z1 : ((b0.toNat : Int) == 40) = false := (byteB 40 b0).trans (decide_eq_false n0)
              have HP := Lib.hid (fun ad b (e : decide (rightT (nm, false, [r])) = b) => par_ofT (ad := ad) (n := 1) (c := 1) HCU.out HNM.out hv e)
              clear hv n0
              have HYA := Lib.hid (heap_old (o := (.cells #[.string (bs r)] 9)) HY.out)
              have HXA := Lib.hid (heap_old (o := (.cells #[.string (bs r)] 9)) HX1.out)
              have BA := Lib.hid (B1.out.alloc (by have := heap_lt HX1.out; omega) (.cells #[.string (bs r)] 9))
              have TA := Lib.hid (TxAt.one W1 r)
              have YA := Lib.hid (NewA.new W1 #[.string (bs r)])
              have hzx : W1.heap.size ≠ x := by have := heap_lt HX1.out; omega
              have hzy : W1.heap.size ≠ y := by have := heap_lt HY.out; omega
              have f2 := frozen_of (o := 2) HYA.out
              have y2 : (W1.alloc (.cells #[.string (bs r)] 9)).cell? ⟨y, 2, none⟩ = some (.slice none 0 0) := by rw [cell_of HYA.out]; rfl
              go_upto_region 18 with fail
              have HYV := Lib.hid (heap_set (o := 2) (v := .slice (some ⟨W1.heap.size, 0, none⟩) 1 1) HYA.out)
              have HXV := Lib.hid (show ((W1.alloc (.cells #[.string (bs r)] 9)).setCell ⟨y, 2, none⟩ (.slice (some ⟨W1.heap.size, 0, none⟩) 1 1)).heap[x]? = _ from (heap_set_ne (show x ≠ y by omega)).trans HXA.out)
              have BV := Lib.hid (show Below x w ((W1.alloc (.cells #[.string (bs r)] 9)).setCell ⟨y, 2, none⟩ (.slice (some ⟨W1.heap.size, 0, none⟩) 1 1)) from BA.out.setCell (p := ⟨y, 2, none⟩) (show x ≤ y by omega) _)
              have TV := Lib.hid (TA.out.set (x := y) (o := 2) (v := .slice (some ⟨W1.heap.size, 0, none⟩) 1 1) (fun ad e => by cases e; exact hzy))
              have YV := Lib.hid (YA.out.2.set (x := y) (o := 2) (v := .slice (some ⟨W1.heap.size, 0, none⟩) 1 1) (fun ad e => by cases e; exact hzy))
              have HNE := Lib.hid (show ∀ ad : Addr, (some ⟨W1.heap.size, 0, none⟩ : Option Addr) = some ad → ad.block ≠ x from fun ad e => by cases e; exact hzx)
              have HVL := Lib.hid (show ∀ v ∈ [r], v.length ≤ 1000000 from fun v h => by rw [List.mem_singleton] at h; rw [h]; omega)
              have HVN := Lib.hid (show 1 ≤ 1000000 by omega)
              have HP := Lib.hid (HP.out (some ⟨W1.heap.size, 0, none⟩))
              have HYV : Hid (((W1.alloc (.cells #[.string (bs r)] 9)).setCell ⟨y, 2, none⟩ (.slice (some ⟨W1.heap.size, 0, none⟩) 1 1)).heap[y]? = some (.cells #[.string (bs nm), .bool false, .slice (some ⟨W1.heap.size, 0, none⟩) 1 1] 30 (0, 0))) := HYV
              clear HYA HXA BA TA YA f2 y2 HY HX1 B1 hzy
              generalize (W1.alloc (.cells #[.string (bs r)] 9)).setCell ⟨y, 2, none⟩ (.slice (some ⟨W1.heap.size, 0, none⟩) 1 1) = WV at *
              generalize W1.heap.size = zb at *
              have HRR := Lib.hid (rright10_x nm false (some ⟨zb, 0, none⟩) 1 1 [r] WV TV.out (by omega) HVL.out HVN.out)
              obtain ⟨b, hb⟩ : ∃ b, decide (rightT (nm, false, [r])) = b := ⟨_, rfl⟩
              have HPB := Lib.hid (HP.out b hb)
              rw [hb] at HRR
              clear hb HP HVL HVN
              have y0 : WV.cell? ⟨y, 0, none⟩ = some (.string (bs nm)) := by rw [cell_of HYV.out]; rfl
              have y1 : WV.cell? ⟨y, 1, none⟩ = some (.bool false) := by rw [cell_of HYV.out]; rfl
              have y2 : WV.cell? ⟨y, 2, none⟩ = some (.slice (some ⟨zb, 0, none⟩) 1 1) := by rw [cell_of HYV.out]; rfl
              cases b
              · have HF := Lib.hid (HPB.out.2 rfl)
                go_wp2_with fail
                refine HRR.out.mono ?_
                rintro e w4 ⟨rfl, b4⟩
                have HX4 := Lib.hid ((b4.block _ (heap_lt HXV.out)).trans HXV.out)
                have B4 := Lib.hid (BV.out.trans (b4.mono (by have := BV.out.size; have := HXE.out; omega)))
                clear HXV BV HRR HPB TV YV b4 y0 y1 y2
                have f0 := frozen_of (o := 0) HX4.out
                have f1 := frozen_of (o := 1) HX4.out
                have f2 := frozen_of (o := 2) HX4.out
                have c0 : w4.cell? ⟨x, 0, none⟩ = some (.string ⟨#[]⟩) := by rw [cell_of HX4.out]; rfl
                have c1 : w4.cell? ⟨x, 1, none⟩ = some (.bool false) := by rw [cell_of HX4.out]; rfl
                have c2 : w4.cell? ⟨x, 2, none⟩ = some (.slice none 0 0) := by rw [cell_of HX4.out]; rfl
                go_wp2
                refine bodyPost_ret (results_cell_pair rfl _ _ x _ _ _ _ (.int .i64 4) rfl rfl (heap_set (heap_set (heap_set HX4.out))) Tryz.underlying30 rfl (by kernel_rfl)) rfl ?_
                exact ⟨zTm, 4, rfl, zTm_ok _, by rw [HXE.out]; exact (((B4.out.setCell (p := ⟨x, 0, none⟩) (Nat.le_refl _) _).setCell (p := ⟨x, 1, none⟩) (Nat.le_refl _) _).setCell (p := ⟨x, 2, none⟩) (Nat.le_refl _) _), TyA.noA _, HF.out⟩
              · have HF := Lib.hid (HPB.out.1 rfl)
                go_wp2_with fail
                refine HRR.out.mono ?_
                rintro e w4 ⟨rfl, b4⟩
                have HX4 := Lib.hid ((b4.block _ (heap_lt HXV.out)).trans HXV.out)
                have B4 := Lib.hid (BV.out.trans (b4.mono (by have := BV.out.size; have := HXE.out; omega)))
                have HY4 := Lib.hid ((b4.block _ (heap_lt HYV.out)).trans HYV.out)
                have T4 := Lib.hid (TV.out.keep b4)
                have YA4 := Lib.hid (YV.out.keep b4)
                clear HXV BV HRR HPB TV YV b4 y0 y1 y2 HYV
                have f0 := frozen_of (o := 0) HX4.out
                have f1 := frozen_of (o := 1) HX4.out
                have f2 := frozen_of (o := 2) HX4.out
                have c0 : w4.cell? ⟨x, 0, none⟩ = some (.string ⟨#[]⟩) := by rw [cell_of HX4.out]; rfl
                have c1 : w4.cell? ⟨x, 1, none⟩ = some (.bool false) := by rw [cell_of HX4.out]; rfl
                have c2 : w4.cell? ⟨x, 2, none⟩ = some (.slice none 0 0) := by rw [cell_of HX4.out]; rfl
                have y0 : w4.cell? ⟨y, 0, none⟩ = some (.string (bs nm)) := by rw [cell_of HY4.out]; rfl
                have y1 : w4.cell? ⟨y, 1, none⟩ = some (.bool false) := by rw [cell_of HY4.out]; rfl
                have y2 : w4.cell? ⟨y, 2, none⟩ = some (.slice (some ⟨zb, 0, none⟩) 1 1) := by rw [cell_of HY4.out]; rfl
                go_wp2
                refine bodyPost_ret (results_cell_pair rfl _ _ x _ _ _ _ (.int .i64 0) rfl rfl (heap_set (heap_set (heap_set HX4.out))) Tryz.underlying30 rfl (by kernel_rfl)) rfl ?_
                exact ⟨⟨nm, false, (some ⟨zb, 0, none⟩), 1, 1, [r]⟩, 0, rfl, ((T4.out.set HNE.out).set HNE.out).set HNE.out, by rw [HXE.out]; exact (((B4.out.setCell (p := ⟨x, 0, none⟩) (Nat.le_refl _) _).setCell (p := ⟨x, 1, none⟩) (Nat.le_refl _) _).setCell (p := ⟨x, 2, none⟩) (Nat.le_refl _) _), ((YA4.out.set HNE.out).set HNE.out).set HNE.out, HF.out⟩
            · have z0 : decide ((0 : Int) < ((bs r).size : Int)) = true := decide_eq_true (by omega)
              have z1 : (((40 : UInt8).toNat : Int) == 40) = true := rfl
              have z2 : ((b1.toNat : Int) == 41) = false := (byteB 41 b1).trans (decide_eq_false n1)
              have h1i : (1 : Int) ≤ ((bs r).size : Int) := by omega
              have HF := Lib.hid ((par_ofT (ad := none) (n := 0) (c := 0) HCU.out HNM.out hv (decide_eq_false (vals_word hm))).2 rfl)
              clear hv n1 hm
              have f0 := frozen_of (o := 0) HX1.out
              have f1 := frozen_of (o := 1) HX1.out
              have f2 := frozen_of (o := 2) HX1.out
              have c0 : W1.cell? ⟨x, 0, none⟩ = some (.string ⟨#[]⟩) := by rw [cell_of HX1.out]; rfl
              have c1 : W1.cell? ⟨x, 1, none⟩ = some (.bool false) := by rw [cell_of HX1.out]; rfl
              have c2 : W1.cell? ⟨x, 2, none⟩ = some (.slice none 0 0) := by rw [cell_of HX1.out]; rfl
              go_wp2
              refine bodyPost_ret (results_cell_pair rfl _ _ x _ _ _ _ (.int .i64 4) rfl rfl (heap_set (heap_set (heap_set HX1.out))) Tryz.underlying30 rfl (by kernel_rfl)) rfl ?_
              exact ⟨zTm, 4, rfl, zTm_ok _, by rw [HXE.out]; exact (((B1.out.setCell (p := ⟨x, 0, none⟩) (Nat.le_refl _) _).setCell (p := ⟨x, 1, none⟩) (Nat.le_refl _) _).setCell (p := ⟨x, 2, none⟩) (Nat.le_refl _) _), TyA.noA _, HF.out⟩
            · have z0 : decide ((0 : Int) < ((bs r).size : Int)) = true := decide_eq_true (by omega)
              have z1 : (((40 : UInt8).toNat : Int) == 40) = true := rfl
              have h1i : (1 : Int) ≤ ((bs r).size : Int) := by omega
              have h2i : (1 : Int) ≤ ((bs r).size : Int) - 1 := by have := bs_size r; omega
              have HCT := Lib.hid (rcut_any (r.drop 1).dropLast W1 (by simp; omega))
              rw [← ext_in] at HCT
              have HVL := Lib.hid (show ∀ v ∈ splitC (r.drop 1).dropLast, v.length ≤ 1000000 from fun v h => by have h9 := splitC_short _ v h; have h8 : ((r.drop 1).dropLast).length ≤ r.length := (by simp; omega); omega)
              obtain ⟨vs, hvs⟩ : ∃ vs, splitC (r.drop 1).dropLast = vs := ⟨_, rfl⟩
              have HVN0 := Lib.hid (show vs.length ≤ 1000000 by rw [← hvs]; have h9 := split_lenT (r.drop 1).dropLast; have h8 : ((r.drop 1).dropLast).length ≤ r.length := (by simp; omega); omega)
              rw [hvs] at HVL HCT hv
              have HP := Lib.hid (fun ad n c b (e : decide (rightT (nm, false, vs)) = b) => par_ofT (ad := ad) (n := n) (c := c) HCU.out HNM.out hv e)
              clear hv hvs h2
              go_wp2_with fail
              refine HCT.out.mono ?_
              rintro e w2 ⟨va, vn, vc, rfl, t2, b2, na⟩
              have HYA := Lib.hid ((b2.block _ (heap_lt HY.out)).trans HY.out)
              have HXA := Lib.hid ((b2.block _ (heap_lt HX1.out)).trans HX1.out)
              have BA := Lib.hid (B1.out.trans (b2.mono (by have := heap_lt HX1.out; omega)))
              have hzx : ∀ ad, va = some ad → ad.block ≠ x := fun ad e => by have := heap_lt HX1.out; have := na.1 ad e; omega
              have hzy : ∀ ad, va = some ad → ad.block ≠ y := fun ad e => by have := heap_lt HY.out; have := na.1 ad e; omega
              have HVN := Lib.hid (show vn ≤ 1000000 by rw [← t2.1]; exact HVN0.out)
              have f2 := frozen_of (o := 2) HYA.out
              have y2 : w2.cell? ⟨y, 2, none⟩ = some (.slice none 0 0) := by rw [cell_of HYA.out]; rfl
              have HNE := Lib.hid hzx
              have HNY := Lib.hid hzy
              have TA := Lib.hid t2
              have YA := Lib.hid na.2
              clear hzx hzy t2 na HCT b2 HVN0
              go_upto_region 18 with fail
              have HYV := Lib.hid (heap_set (o := 2) (v := .slice va vn vc) HYA.out)
              have HXV := Lib.hid (show (w2.setCell ⟨y, 2, none⟩ (.slice va vn vc)).heap[x]? = _ from (heap_set_ne (show x ≠ y by omega)).trans HXA.out)
              have BV := Lib.hid (show Below x w (w2.setCell ⟨y, 2, none⟩ (.slice va vn vc)) from BA.out.setCell (p := ⟨y, 2, none⟩) (show x ≤ y by omega) _)
              have TV := Lib.hid (TA.out.set (x := y) (o := 2) (v := .slice va vn vc) HNY.out)
              have YV := Lib.hid (YA.out.set (x := y) (o := 2) (v := .slice va vn vc) HNY.out)
              have HP := Lib.hid (HP.out va vn vc)
              have HYV : Hid ((w2.setCell ⟨y, 2, none⟩ (.slice va vn vc)).heap[y]? = some (.cells #[.string (bs nm), .bool false, .slice va vn vc] 30 (0, 0))) := HYV
              clear HYA HXA BA TA YA f2 y2 HY HX1 B1 HNY
              generalize w2.setCell ⟨y, 2, none⟩ (.slice va vn vc) = WV at *
              have HRR := Lib.hid (rright10_x nm false va vn vc vs WV TV.out (by omega) HVL.out HVN.out)
              obtain ⟨b, hb⟩ : ∃ b, decide (rightT (nm, false, vs)) = b := ⟨_, rfl⟩
              have HPB := Lib.hid (HP.out b hb)
              rw [hb] at HRR
              clear hb HP HVL HVN
              have y0 : WV.cell? ⟨y, 0, none⟩ = some (.string (bs nm)) := by rw [cell_of HYV.out]; rfl
              have y1 : WV.cell? ⟨y, 1, none⟩ = some (.bool false) := by rw [cell_of HYV.out]; rfl
              have y2 : WV.cell? ⟨y, 2, none⟩ = some (.slice va vn vc) := by rw [cell_of HYV.out]; rfl
              cases b
              · have HF := Lib.hid (HPB.out.2 rfl)
                go_wp2_with fail
                refine HRR.out.mono ?_
                rintro e w4 ⟨rfl, b4⟩
                have HX4 := Lib.hid ((b4.block _ (heap_lt HXV.out)).trans HXV.out)
                have B4 := Lib.hid (BV.out.trans (b4.mono (by have := BV.out.size; have := HXE.out; omega)))
                clear HXV BV HRR HPB TV YV b4 y0 y1 y2
                have f0 := frozen_of (o := 0) HX4.out
                have f1 := frozen_of (o := 1) HX4.out
                have f2 := frozen_of (o := 2) HX4.out
                have c0 : w4.cell? ⟨x, 0, none⟩ = some (.string ⟨#[]⟩) := by rw [cell_of HX4.out]; rfl
                have c1 : w4.cell? ⟨x, 1, none⟩ = some (.bool false) := by rw [cell_of HX4.out]; rfl
                have c2 : w4.cell? ⟨x, 2, none⟩ = some (.slice none 0 0) := by rw [cell_of HX4.out]; rfl
                go_wp2
                refine bodyPost_ret (results_cell_pair rfl _ _ x _ _ _ _ (.int .i64 4) rfl rfl (heap_set (heap_set (heap_set HX4.out))) Tryz.underlying30 rfl (by kernel_rfl)) rfl ?_
                exact ⟨zTm, 4, rfl, zTm_ok _, by rw [HXE.out]; exact (((B4.out.setCell (p := ⟨x, 0, none⟩) (Nat.le_refl _) _).setCell (p := ⟨x, 1, none⟩) (Nat.le_refl _) _).setCell (p := ⟨x, 2, none⟩) (Nat.le_refl _) _), TyA.noA _, HF.out⟩
              · have HF := Lib.hid (HPB.out.1 rfl)
                go_wp2_with fail
                refine HRR.out.mono ?_
                rintro e w4 ⟨rfl, b4⟩
                have HX4 := Lib.hid ((b4.block _ (heap_lt HXV.out)).trans HXV.out)
                have B4 := Lib.hid (BV.out.trans (b4.mono (by have := BV.out.size; have := HXE.out; omega)))
                have HY4 := Lib.hid ((b4.block _ (heap_lt HYV.out)).trans HYV.out)
                have T4 := Lib.hid (TV.out.keep b4)
                have YA4 := Lib.hid (YV.out.keep b4)
                clear HXV BV HRR HPB TV YV b4 y0 y1 y2 HYV
                have f0 := frozen_of (o := 0) HX4.out
                have f1 := frozen_of (o := 1) HX4.out
                have f2 := frozen_of (o := 2) HX4.out
                have c0 : w4.cell? ⟨x, 0, none⟩ = some (.string ⟨#[]⟩) := by rw [cell_of HX4.out]; rfl
                have c1 : w4.cell? ⟨x, 1, none⟩ = some (.bool false) := by rw [cell_of HX4.out]; rfl
                have c2 : w4.cell? ⟨x, 2, none⟩ = some (.slice none 0 0) := by rw [cell_of HX4.out]; rfl
                have y0 : w4.cell? ⟨y, 0, none⟩ = some (.string (bs nm)) := by rw [cell_of HY4.out]; rfl
                have y1 : w4.cell? ⟨y, 1, none⟩ = some (.bool false) := by rw [cell_of HY4.out]; rfl
                have y2 : w4.cell? ⟨y, 2, none⟩ = some (.slice va vn vc) := by rw [cell_of HY4.out]; rfl
                go_wp2
                refine bodyPost_ret (results_cell_pair rfl _ _ x _ _ _ _ (.int .i64 0) rfl rfl (heap_set (heap_set (heap_set HX4.out))) Tryz.underlying30 rfl (by kernel_rfl)) rfl ?_
                exact ⟨⟨nm, false, va, vn, vc, vs⟩, 0, rfl, ((T4.out.set HNE.out).set HNE.out).set HNE.out, by rw [HXE.out]; exact (((B4.out.setCell (p := ⟨x, 0, none⟩) (Nat.le_refl _) _).setCell (p := ⟨x, 1, none⟩) (Nat.le_refl _) _).setCell (p := ⟨x, 2, none⟩) (Nat.le_refl _) _), ((YA4.out.set HNE.out).set HNE.out).set HNE.out, HF.out⟩
      · have hb : ((c.toNat : Int) == 61) = false := (byteB 61 c).trans (decide_eq_false h61)
        have HN2 := Lib.hid (take_next hkn HN.out (by rw [← HC.out]; exact h61))
        clear h61 HN HC
        go_wp2
        go_roundw
        case rel => exact ⟨k + 1, by omega, by go_num, HN2, trivial⟩
        case measure => simp [intOf]; omega
    · obtain rfl : k = s.length := by omega
      have HF := Lib.hid (par_none (cut_no HN.out))
      have hlt : decide (((s.length : Nat) : Int) < ((bs s).size : Int)) = false := decide_eq_false (by rw [HZ.out]; omega)
      have hne : (((s.length : Nat) : Int) == ((bs s).size : Int)) = true := beq_iff_eq.2 (by rw [HZ.out])
      clear HN
      have f0 := frozen_of (o := 0) X0.out
      have f1 := frozen_of (o := 1) X0.out
      have f2 := frozen_of (o := 2) X0.out
      have c0 : W0.cell? ⟨x, 0, none⟩ = some (.string ⟨#[]⟩) := by rw [cell_of X0.out]; rfl
      have c1 : W0.cell? ⟨x, 1, none⟩ = some (.bool false) := by rw [cell_of X0.out]; rfl
      have c2 : W0.cell? ⟨x, 2, none⟩ = some (.slice none 0 0) := by rw [cell_of X0.out]; rfl
      go_wp2
      refine bodyPost_ret (results_cell_pair rfl _ _ x _ _ _ _ (.int .i64 4) rfl rfl (heap_set (heap_set (heap_set X0.out))) Tryz.underlying30 rfl (by kernel_rfl)) rfl ?_
      exact ⟨zTm, 4, rfl, zTm_ok _, by rw [HXE.out]; exact (((B0.out.setCell (p := ⟨x, 0, none⟩) (Nat.le_refl _) _).setCell (p := ⟨x, 1, none⟩) (Nat.le_refl _) _).setCell (p := ⟨x, 2, none⟩) (Nat.le_refl _) _), TyA.noA _, HF.out⟩
end Go.Proofs.YtifjbbiphekmmaaGreatDoor
/-
  Contract of the document's All.
-/
namespace Go.Proofs.YtifjbbiphekmmaaGreatDoor
open Go.RowKit Go.Lib
set_option linter.unusedVariables false
set_option linter.unusedSimpArgs false

theorem any_snoc {w : World} {T : List TmT} {tm : TmT} (h : TmOk w tm) : (trms (T ++ [tm])).any pickT = ((trms T).any pickT || pickN tm) := by
  rw [trms_app, List.any_append, pick_same h]; simp

set_option maxRecDepth 100000 in
set_option maxHeartbeats 4000000 in
theorem rall10_any (a : Option Addr) (n c : Nat) (l : List Tx) (w : World) (h : TxAt w a n c l) (hl : ∀ s ∈ l, s.length ≤ 1000) (hn : n ≤ 1000) :
    Calls Tryz.prog 25 #[.slice a n c] w (AllP w l) := by
  have hlen : l.length = n := h.1
  have HL := Lib.hid hlen
  have HT := Lib.hid h
  have HSZ := Lib.hid hl
  clear h hl hlen
  go_enter Tryz.func25, Tryz.ntmps25
  go_wp2_with fail
  go_loopw [4, 5, 6] (fun v sv i wr => ∃ (j : Nat) (T : List TmT) (some_ : Bool), j ≤ n ∧ i = .int .i64 (j : Int) ∧ T.length = j ∧ sv = .bool some_ ∧ Hid ((trms T).any pickT = some_) ∧ Hid (DRow wr w.heap.size v T) ∧ Hid (TyOk wr T) ∧ Hid (parseAll (l.take j) = some (trms T)) ∧ Hid (Below w.heap.size w wr)) (fun _ _ i _ => n - (intOf i).toNat)
  case atStart => exact ⟨0, [], false, by omega, rfl, rfl, rfl, Lib.hid rfl, Lib.hid (DRow.nil _ _), Lib.hid (fun e he => by simp at he), Lib.hid rfl, Lib.hid (Below.refl _ _)⟩
  case round =>
    obtain ⟨j, T, sm, hj, rfl, hTj, rfl, HSM, HO, HY, HP, HB⟩ := hrel
    have HTJ := Lib.hid hTj
    clear hTj
    by_cases hjn : j < n
    · obtain ⟨p, o, rfl, hp, y0⟩ := (HT.out.keep HB.out).at_ j hjn
      have HPR := Lib.hid (rparse10_any (l.getD j []) wr (HSZ.out _ (getD_in (by rw [HL.out]; exact hjn))))
      have HK1 := Lib.hid (fun t => parse_take (l := l) (j := j) (r := trms T) (t := t) (by rw [HL.out]; exact hjn) HP.out)
      have HK2 := Lib.hid (parse_stop (l := l) (j := j) (r := trms T) (by rw [HL.out]; exact hjn) HP.out)
      generalize l.getD j [] = s at *
      have hlt : (j : Int) < (n : Int) := by omega
      go_wp2_with fail
      refine HPR.out.mono ?_
      rintro e w2 ⟨tm, er, rfl, t2, b2, ty2, ps⟩
      have HO2 := Lib.hid (HO.out.keep b2)
      have HY2 := Lib.hid (HY.out.keep b2)
      have HB2 := Lib.hid (HB.out.trans (b2.mono HB.out.size))
      have HT2 := Lib.hid t2
      have HTY2 := Lib.hid ty2
      clear HO HY HP HB t2 b2 ty2 HPR y0
      rcases ps with ⟨p1, rfl⟩ | ⟨p1, rfl, rfl⟩
      · have HP2 := Lib.hid (HK1.out _ p1)
        clear p1 HK1 HK2
        unfold tmV
        have hsz : (w2.alloc (Obj.cells #[.string (bs tm.name), .bool tm.neg, .slice tm.a tm.n tm.c] 30)).heap.size = w2.heap.size + 1 := by rw [World.alloc]; simp
        have HA1 := Lib.hid (show TmAt ((w2.alloc (Obj.cells #[.string (bs tm.name), .bool tm.neg, .slice tm.a tm.n tm.c] 30)).alloc (Obj.cells #[.string (bs tm.name), .bool tm.neg, .slice tm.a tm.n tm.c] 30)) (some ⟨w2.heap.size + 1, 0, none⟩) 1 1 [tm] by have := TmAt.oneDT (w2.alloc (Obj.cells #[.string (bs tm.name), .bool tm.neg, .slice tm.a tm.n tm.c] 30)) tm; rwa [hsz] at this)
        have BA := Lib.hid (((Below.refl w2.heap.size w2).alloc (Nat.le_refl _) (Obj.cells #[.string (bs tm.name), .bool tm.neg, .slice tm.a tm.n tm.c] 30)).alloc (by omega) (Obj.cells #[.string (bs tm.name), .bool tm.neg, .slice tm.a tm.n tm.c] 30))
        have HO3 := Lib.hid (HO2.out.keep BA.out)
        have HB3 := Lib.hid (HB2.out.trans (BA.out.mono HB2.out.size))
        have HY3 := Lib.hid ((HY2.out.snoc HT2.out HTY2.out).keep BA.out)
        have HNE := Lib.hid (fun (b : Nat) (cs : Array Value) (f : Nat × Nat) (h : ((w2.alloc (Obj.cells #[.string (bs tm.name), .bool tm.neg, .slice tm.a tm.n tm.c] 30)).alloc (Obj.cells #[.string (bs tm.name), .bool tm.neg, .slice tm.a tm.n tm.c] 30)).heap[b]? = some (Obj.cells cs 9 f)) => own_ne HO3.out (by decide) h)
        have HSN := Lib.hid (any_snoc (T := T) HT2.out)
        rw [HSM.out] at HSN
        have HPK := Lib.hid (show ∀ q, (sm || pickN tm) = q → (trms (T ++ [tm])).any pickT = q from fun q e => HSN.out.trans e)
        have hq0 : decide ((0 : Int) < (tm.n : Int)) = decide (0 < tm.n) := decide_eq_decide.2 (by omega)
        unfold pickN at HPK
        clear hsz BA HO2 HB2 HY2 HT2 HTY2 HSN HSM
        have HTJ2 := HTJ
        by_cases k1 : sm = true
        · subst k1
          have HPQ := Lib.hid (HPK.out true rfl)
          clear HPK hq0
          go_wp2_with (at_builtin; refine wpList_append_dt rfl _ _ rfl w.heap.size _ T rfl HO3.out (some ⟨w2.heap.size + 1, 0, none⟩) 1 1 [tm] rfl HA1.out (by have := HTJ.out; omega) HB3.out.size ?_)
          intro v5 w5 o5 g5
          have HB5 := Lib.hid (DRow.bel HB3.out HB3.out.size HO3.out (Nat.le_refl _) g5)
          have HO5 := Lib.hid o5
          have HY5 := Lib.hid (HY3.out.gr g5 HNE.out)
          clear o5 g5 HO3 HB3 HY3 HNE HA1
          go_wp2
          go_roundw
          case rel => exact ⟨j + 1, T ++ [tm], true, by omega, by go_num, by rw [List.length_append, HTJ.out]; rfl, rfl, HPQ, HO5, HY5, by rw [trms_app]; exact HP2, HB5⟩
          case measure => simp [intOf]; omega
        · have k2 : sm = false := by cases sm; rfl; exact absurd rfl k1
          subst k2
          clear k1
          cases hng : tm.neg
          · by_cases k3 : 0 < tm.n
            · have z3 : decide ((0 : Int) < (tm.n : Int)) = true := decide_eq_true (by omega)
              have HPQ := Lib.hid (HPK.out true (by rw [hng, decide_eq_true k3]; rfl))
              rw [hng] at HA1 HO3 HB3 HY3 HNE
              clear HPK hq0
              go_wp2_with (at_builtin; refine wpList_append_dt rfl _ _ rfl w.heap.size _ T rfl HO3.out (some ⟨w2.heap.size + 1, 0, none⟩) 1 1 [tm] rfl HA1.out (by have := HTJ.out; omega) HB3.out.size ?_)
              intro v5 w5 o5 g5
              have HB5 := Lib.hid (DRow.bel HB3.out HB3.out.size HO3.out (Nat.le_refl _) g5)
              have HO5 := Lib.hid o5
              have HY5 := Lib.hid (HY3.out.gr g5 HNE.out)
              clear o5 g5 HO3 HB3 HY3 HNE HA1
              go_wp2
              go_roundw
              case rel => exact ⟨j + 1, T ++ [tm], true, by omega, by go_num, by rw [List.length_append, HTJ.out]; rfl, rfl, HPQ, HO5, HY5, by rw [trms_app]; exact HP2, HB5⟩
              case measure => simp [intOf]; omega
            · have z3 : decide ((0 : Int) < (tm.n : Int)) = false := decide_eq_false (by omega)
              have HPQ := Lib.hid (HPK.out false (by rw [hng, decide_eq_false k3]; rfl))
              rw [hng] at HA1 HO3 HB3 HY3 HNE
              clear HPK hq0
              go_wp2_with (at_builtin; refine wpList_append_dt rfl _ _ rfl w.heap.size _ T rfl HO3.out (some ⟨w2.heap.size + 1, 0, none⟩) 1 1 [tm] rfl HA1.out (by have := HTJ.out; omega) HB3.out.size ?_)
              intro v5 w5 o5 g5
              have HB5 := Lib.hid (DRow.bel HB3.out HB3.out.size HO3.out (Nat.le_refl _) g5)
              have HO5 := Lib.hid o5
              have HY5 := Lib.hid (HY3.out.gr g5 HNE.out)
              clear o5 g5 HO3 HB3 HY3 HNE HA1
              go_wp2
              go_roundw
              case rel => exact ⟨j + 1, T ++ [tm], false, by omega, by go_num, by rw [List.length_append, HTJ.out]; rfl, rfl, HPQ, HO5, HY5, by rw [trms_app]; exact HP2, HB5⟩
              case measure => simp [intOf]; omega
          · have HPQ := Lib.hid (HPK.out false (by rw [hng]; rfl))
            rw [hng] at HA1 HO3 HB3 HY3 HNE
            clear HPK hq0
            go_wp2_with (at_builtin; refine wpList_append_dt rfl _ _ rfl w.heap.size _ T rfl HO3.out (some ⟨w2.heap.size + 1, 0, none⟩) 1 1 [tm] rfl HA1.out (by have := HTJ.out; omega) HB3.out.size ?_)
            intro v5 w5 o5 g5
            have HB5 := Lib.hid (DRow.bel HB3.out HB3.out.size HO3.out (Nat.le_refl _) g5)
            have HO5 := Lib.hid o5
            have HY5 := Lib.hid (HY3.out.gr g5 HNE.out)
            clear o5 g5 HO3 HB3 HY3 HNE HA1
            go_wp2
            go_roundw
            case rel => exact ⟨j + 1, T ++ [tm], false, by omega, by go_num, by rw [List.length_append, HTJ.out]; rfl, rfl, HPQ, HO5, HY5, by rw [trms_app]; exact HP2, HB5⟩
            case measure => simp [intOf]; omega
      · have HP2 := Lib.hid (HK2.out p1)
        have HN := Lib.hid (show readT l = none by unfold readT; rw [HP2.out]; split <;> rfl)
        clear p1 HK1 HK2
        unfold tmV zTm
        go_wp2
        go_ret2
        exact ⟨none, 0, 0, [], 4, rfl, TmAt.nil _ _ _, fun e he => by simp at he, HB2.out.trans (((Below.refl w2.heap.size w2).alloc (Nat.le_refl _) _).mono HB2.out.size), .inr ⟨HN.out, rfl, rfl⟩⟩
    · have HPL := Lib.hid (show parseAll l = some (trms T) by have := HP.out; rwa [List.take_of_length_le (by rw [HL.out]; omega)] at this)
      have hlt : ¬ (j : Int) < (n : Int) := by omega
      obtain ⟨a3, c3, rfl, t3⟩ := HO.out.shape
      have T3 := Lib.hid t3
      clear t3 HO HP
      obtain ⟨m, hm⟩ : ∃ m, T.length = m := ⟨_, rfl⟩
      rw [hm] at T3 ⊢
      clear hm
      by_cases h16 : 16 < n
      · have hz : decide ((16 : Int) < (n : Int)) = true := decide_eq_true (by omega)
        have HN := Lib.hid (show readT l = none from if_pos (by rw [HL.out]; exact h16))
        cases sm
        all_goals
          go_wp2
          go_ret2
          exact ⟨none, 0, 0, [], 4, rfl, TmAt.nil _ _ _, fun e he => by simp at he, HB.out, .inr ⟨HN.out, rfl, rfl⟩⟩
      · have hz : decide ((16 : Int) < (n : Int)) = false := decide_eq_false (by omega)
        have HRT := Lib.hid (show readT l = if sm then some (trms T) else none by unfold readT; rw [if_neg (by rw [HL.out]; exact h16), HPL.out, ← HSM.out])
        cases sm
        · go_wp2
          go_ret2
          exact ⟨none, 0, 0, [], 4, rfl, TmAt.nil _ _ _, fun e he => by simp at he, HB.out, .inr ⟨HRT.out, rfl, rfl⟩⟩
        · go_wp2
          go_ret2
          exact ⟨a3, m, c3, T, 0, rfl, T3.out, HY.out, HB.out, .inl ⟨HRT.out, rfl⟩⟩
end Go.Proofs.YtifjbbiphekmmaaGreatDoor
namespace Go.Proofs.YtifjbbiphekmmaaGreatDoor
namespace filterReads
open Go.ChangeShapes Go.WideShapes Go.ChangeAt Go.RowKit
open Go.ChangeMaps (open_string shut_string)
set_option linter.unusedVariables false
set_option linter.unusedSimpArgs false

theorem own : ownKnob Tryz.prog.godebug = none := by kernel_rfl

theorem par_two {s : Tx} {t t' : TmT} {e e' : Int} (h : ParS s t e) (h' : ParS s t' e') : t.trm = t'.trm ∧ e = e' := by
  rcases h with ⟨h1, h2⟩ | ⟨h1, h2, h3⟩ <;> rcases h' with ⟨k1, k2⟩ | ⟨k1, k2, k3⟩
  · rw [h1] at k1; exact ⟨Option.some.inj k1, h2.trans k2.symm⟩
  · rw [h1] at k1; cases k1
  · rw [h1] at k1; cases k1
  · rw [h2, k2]; exact ⟨rfl, h3.trans k3.symm⟩
theorem all_two {l : List Tx} {t t' : List Trm} {e e' : Int} (h : AllS l t e) (h' : AllS l t' e') : t = t' ∧ e = e' := by
  rcases h with ⟨h1, h2⟩ | ⟨h1, h2, h3⟩ <;> rcases h' with ⟨k1, k2⟩ | ⟨k1, k2, k3⟩
  · rw [h1] at k1; exact ⟨Option.some.inj k1, h2.trans k2.symm⟩
  · rw [h1] at k1; cases k1
  · rw [h1] at k1; cases k1
  · rw [h2, k2]; exact ⟨rfl, h3.trans k3.symm⟩
theorem short_snocR {l : List Tx} {j : Nat} (h : j < l.length) (k : ∀ v ∈ l.take j, v.length ≤ 300) (h1 : (l.getD j []).length ≤ 300) : ∀ v ∈ l.take (j + 1), v.length ≤ 300 := by
  rw [List.take_succ_eq_append_getElem h]
  intro v hv
  rcases List.mem_append.1 hv with hv | hv
  · exact k v hv
  · rw [List.mem_singleton] at hv
    rw [hv, ← getD_get h]; exact h1

set_option maxRecDepth 100000 in
set_option maxHeartbeats 16000000 in
theorem walk (s0 : ByteArray) (a : Option Addr) (n c : Nat) (l : List Tx) (w : World) (hs : s0.size ≤ maxLen) (h : TxAt w a n c l) :
    Calls Tryz.prog 4 #[.string s0, .slice a n c] w fun e w' => e = .returned (.bool true) ∧ Below w.heap.size w w' := by
  obtain ⟨s, rfl⟩ : ∃ s, s0 = bs s := ⟨tx s0, (bs_tx s0).symm⟩
  have TL := Lib.hid h
  have HL := Lib.hid h.1
  have h63 := h.2.2.1
  clear h
  by_cases hn : s.length ≤ 300
  · have hz1 : ¬ (300 : Int) < ((bs s).size : Int) := by rw [bs_size]; omega
    have hz2 : ¬ 300 < (bs s).size := by rw [bs_size]; omega
    by_cases hl : n ≤ 30
    · have hy : ¬ (30 : Int) < (n : Int) := by omega
      go_enter Tryz.func4, Tryz.ntmps4
      go_wp2_with fail
      clear hz1 hz2 hy
      go_loopw [5] (fun i wr => ∃ j : Nat, j ≤ n ∧ i = .int .i64 (j : Int) ∧ Hid (∀ v ∈ l.take j, v.length ≤ 300) ∧ w = wr) (fun i _ => n - (intOf i).toNat)
      case atStart => exact ⟨0, by omega, rfl, Lib.hid (by simp), rfl⟩
      case round =>
        obtain ⟨j, hj, rfl, HT, rfl⟩ := hrel
        by_cases hjn : j < n
        · obtain ⟨p, o, rfl, hp, y0⟩ := TL.out.at_ j hjn
          have hlt : (j : Int) < (n : Int) := by omega
          by_cases hv : (l.getD j []).length ≤ 300
          · have HN := Lib.hid (short_snocR (by rw [HL.out]; exact hjn) HT.out hv)
            have hvz : ¬ (300 : Int) < ((bs (l.getD j [])).size : Int) := by rw [bs_size]; omega
            have hvn : ¬ 300 < (bs (l.getD j [])).size := by rw [bs_size]; omega
            clear hv HT
            generalize bs (l.getD j []) = v at *
            go_wp2
            go_roundw
            case rel => exact ⟨j + 1, by omega, by go_num, HN, by first | trivial | rfl⟩
            case measure => simp [intOf]; omega
          · have hvz : (300 : Int) < ((bs (l.getD j [])).size : Int) := by rw [bs_size]; omega
            have hvn : 300 < (bs (l.getD j [])).size := by rw [bs_size]; omega
            clear hv HT
            generalize bs (l.getD j []) = v at *
            go_wp2_with fail
            refine (known10_any _).mono ?_
            rintro e w9 ⟨rfl, b9⟩
            go_wp2
            go_ret
            exact ⟨rfl, b9⟩
        · obtain rfl : j = n := by omega
          have hlt : ¬ (j : Int) < (j : Int) := by omega
          have HV : Hid (∀ v ∈ l, v.length ≤ 300) := by rw [show j = l.length from HL.out.symm, List.take_length] at HT; exact HT
          clear HT hjn hj
          go_wp2_with fail
          clear hlt
          have B := Lib.hid (Below.refl w.heap.size w)
          refine (parse10_any s w (by omega)).mono ?_
          rintro e W1 ⟨⟨nm_p, ng_p, a_p, n_p, c_p, l_p⟩, er_p, rfl, tmo, br, _, ps⟩
          have Tp := Lib.hid tmo
          have PS_p := Lib.hid ps
          clear tmo ps
          replace B := Lib.hid (B.out.trans (br.mono B.out.size))
          replace TL := Lib.hid (TL.out.keep br)
          clear br
          unfold tmV
          simp only
          go_wp2_with fail
          have Tbp : Hid (BoxT 24 (W1.alloc (.cells #[.string (bs nm_p), .bool ng_p, .slice a_p n_p c_p] 24)) W1.heap.size ⟨nm_p, ng_p, a_p, n_p, c_p, l_p⟩) := Lib.hid (heap_new W1 _)
          have br := (Below.refl W1.heap.size W1).alloc (Nat.le_refl _) (.cells #[.string (bs nm_p), .bool ng_p, .slice a_p n_p c_p] 24)
          replace B := Lib.hid (B.out.trans (br.mono B.out.size))
          replace TL := Lib.hid (TL.out.keep br)
          replace Tp := Lib.hid (Tp.out.keep br)
          clear br
          generalize W1.alloc (.cells #[.string (bs nm_p), .bool ng_p, .slice a_p n_p c_p] 24) = W2 at *
          generalize W1.heap.size = b_bp at Tbp ⊢
          refine (rparse10_any s W2 (by omega)).mono ?_
          rintro e W3 ⟨⟨nm_q, ng_q, a_q, n_q, c_q, l_q⟩, er_q, rfl, tmo, br, _, ps⟩
          have Tq := Lib.hid tmo
          have PS_q := Lib.hid ps
          clear tmo ps
          replace B := Lib.hid (B.out.trans (br.mono B.out.size))
          replace TL := Lib.hid (TL.out.keep br)
          replace Tp := Lib.hid (Tp.out.keep br)
          replace Tbp := Lib.hid (Tbp.out.keep br)
          clear br
          unfold tmV
          simp only
          go_wp2_with fail
          have Tbq : Hid (BoxT 30 (W3.alloc (.cells #[.string (bs nm_q), .bool ng_q, .slice a_q n_q c_q] 30)) W3.heap.size ⟨nm_q, ng_q, a_q, n_q, c_q, l_q⟩) := Lib.hid (heap_new W3 _)
          have br := (Below.refl W3.heap.size W3).alloc (Nat.le_refl _) (.cells #[.string (bs nm_q), .bool ng_q, .slice a_q n_q c_q] 30)
          replace B := Lib.hid (B.out.trans (br.mono B.out.size))
          replace TL := Lib.hid (TL.out.keep br)
          replace Tp := Lib.hid (Tp.out.keep br)
          replace Tbp := Lib.hid (Tbp.out.keep br)
          replace Tq := Lib.hid (Tq.out.keep br)
          clear br
          generalize W3.alloc (.cells #[.string (bs nm_q), .bool ng_q, .slice a_q n_q c_q] 30) = W4 at *
          generalize W3.heap.size = b_bq at Tbq ⊢
          refine (all10_any a j c l W4 TL.out (fun v hv => by have := HV.out v hv; omega)).mono ?_
          rintro e W5 ⟨a_x, n_x, c_x, L_x, er_x, rfl, t0, to, br, ps⟩
          have Tx : Hid (TmsAt W5 a_x n_x c_x L_x) := Lib.hid ⟨t0, fun e he => (to e he).1⟩
          have PS_x := Lib.hid ps
          clear t0 to ps
          replace B := Lib.hid (B.out.trans (br.mono B.out.size))
          replace TL := Lib.hid (TL.out.keep br)
          replace Tp := Lib.hid (Tp.out.keep br)
          replace Tbp := Lib.hid (Tbp.out.keep br)
          replace Tq := Lib.hid (Tq.out.keep br)
          replace Tbq := Lib.hid (Tbq.out.keep br)
          clear br
          go_wp2_with fail
          refine (rall10_any a j c l W5 TL.out (fun v hv => by have := HV.out v hv; omega) (by omega)).mono ?_
          rintro e W6 ⟨a_y, n_y, c_y, L_y, er_y, rfl, t0, to, br, ps⟩
          have Ty : Hid (TmsAt W6 a_y n_y c_y L_y) := Lib.hid ⟨t0, fun e he => (to e he).1⟩
          have PS_y := Lib.hid ps
          clear t0 to ps
          replace B := Lib.hid (B.out.trans (br.mono B.out.size))
          replace TL := Lib.hid (TL.out.keep br)
          replace Tp := Lib.hid (Tp.out.keep br)
          replace Tbp := Lib.hid (Tbp.out.keep br)
          replace Tq := Lib.hid (Tq.out.keep br)
          replace Tbq := Lib.hid (Tbq.out.keep br)
          replace Tx := Lib.hid (Tx.out.keep br)
          clear br
          obtain ⟨hpq, hpe⟩ := par_two PS_p.out PS_q.out
          obtain ⟨hxy, hxe⟩ := all_two PS_x.out PS_y.out
          have HPQ := Lib.hid hpq
          have HXY := Lib.hid hxy
          obtain rfl : n_x = n_y := by have h1 := Tx.out.1.1; have h2 := Ty.out.1.1; have h3 := congrArg List.length hxy; rw [trms_len, trms_len] at h3; omega
          subst hpe hxe
          clear hpq hxy PS_p PS_q PS_x PS_y
          have HT3 := Lib.hid (show TmT.trm ⟨nm_p, ng_p, a_p, n_p, c_p, l_p⟩ = TmT.trm ⟨nm_q, ng_q, a_q, n_q, c_q, l_q⟩ from HPQ.out)
          have y0_bp := Tbp.out.x0
          have y1_bp := Tbp.out.x1
          have y2_bp := Tbp.out.x2
          simp only at y0_bp y1_bp y2_bp
          have y0_bq := Tbq.out.x0
          have y1_bq := Tbq.out.x1
          have y2_bq := Tbq.out.x2
          simp only at y0_bq y1_bq y2_bq
          go_wp2_with fail
          clear y0_bp y1_bp y2_bp
          clear y0_bq y1_bq y2_bq
          have HKS : Hid (∀ w' : World, Below W6.drew.heap.size W6.drew w' → w'.cell? ⟨b_bp, 0, none⟩ = some (.string (bs nm_p)) ∧ w'.cell? ⟨b_bp, 1, none⟩ = some (.bool ng_p) ∧ w'.cell? ⟨b_bp, 2, none⟩ = some (.slice a_p n_p c_p) ∧ w'.cell? ⟨b_bq, 0, none⟩ = some (.string (bs nm_q)) ∧ w'.cell? ⟨b_bq, 1, none⟩ = some (.bool ng_q) ∧ w'.cell? ⟨b_bq, 2, none⟩ = some (.slice a_q n_q c_q)) := Lib.hid (fun w' hb => ⟨((Tbp.out.keep (Drew.bel (w := W6) ⟨1, rfl⟩)).keep hb).x0, ((Tbp.out.keep (Drew.bel (w := W6) ⟨1, rfl⟩)).keep hb).x1, ((Tbp.out.keep (Drew.bel (w := W6) ⟨1, rfl⟩)).keep hb).x2, ((Tbq.out.keep (Drew.bel (w := W6) ⟨1, rfl⟩)).keep hb).x0, ((Tbq.out.keep (Drew.bel (w := W6) ⟨1, rfl⟩)).keep hb).x1, ((Tbq.out.keep (Drew.bel (w := W6) ⟨1, rfl⟩)).keep hb).x2⟩)
          have br := Drew.bel (w := W6) (w' := W6.drew) ⟨1, rfl⟩
          replace B := Lib.hid (B.out.trans (br.mono B.out.size))
          replace TL := Lib.hid (TL.out.keep br)
          replace Tp := Lib.hid (Tp.out.keep br)
          replace Tbp := Lib.hid (Tbp.out.keep br)
          replace Tq := Lib.hid (Tq.out.keep br)
          replace Tbq := Lib.hid (Tbq.out.keep br)
          replace Tx := Lib.hid (Tx.out.keep br)
          replace Ty := Lib.hid (Ty.out.keep br)
          clear br
          refine wp_region_held_drew (S := fun w' => w'.cell? ⟨b_bp, 0, none⟩ = some (.string (bs nm_p)) ∧ w'.cell? ⟨b_bp, 1, none⟩ = some (.bool ng_p) ∧ w'.cell? ⟨b_bp, 2, none⟩ = some (.slice a_p n_p c_p) ∧ w'.cell? ⟨b_bq, 0, none⟩ = some (.string (bs nm_q)) ∧ w'.cell? ⟨b_bq, 1, none⟩ = some (.bool ng_q) ∧ w'.cell? ⟨b_bq, 2, none⟩ = some (.slice a_q n_q c_q)) (by as_aux_lemma => kernel_rfl) ?_ (fun hHeld => ?_)
          · exact HKS.out _ (Below.refl _ _)
          generalize W6.drew = W7 at *
          have BR := Lib.hid (Below.refl W7.heap.size W7)
          refine op_take (i := 0) (v := ?_) rfl (by as_aux_lemma => kernel_rfl) (by as_aux_lemma => kernel_rfl) (by as_aux_lemma => kernel_rfl) (fun _ _ _ h => h) (Or.inl ⟨by rfl, ?_⟩) (by assumption) ?_
          rotate_left
          · (intro w hSw; (try dsimp only at hSw); go_simp) <;> (with_reducible rfl)
          try simp only [Act.put, List.setIfInBounds_toArray, List.set_cons_zero, List.set_cons_succ]
          refine op_take (i := 2) (v := ?_) rfl (by as_aux_lemma => kernel_rfl) (by as_aux_lemma => kernel_rfl) (by as_aux_lemma => kernel_rfl) (fun _ _ _ h => h) (Or.inl ⟨by rfl, ?_⟩) (by assumption) ?_
          rotate_left
          · (intro w hSw; (try dsimp only at hSw); go_simp) <;> (with_reducible rfl)
          try simp only [Act.put, List.setIfInBounds_toArray, List.set_cons_zero, List.set_cons_succ]
          refine op_one (i := 1) (by as_aux_lemma => kernel_rfl) rfl (fun K hK => ?_)
          go_simp
          have C := plain10_any ⟨nm_p, ng_p, a_p, n_p, c_p, l_p⟩ W7
          refine C.mono ?_
          clear C
          rintro e U1 ⟨rfl, br⟩
          unfold tmV
          simp only
          replace BR := Lib.hid (BR.out.trans (br.mono BR.out.size))
          clear br
          try go_wp2_with fail
          refine hK.out _ _ (HKS.out _ BR.out) (fun hHeld2 => ?_)
          clear hK K
          try clear hHeld
          have hHeld := hHeld2
          clear hHeld2
          try simp only [Act.put, List.setIfInBounds_toArray, List.set_cons_zero, List.set_cons_succ]
          refine op_one (i := 3) (by as_aux_lemma => kernel_rfl) rfl (fun K hK => ?_)
          go_simp
          have C := rsame10_any ⟨nm_p, ng_p, a_p, n_p, c_p, l_p⟩ ⟨nm_q, ng_q, a_q, n_q, c_q, l_q⟩ U1 (Tp.out.keep BR.out) (Tq.out.keep BR.out)
          rw [decide_eq_true HT3.out] at C
          refine C.mono ?_
          clear C
          rintro e U2 ⟨rfl, br⟩
          replace BR := Lib.hid (BR.out.trans (br.mono BR.out.size))
          clear br
          try go_wp2_with fail
          refine hK.out _ _ (HKS.out _ BR.out) (fun hHeld2 => ?_)
          clear hK K
          try clear hHeld
          have hHeld := hHeld2
          clear hHeld2
          try simp only [Act.put, List.setIfInBounds_toArray, List.set_cons_zero, List.set_cons_succ]
          refine op_take (i := 4) (v := ?_) rfl (by as_aux_lemma => kernel_rfl) (by as_aux_lemma => kernel_rfl) (by as_aux_lemma => kernel_rfl) (fun _ _ _ h => h) (Or.inl ⟨by rfl, ?_⟩) (by assumption) ?_
          rotate_left
          · (intro w hSw; (try dsimp only at hSw); go_simp) <;> (with_reducible rfl)
          try simp only [Act.put, List.setIfInBounds_toArray, List.set_cons_zero, List.set_cons_succ]
          refine op_take (i := 5) (v := ?_) rfl (by as_aux_lemma => kernel_rfl) (by as_aux_lemma => kernel_rfl) (by as_aux_lemma => kernel_rfl) (fun _ _ _ h => h) (Or.inl ⟨by rfl, ?_⟩) (by assumption) ?_
          rotate_left
          · (intro w hSw; (try dsimp only at hSw); go_simp) <;> (with_reducible rfl)
          try simp only [Act.put, List.setIfInBounds_toArray, List.set_cons_zero, List.set_cons_succ]
          refine op_take (i := 6) (v := ?_) rfl (by as_aux_lemma => kernel_rfl) (by as_aux_lemma => kernel_rfl) (by as_aux_lemma => kernel_rfl) (fun _ _ _ h => h) (Or.inl ⟨by rfl, ?_⟩) (by assumption) ?_
          rotate_left
          · (intro w hSw; (try dsimp only at hSw); go_simp) <;> (with_reducible rfl)
          try simp only [Act.put, List.setIfInBounds_toArray, List.set_cons_zero, List.set_cons_succ]
          refine op_take (i := 7) (v := ?_) rfl (by as_aux_lemma => kernel_rfl) (by as_aux_lemma => kernel_rfl) (by as_aux_lemma => kernel_rfl) (fun _ _ _ h => h) (Or.inl ⟨by rfl, ?_⟩) (by assumption) ?_
          rotate_left
          · (intro w hSw; (try dsimp only at hSw); go_simp) <;> (with_reducible rfl)
          try simp only [Act.put, List.setIfInBounds_toArray, List.set_cons_zero, List.set_cons_succ]
          refine op_take (i := 8) (v := ?_) rfl (by as_aux_lemma => kernel_rfl) (by as_aux_lemma => kernel_rfl) (by as_aux_lemma => kernel_rfl) (fun _ _ _ h => h) (Or.inl ⟨by rfl, ?_⟩) (by assumption) ?_
          rotate_left
          · (intro w hSw; (try dsimp only at hSw); go_simp) <;> (with_reducible rfl)
          try simp only [Act.put, List.setIfInBounds_toArray, List.set_cons_zero, List.set_cons_succ]
          refine op_take (i := 9) (v := ?_) rfl (by as_aux_lemma => kernel_rfl) (by as_aux_lemma => kernel_rfl) (by as_aux_lemma => kernel_rfl) (fun _ _ _ h => h) (Or.inl ⟨by rfl, ?_⟩) (by assumption) ?_
          rotate_left
          · (intro w hSw; (try dsimp only at hSw); go_simp) <;> (with_reducible rfl)
          try simp only [Act.put, List.setIfInBounds_toArray, List.set_cons_zero, List.set_cons_succ]
          refine op_take (i := 10) (v := ?_) rfl (by as_aux_lemma => kernel_rfl) (by as_aux_lemma => kernel_rfl) (by as_aux_lemma => kernel_rfl) (fun _ _ _ h => h) (Or.inl ⟨by rfl, ?_⟩) (by assumption) ?_
          rotate_left
          · (intro w hSw; (try dsimp only at hSw); go_simp) <;> (with_reducible rfl)
          try simp only [Act.put, List.setIfInBounds_toArray, List.set_cons_zero, List.set_cons_succ]
          refine op_take (i := 11) (v := ?_) rfl (by as_aux_lemma => kernel_rfl) (by as_aux_lemma => kernel_rfl) (by as_aux_lemma => kernel_rfl) (fun _ _ _ h => h) (Or.inl ⟨by rfl, ?_⟩) (by assumption) ?_
          rotate_left
          · (intro w hSw; (try dsimp only at hSw); go_simp) <;> (with_reducible rfl)
          try simp only [Act.put, List.setIfInBounds_toArray, List.set_cons_zero, List.set_cons_succ]
          refine op_take (i := 12) (v := ?_) rfl (by as_aux_lemma => kernel_rfl) (by as_aux_lemma => kernel_rfl) (by as_aux_lemma => kernel_rfl) (fun _ _ _ h => h) (Or.inl ⟨by rfl, ?_⟩) (by assumption) ?_
          rotate_left
          · (intro w hSw; (try dsimp only at hSw); go_simp) <;> (with_reducible rfl)
          try simp only [Act.put, List.setIfInBounds_toArray, List.set_cons_zero, List.set_cons_succ]
          as_aux_lemma =>
           refine op_take (i := 13) (v := ?_) rfl (by as_aux_lemma => kernel_rfl) (by as_aux_lemma => kernel_rfl) (by as_aux_lemma => kernel_rfl) (fun _ _ _ h => h) (Or.inl ⟨by rfl, ?_⟩) (by assumption) ?_
           rotate_left
           · (intro w hSw; (try dsimp only at hSw); go_simp) <;> (with_reducible rfl)
           try simp only [Act.put, List.setIfInBounds_toArray, List.set_cons_zero, List.set_cons_succ]
           refine op_take (i := 14) (v := ?_) rfl (by as_aux_lemma => kernel_rfl) (by as_aux_lemma => kernel_rfl) (by as_aux_lemma => kernel_rfl) (fun _ _ _ h => h) (Or.inl ⟨by rfl, ?_⟩) (by assumption) ?_
           rotate_left
           · (intro w hSw; (try dsimp only at hSw); go_simp) <;> (with_reducible rfl)
           try simp only [Act.put, List.setIfInBounds_toArray, List.set_cons_zero, List.set_cons_succ]
           refine op_take (i := 15) (v := ?_) rfl (by as_aux_lemma => kernel_rfl) (by as_aux_lemma => kernel_rfl) (by as_aux_lemma => kernel_rfl) (fun _ _ _ h => h) (Or.inl ⟨by rfl, ?_⟩) (by assumption) ?_
           rotate_left
           · (intro w hSw; (try dsimp only at hSw); go_simp) <;> (with_reducible rfl)
           try simp only [Act.put, List.setIfInBounds_toArray, List.set_cons_zero, List.set_cons_succ]
           refine op_take (i := 16) (v := ?_) rfl (by as_aux_lemma => kernel_rfl) (by as_aux_lemma => kernel_rfl) (by as_aux_lemma => kernel_rfl) (fun _ _ _ h => h) (Or.inl ⟨by rfl, ?_⟩) (by assumption) ?_
           rotate_left
           · (intro w hSw; (try dsimp only at hSw); go_simp) <;> (with_reducible rfl)
           try simp only [Act.put, List.setIfInBounds_toArray, List.set_cons_zero, List.set_cons_succ]
           refine op_take (i := 17) (v := ?_) rfl (by as_aux_lemma => kernel_rfl) (by as_aux_lemma => kernel_rfl) (by as_aux_lemma => kernel_rfl) (fun _ _ _ h => h) (Or.inl ⟨by rfl, ?_⟩) (by assumption) ?_
           rotate_left
           · (intro w hSw; (try dsimp only at hSw); go_simp) <;> (with_reducible rfl)
           try simp only [Act.put, List.setIfInBounds_toArray, List.set_cons_zero, List.set_cons_succ]
           refine op_take (i := 18) (v := ?_) rfl (by as_aux_lemma => kernel_rfl) (by as_aux_lemma => kernel_rfl) (by as_aux_lemma => kernel_rfl) (fun _ _ _ h => h) (Or.inl ⟨by rfl, ?_⟩) (by assumption) ?_
           rotate_left
           · (intro w hSw; (try dsimp only at hSw); go_simp) <;> (with_reducible rfl)
           try simp only [Act.put, List.setIfInBounds_toArray, List.set_cons_zero, List.set_cons_succ]
           refine op_take (i := 19) (v := ?_) rfl (by as_aux_lemma => kernel_rfl) (by as_aux_lemma => kernel_rfl) (by as_aux_lemma => kernel_rfl) (fun _ _ _ h => h) (Or.inl ⟨by rfl, ?_⟩) (by assumption) ?_
           rotate_left
           · (intro w hSw; (try dsimp only at hSw); go_simp) <;> (with_reducible rfl)
           try simp only [Act.put, List.setIfInBounds_toArray, List.set_cons_zero, List.set_cons_succ]
           refine op_take (i := 20) (v := ?_) rfl (by as_aux_lemma => kernel_rfl) (by as_aux_lemma => kernel_rfl) (by as_aux_lemma => kernel_rfl) (fun _ _ _ h => h) (Or.inl ⟨by rfl, ?_⟩) (by assumption) ?_
           rotate_left
           · (intro w hSw; (try dsimp only at hSw); go_simp) <;> (with_reducible rfl)
           try simp only [Act.put, List.setIfInBounds_toArray, List.set_cons_zero, List.set_cons_succ]
           refine op_take (i := 21) (v := ?_) rfl (by as_aux_lemma => kernel_rfl) (by as_aux_lemma => kernel_rfl) (by as_aux_lemma => kernel_rfl) (fun _ _ _ h => h) (Or.inl ⟨by rfl, ?_⟩) (by assumption) ?_
           rotate_left
           · (intro w hSw; (try dsimp only at hSw); go_simp) <;> (with_reducible rfl)
           try simp only [Act.put, List.setIfInBounds_toArray, List.set_cons_zero, List.set_cons_succ]
           refine wpAnyH_done (by as_aux_lemma => kernel_rfl) ?_ _
           clear HKS hHeld
           have br := BR.out
           clear TL
           clear Tp
           clear Tbp
           clear Tq
           clear Tbq
           replace B := Lib.hid (B.out.trans (br.mono B.out.size))
           replace Tx := Lib.hid (Tx.out.keep br)
           replace Ty := Lib.hid (Ty.out.keep br)
           clear br BR HT3 HPQ
           go_wp2_with fail
           have BW := Lib.hid (Below.refl U2.heap.size U2)
           have hx63 := Tx.out.1.2.2.1
           go_loopw [14] (fun i wr => ∃ j : Nat, j ≤ n_x ∧ i = .int .i64 (j : Int) ∧ Hid (Below U2.heap.size U2 wr)) (fun i _ => n_x - (intOf i).toNat)
           case atStart => exact ⟨0, by omega, rfl, BW⟩
           case round =>
             clear BW
             obtain ⟨k, hk, rfl, BW⟩ := hrel
             have B2 := Lib.hid (B.out.trans (BW.out.mono B.out.size))
             by_cases hkn : k < n_x
             · have hlt : (k : Int) < (n_x : Int) := by omega
               replace Tx := Lib.hid (Tx.out.keep BW.out)
               replace Ty := Lib.hid (Ty.out.keep BW.out)
               obtain ⟨bx, ox, rfl, hbx, x0, x1, x2⟩ := Tx.out.1.at_ k hkn
               obtain ⟨by', oy, rfl, hby, y0, y1, y2⟩ := Ty.out.1.at_ k hkn
               have TOX := Lib.hid (Tx.out.ok hkn)
               have TOY := Lib.hid (Ty.out.ok hkn)
               have HE : Hid ((tmT L_x k).trm = (tmT L_y k).trm) := Lib.hid (by
                 have h1 : k < (trms L_x).length := by rw [trms_len, Tx.out.1.1]; exact hkn
                 have h2 : k < (trms L_y).length := by rw [trms_len, Ty.out.1.1]; exact hkn
                 rw [← trms_at h1, ← trms_at h2]
                 exact List.getElem_of_eq HXY.out h1)
               clear HXY
               generalize tmT L_x k = ex at *
               generalize tmT L_y k = ey at *
               obtain ⟨nm_x, ng_x, a_x, m_x, c_x2, l_x⟩ := ex
               obtain ⟨nm_y, ng_y, a_y, m_y, c_y2, l_y⟩ := ey
               simp only at x0 x1 x2 y0 y1 y2
               have X0 := Lib.hid x0
               have X1 := Lib.hid x1
               have X2 := Lib.hid x2
               have Y0 := Lib.hid y0
               have Y1 := Lib.hid y1
               have Y2 := Lib.hid y2
               go_wp2_with fail
               clear x0 x1 x2 y0 y1 y2
               replace B := B2
               have BW0 := Lib.hid (BW.out.trans ((Drew.bel (w := wr) (w' := wr.drew) ⟨1, rfl⟩).mono BW.out.size))
               clear B2 BW
               have HKS : Hid (∀ w' : World, Below wr.drew.heap.size wr.drew w' → w'.cell? ⟨bx, ox + k * 3, none⟩ = some (.string (bs nm_x)) ∧ w'.cell? ⟨bx, ox + k * 3 + 1, none⟩ = some (.bool ng_x) ∧ w'.cell? ⟨bx, ox + k * 3 + 2, none⟩ = some (.slice a_x m_x c_x2) ∧ w'.cell? ⟨by', oy + k * 3, none⟩ = some (.string (bs nm_y)) ∧ w'.cell? ⟨by', oy + k * 3 + 1, none⟩ = some (.bool ng_y) ∧ w'.cell? ⟨by', oy + k * 3 + 2, none⟩ = some (.slice a_y m_y c_y2)) := Lib.hid (fun w' hb => ⟨(hb.cell (p := ⟨bx, ox + k * 3, none⟩) (Nat.lt_of_lt_of_le hbx ((Drew.bel (w := wr) ⟨1, rfl⟩)).size)).trans (((Drew.bel (w := wr) ⟨1, rfl⟩).cell (p := ⟨bx, ox + k * 3, none⟩) hbx).trans X0.out), (hb.cell (p := ⟨bx, ox + k * 3 + 1, none⟩) (Nat.lt_of_lt_of_le hbx ((Drew.bel (w := wr) ⟨1, rfl⟩)).size)).trans (((Drew.bel (w := wr) ⟨1, rfl⟩).cell (p := ⟨bx, ox + k * 3 + 1, none⟩) hbx).trans X1.out), (hb.cell (p := ⟨bx, ox + k * 3 + 2, none⟩) (Nat.lt_of_lt_of_le hbx ((Drew.bel (w := wr) ⟨1, rfl⟩)).size)).trans (((Drew.bel (w := wr) ⟨1, rfl⟩).cell (p := ⟨bx, ox + k * 3 + 2, none⟩) hbx).trans X2.out), (hb.cell (p := ⟨by', oy + k * 3, none⟩) (Nat.lt_of_lt_of_le hby ((Drew.bel (w := wr) ⟨1, rfl⟩)).size)).trans (((Drew.bel (w := wr) ⟨1, rfl⟩).cell (p := ⟨by', oy + k * 3, none⟩) hby).trans Y0.out), (hb.cell (p := ⟨by', oy + k * 3 + 1, none⟩) (Nat.lt_of_lt_of_le hby ((Drew.bel (w := wr) ⟨1, rfl⟩)).size)).trans (((Drew.bel (w := wr) ⟨1, rfl⟩).cell (p := ⟨by', oy + k * 3 + 1, none⟩) hby).trans Y1.out), (hb.cell (p := ⟨by', oy + k * 3 + 2, none⟩) (Nat.lt_of_lt_of_le hby ((Drew.bel (w := wr) ⟨1, rfl⟩)).size)).trans (((Drew.bel (w := wr) ⟨1, rfl⟩).cell (p := ⟨by', oy + k * 3 + 2, none⟩) hby).trans Y2.out)⟩)
               have br := Drew.bel (w := wr) (w' := wr.drew) ⟨1, rfl⟩
               replace B := Lib.hid (B.out.trans (br.mono B.out.size))
               replace Tx := Lib.hid (Tx.out.keep br)
               replace Ty := Lib.hid (Ty.out.keep br)
               replace TOX := Lib.hid (TOX.out.keep br)
               replace TOY := Lib.hid (TOY.out.keep br)
               clear br
               refine wp_region_held_drew (S := fun w' => w'.cell? ⟨bx, ox + k * 3, none⟩ = some (.string (bs nm_x)) ∧ w'.cell? ⟨bx, ox + k * 3 + 1, none⟩ = some (.bool ng_x) ∧ w'.cell? ⟨bx, ox + k * 3 + 2, none⟩ = some (.slice a_x m_x c_x2) ∧ w'.cell? ⟨by', oy + k * 3, none⟩ = some (.string (bs nm_y)) ∧ w'.cell? ⟨by', oy + k * 3 + 1, none⟩ = some (.bool ng_y) ∧ w'.cell? ⟨by', oy + k * 3 + 2, none⟩ = some (.slice a_y m_y c_y2)) (by as_aux_lemma => kernel_rfl) ?_ (fun hHeld => ?_)
               · exact HKS.out _ (Below.refl _ _)
               generalize wr.drew = W8 at *
               have BR := Lib.hid (Below.refl W8.heap.size W8)
               skip
               refine op_take (i := 0) (v := ?_) rfl (by as_aux_lemma => kernel_rfl) (by as_aux_lemma => kernel_rfl) (by as_aux_lemma => kernel_rfl) (fun _ _ _ h => h) (Or.inl ⟨by rfl, ?_⟩) (by assumption) ?_
               rotate_left
               · (intro w hSw; (try dsimp only at hSw); go_simp) <;> (with_reducible rfl)
               try simp only [Act.put, List.setIfInBounds_toArray, List.set_cons_zero, List.set_cons_succ]
               refine op_take (i := 1) (v := ?_) rfl (by as_aux_lemma => kernel_rfl) (by as_aux_lemma => kernel_rfl) (by as_aux_lemma => kernel_rfl) (fun _ _ _ h => h) (Or.inl ⟨by rfl, ?_⟩) (by assumption) ?_
               rotate_left
               · (intro w hSw; (try dsimp only at hSw); go_simp) <;> (with_reducible rfl)
               try simp only [Act.put, List.setIfInBounds_toArray, List.set_cons_zero, List.set_cons_succ]
               refine op_take (i := 2) (v := ?_) rfl (by as_aux_lemma => kernel_rfl) (by as_aux_lemma => kernel_rfl) (by as_aux_lemma => kernel_rfl) (fun _ _ _ h => h) (Or.inl ⟨by rfl, ?_⟩) (by assumption) ?_
               rotate_left
               · (intro w hSw; (try dsimp only at hSw); go_simp) <;> (with_reducible rfl)
               try simp only [Act.put, List.setIfInBounds_toArray, List.set_cons_zero, List.set_cons_succ]
               refine op_take (i := 3) (v := ?_) rfl (by as_aux_lemma => kernel_rfl) (by as_aux_lemma => kernel_rfl) (by as_aux_lemma => kernel_rfl) (fun _ _ _ h => h) (Or.inl ⟨by rfl, ?_⟩) (by assumption) ?_
               rotate_left
               · (intro w hSw; (try dsimp only at hSw); go_simp) <;> (with_reducible rfl)
               try simp only [Act.put, List.setIfInBounds_toArray, List.set_cons_zero, List.set_cons_succ]
               refine op_take (i := 5) (v := ?_) rfl (by as_aux_lemma => kernel_rfl) (by as_aux_lemma => kernel_rfl) (by as_aux_lemma => kernel_rfl) (fun _ _ _ h => h) (Or.inl ⟨by rfl, ?_⟩) (by assumption) ?_
               rotate_left
               · (intro w hSw; (try dsimp only at hSw); go_simp) <;> (with_reducible rfl)
               try simp only [Act.put, List.setIfInBounds_toArray, List.set_cons_zero, List.set_cons_succ]
               refine op_take (i := 6) (v := ?_) rfl (by as_aux_lemma => kernel_rfl) (by as_aux_lemma => kernel_rfl) (by as_aux_lemma => kernel_rfl) (fun _ _ _ h => h) (Or.inl ⟨by rfl, ?_⟩) (by assumption) ?_
               rotate_left
               · (intro w hSw; (try dsimp only at hSw); go_simp) <;> (with_reducible rfl)
               try simp only [Act.put, List.setIfInBounds_toArray, List.set_cons_zero, List.set_cons_succ]
               refine op_take (i := 7) (v := ?_) rfl (by as_aux_lemma => kernel_rfl) (by as_aux_lemma => kernel_rfl) (by as_aux_lemma => kernel_rfl) (fun _ _ _ h => h) (Or.inl ⟨by rfl, ?_⟩) (by assumption) ?_
               rotate_left
               · (intro w hSw; (try dsimp only at hSw); go_simp) <;> (with_reducible rfl)
               try simp only [Act.put, List.setIfInBounds_toArray, List.set_cons_zero, List.set_cons_succ]
               refine op_take (i := 8) (v := ?_) rfl (by as_aux_lemma => kernel_rfl) (by as_aux_lemma => kernel_rfl) (by as_aux_lemma => kernel_rfl) (fun _ _ _ h => h) (Or.inl ⟨by rfl, ?_⟩) (by assumption) ?_
               rotate_left
               · (intro w hSw; (try dsimp only at hSw); go_simp) <;> (with_reducible rfl)
               try simp only [Act.put, List.setIfInBounds_toArray, List.set_cons_zero, List.set_cons_succ]
               refine op_one (i := 4) (by as_aux_lemma => kernel_rfl) rfl (fun K hK => ?_)
               go_simp
               have C := plain10_any ⟨nm_x, ng_x, a_x, m_x, c_x2, l_x⟩ W8
               refine C.mono ?_
               clear C
               rintro e U1 ⟨rfl, br⟩
               unfold tmV
               simp only
               replace BR := Lib.hid (BR.out.trans (br.mono BR.out.size))
               clear br
               try go_wp2_with fail
               refine hK.out _ _ (HKS.out _ BR.out) (fun hHeld2 => ?_)
               clear hK K
               try clear hHeld
               have hHeld := hHeld2
               clear hHeld2
               try simp only [Act.put, List.setIfInBounds_toArray, List.set_cons_zero, List.set_cons_succ]
               refine op_one (i := 9) (by as_aux_lemma => kernel_rfl) rfl (fun K hK => ?_)
               go_simp
               have C := rsame10_any ⟨nm_x, ng_x, a_x, m_x, c_x2, l_x⟩ ⟨nm_y, ng_y, a_y, m_y, c_y2, l_y⟩ U1 (TOX.out.keep BR.out) (TOY.out.keep BR.out)
               rw [decide_eq_true (show TmT.trm ⟨nm_x, ng_x, a_x, m_x, c_x2, l_x⟩ = TmT.trm ⟨nm_y, ng_y, a_y, m_y, c_y2, l_y⟩ from HE.out)] at C
               refine C.mono ?_
               clear C
               rintro e U2 ⟨rfl, br⟩
               replace BR := Lib.hid (BR.out.trans (br.mono BR.out.size))
               clear br
               try go_wp2_with fail
               refine hK.out _ _ (HKS.out _ BR.out) (fun hHeld2 => ?_)
               clear hK K
               try clear hHeld
               have hHeld := hHeld2
               clear hHeld2
               try simp only [Act.put, List.setIfInBounds_toArray, List.set_cons_zero, List.set_cons_succ]
               refine op_take (i := 10) (v := ?_) rfl (by as_aux_lemma => kernel_rfl) (by as_aux_lemma => kernel_rfl) (by as_aux_lemma => kernel_rfl) (fun _ _ _ h => h) (Or.inl ⟨by rfl, ?_⟩) (by assumption) ?_
               rotate_left
               · (intro w hSw; (try dsimp only at hSw); go_simp) <;> (with_reducible rfl)
               try simp only [Act.put, List.setIfInBounds_toArray, List.set_cons_zero, List.set_cons_succ]
               refine wpAnyH_done (by as_aux_lemma => kernel_rfl) ?_ _
               have BN := Lib.hid (BW0.out.trans (BR.out.mono BW0.out.size))
               clear HKS hHeld
               go_wp2
               go_roundw
               case rel => exact ⟨k + 1, by omega, by go_num, BN⟩
               case measure => simp [intOf]; omega
             · have hlt : ¬ (k : Int) < (n_x : Int) := by omega
               go_wp2_with fail
               refine (known10_any _).mono ?_
               rintro e w9 ⟨rfl, b9⟩
               go_wp2
               go_ret
               exact ⟨rfl, B2.out.trans (b9.mono B2.out.size)⟩
    · have hy : (30 : Int) < (n : Int) := by omega
      go_enter Tryz.func4, Tryz.ntmps4
      go_wp2_with fail
      refine (known10_any _).mono ?_
      rintro e w9 ⟨rfl, b9⟩
      go_wp2
      go_ret
      exact ⟨rfl, b9⟩
  · have hz1 : (300 : Int) < ((bs s).size : Int) := by rw [bs_size]; omega
    have hz2 : 300 < (bs s).size := by rw [bs_size]; omega
    go_enter Tryz.func4, Tryz.ntmps4
    go_wp2_with fail
    refine (known10_any _).mono ?_
    rintro e w9 ⟨rfl, b9⟩
    go_wp2
    go_ret
    exact ⟨rfl, b9⟩
set_option maxRecDepth 100000 in
theorem lifted (os : Os) (started : os.Started) (H : Type) (enc : TypeId × Value → H) :
    ReturnsInHanded {} Tryz.checked os 4 .any (fun w args => (Rows.filterReadsSpec.pre enc Tryz.prog Tryz.f4 [] false w args ∧ laidMetH Tryz.prog laidL w) ∧ sizedMet enc Tryz.prog Tryz.f4 (OpenSpec.ofChange Rows.filterReadsSpec) false w args)
      (Rows.filterReadsSpec.post enc Tryz.prog Tryz.f4 false true false false) := by
  refine returnsInHanded_of_change_and (C := Tryz.checked) (X := fun w _ => laidMetH Tryz.prog laidL w) (fun _ _ _ hh h => h.of_heap hh) own started (by kernel_rfl) Tryz.func4
    (ChangeSpec.witness_shaped (enc := enc) (C := Tryz.checked) (os := os) (X := fun w _ => laidMetH Tryz.prog laidL w) false (World.laidAll Tryz.prog os laidL) #[.string ByteArray.empty, .slice none 0 0] 8 (World.laidAll_os _ _ _) (door_shape os _) (by kernel_rfl) (by kernel_rfl) (by kernel_rfl) (door_met os _)) ?_
  intro W base args ds gs before hval0 hW _ _ hL _
  have hval : ∀ (j : Nat) t v, Tryz.f4.params[j]? = some t → args[j]? = some v → Value.okWide Tryz.prog W .any base t v := hval0
  have hW' := hW
  obtain ⟨p, q, hA0, hV, rfl, hfz, hnd⟩ := hW
  have hA : DataW.TrodAll enc Tryz.prog W 0 (fun _ => true) true Tryz.f4.params.toList args.toList ds p := hA0
  rw [Tryz.params4] at hA hval
  obtain ⟨v0, vs0, d0, ds0, p0, q0, hargs, rfl, rfl, h0, r0⟩ := trodAll_cons hA
  obtain ⟨v1, vs1, d1, ds1, p1, q1, rfl, rfl, rfl, h1, r1⟩ := trodAll_cons r0
  obtain ⟨rfl, rfl, rfl⟩ := trodAll_nil r1
  obtain rfl : args = #[v0, v1] := by cases args; simp_all
  obtain ⟨rfl, rfl⟩ := trodVars_none hV
  obtain ⟨a0, rfl, rfl, rfl, w0⟩ := open_string Tryz.underlying9 (hval 0 9 v0 rfl rfl) h0
  obtain ⟨a1, len1, cap1, rfl⟩ := okWide_slice Tryz.underlying22 (hval 1 22 v1 rfl rfl)
  have k1 := h1
  have lt1 : ∀ x ∈ p1, x.block < W.heap.size := by obtain ⟨m, hm⟩ := k1; exact DataW.trod_lt m _ _ _ hm
  obtain ⟨z1, w1⟩ := open_strs10 h1
  clear hA0 hval0
  refine (walk a0 a1 len1 cap1 z1 W w0 w1).mono fun e W' ⟨he, bel⟩ => ?_
  subst he
  exact ⟨_, rfl, _, _, _, [], _, [], hW', trodAll_mk1 (shut_bool Tryz.underlying4 _), (trodAll_cons_mk (shut_string Tryz.underlying9 w0) (trodAll_cons_mk (Below.trod laidOut (by kernel_rfl) (of_decide_eq_true (by kernel_rfl)) k1 bel lt1) trodAll_mk0)), rfl, bel.frame _, fun h => by cases h⟩

theorem over : Rows.filterReadsRow.holds Tryz.pinned (OpenSpec.ofChange Rows.filterReadsSpec) :=
  OpenClaim.holds_of_wide 4 Tryz.f4 rfl rfl rfl rfl rfl rfl rfl ⟨rfl, rfl, rfl, rfl, rfl⟩ rfl rfl rfl rfl rfl (by kernel_rfl) Tryz.func4 (by kernel_rfl)
    (of_decide_eq_true (by kernel_rfl)) (by unfold Func.isWrapper; first | (rw [if_pos (by decide +kernel)]; kernel_rfl) | (rw [if_neg (by decide +kernel)]; exact ⟨rfl, rfl⟩))
    (fun os started H enc _ => lifted os started H enc)

theorem proved : Rows.FilterReadsCardSaid :=
  Claim7.holds_tied_plain_at .later [] Rows.filterReadsCard.laidKinds true Rows.filterReadsCard.stood.harness false
    over (fun _ h => by cases h) (by kernel_rfl) (fun _ h => by cases h) filterReads_row_tie rfl ⟨rfl, rfl⟩ (by kernel_rfl) rfl
    (fun f fn hf hfn => by
      obtain rfl : f = 4 := Option.some.inj ((show Tryz.prog.funcNamed "tachograph/tachographlaw10.FilterReads" = some 4 by kernel_rfl).symm.trans hf) |>.symm
      obtain rfl : fn = Tryz.f4 := (Option.some.inj (Tryz.func4.symm.trans hfn)).symm
      exact ⟨by kernel_rfl, fun j t ht => by
        rw [Tryz.params4] at ht
        have hm : t ∈ [9, 22] := by simpa using Array.mem_of_getElem? ht
        have hall : ([9, 22].all fun u => !Tryz.prog.wantsStandIn u) = true := by kernel_rfl
        exact (show Tryz.prog.wantsStandIn t = false by simpa using List.all_eq_true.1 hall t hm)⟩)
    (by kernel_rfl)
end filterReads
theorem filterReads_holds : Rows.FilterReadsCardSaid := filterReads.proved
#print axioms filterReads_holds
end Go.Proofs.YtifjbbiphekmmaaGreatDoor
