/-
  Contracts of series.trim, Alter, Add.
-/
import Derived.Test.YtpbhdlhbcfkhfaaGreatSDel
namespace Go.Proofs.YtpbhdlhbcfkhfaaGreat
open Go.RowKit
set_option linter.unusedVariables false
set_option linter.unusedSimpArgs false

theorem SMem.turn {w w' : World} {b : Nat} {sz ret pol mx line ret' pol' mx' line' : Int} {L : List (Nat × List (Int × Int))} (h : SMem w b sz ret pol mx line L) (g : w.grownBy w' (some b)) (hc : ∀ v, SCell w b sz ret pol mx line v → SCell w' b sz ret' pol' mx' line' v) : SMem w' b sz ret' pol' mx' line' L := by
  obtain ⟨a, cap, h1, h2, h3⟩ := h
  refine ⟨a, cap, hc _ h1, h2.keep g (fun r hr => by cases hr; exact h1.noPtr), fun x hx => ?_⟩
  have hx' := h3 x hx
  refine CAt.keep hx' g (fun e => ?_) h1.noSamp
  obtain ⟨a', cap', hc', _⟩ := hx'
  rw [e, show w.heap[b]? = _ from h1] at hc'
  simp at hc'
theorem SerAt.setLine {w : World} {b : Nat} {sz : Int} {s : Ser} (h : SerAt w b sz s) (v : Int) : SerAt (w.setCell ⟨b, 4, none⟩ (.int .i64 v)) b sz ⟨s.ret, s.pol, s.mx, v, s.z⟩ := by
  obtain ⟨L, h1, h2⟩ := h
  exact ⟨L, h1.turn (gb_set (gb_refl _ _) _ _) (fun u hu => heap_set (o := 4) (v := .int .i64 v) hu), h2⟩
theorem SerAt.setMax {w : World} {b : Nat} {sz : Int} {s : Ser} (h : SerAt w b sz s) (v : Int) : SerAt (w.setCell ⟨b, 3, none⟩ (.int .i64 v)) b sz ⟨s.ret, s.pol, v, s.line, s.z⟩ := by
  obtain ⟨L, h1, h2⟩ := h
  exact ⟨L, h1.turn (gb_set (gb_refl _ _) _ _) (fun u hu => heap_set (o := 3) (v := .int .i64 v) hu), h2⟩
theorem SerAt.setRet {w : World} {b : Nat} {sz : Int} {s : Ser} (h : SerAt w b sz s) (v : Int) : SerAt (w.setCell ⟨b, 1, none⟩ (.int .i64 v)) b sz ⟨v, s.pol, s.mx, s.line, s.z⟩ := by
  obtain ⟨L, h1, h2⟩ := h
  exact ⟨L, h1.turn (gb_set (gb_refl _ _) _ _) (fun u hu => heap_set (o := 1) (v := .int .i64 v) hu), h2⟩
theorem SerAt.setPol {w : World} {b : Nat} {sz : Int} {s : Ser} (h : SerAt w b sz s) (v : Int) : SerAt (w.setCell ⟨b, 2, none⟩ (.int .i64 v)) b sz ⟨s.ret, v, s.mx, s.line, s.z⟩ := by
  obtain ⟨L, h1, h2⟩ := h
  exact ⟨L, h1.turn (gb_set (gb_refl _ _) _ _) (fun u hu => heap_set (o := 2) (v := .int .i64 v) hu), h2⟩
def DoneP (b : Nat) (sz : Int) (s' : Ser) (w : World) (e : Ending) (w' : World) : Prop := (∃ v, e = .returned v) ∧ SerAt w' b sz s' ∧ w.grownBy w' (some b)

set_option maxRecDepth 100000 in
set_option maxHeartbeats 2000000 in
theorem trim_any (b : Nat) (sz : Int) (s : Ser) (w : World) (h : SerAt w b sz s) (hs : 128 ≤ sz) (hs2 : sz ≤ 4096) (hr : Rising s.z) (hn : s.z.length ≤ 100000)
    (r0 : 0 ≤ s.ret) (r1 : s.ret ≤ 1099511627776) (m0 : -1 ≤ s.mx) (m1 : s.mx < 1099511627776) (l0 : 0 ≤ s.line) (l1 : s.line < 1099511627776) :
    Calls Tryz.prog 24 #[.pointer (some ⟨b, 0, none⟩)] w (DoneP b sz (trimS s) w) := by
  have HS := Lib.hid h
  obtain ⟨v, hc⟩ := h.cell
  have HC := Lib.hid hc
  have c1 : w.cell? ⟨b, 1, none⟩ = some (.int .i64 s.ret) := by rw [cell_of hc]; rfl
  have c3 : w.cell? ⟨b, 3, none⟩ = some (.int .i64 s.mx) := by rw [cell_of hc]; rfl
  have c4 : w.cell? ⟨b, 4, none⟩ = some (.int .i64 s.line) := by rw [cell_of hc]; rfl
  have f4 := frozen_of (o := 4) hc
  have HR := Lib.hid hr
  clear h hc hr
  by_cases hret : 0 < s.ret
  · have hd : (s.mx - s.ret ≤ s.line ∧ lineS s = s.line) ∨ (¬ (s.mx - s.ret ≤ s.line) ∧ lineS s = s.mx - s.ret) := by unfold lineS; rw [if_pos hret]; omega
    have hwr : IntKind.i64.wrap (s.mx - s.ret) = s.mx - s.ret := IntWalk.i64_in _ ⟨by omega, by omega⟩
    rcases hd with ⟨hd, hl⟩ | ⟨hd, hl⟩
    all_goals
      have HL := Lib.hid hl
      clear hl
      go_enter Tryz.func24, Tryz.ntmps24
      go_wp2_with fail
      go_region
    all_goals
      have HL' := HL.out
      rw [← HL']
      have S1 : Hid (SerAt (w.setCell ⟨b, 4, none⟩ (.int .i64 (lineS s))).drew b sz ⟨s.ret, s.pol, s.mx, lineS s, s.z⟩) := Lib.hid (HS.out.setLine (lineS s))
      have G1 : Hid (w.grownBy (w.setCell ⟨b, 4, none⟩ (.int .i64 (lineS s))).drew (some b)) := Lib.hid (gb_drew (gb_set (gb_refl _ _) _ _))
      have l2 : 0 ≤ lineS s := by omega
      have l3 : lineS s < 1099511627776 := by omega
      clear HL' HL c1 c3 c4 f4 hd
      generalize (w.setCell ⟨b, 4, none⟩ (.int .i64 (lineS s))).drew = W1 at *
      obtain ⟨u1, hu1⟩ := S1.out.cell
      have c4 : W1.cell? ⟨b, 4, none⟩ = some (.int .i64 (lineS s)) := by rw [cell_of hu1]; rfl
      clear hu1
      have HT := Lib.hid (show trimS s = delS ⟨s.ret, s.pol, s.mx, lineS s, s.z⟩ 0 (lineS s - 1) from rfl)
      generalize lineS s = ln at *
      go_wp2_with fail
      refine (del_any b sz ⟨s.ret, s.pol, s.mx, ln, s.z⟩ 0 (ln - 1) W1 S1.out hs hs2 HR.out hn).mono ?_
      rintro e W2 ⟨rfl, S2, g2⟩
      have HS2 := Lib.hid S2
      have HG2 := Lib.hid (gb_trans G1.out g2)
      clear S2 g2
      generalize dropN (Ser.mk s.ret s.pol s.mx ln s.z).z 0 (ln - 1) = dn at *
      go_wp2
      go_end0
      exact ⟨⟨_, rfl⟩, by rw [HT.out]; exact HS2.out, HG2.out⟩
  · have HL := Lib.hid (show lineS s = s.line from by unfold lineS; rw [if_neg hret])
    have HT := Lib.hid (show trimS s = delS s 0 (s.line - 1) from by unfold trimS delS; rw [HL.out])
    go_enter Tryz.func24, Tryz.ntmps24
    go_wp2_with fail
    refine (del_any b sz s 0 (s.line - 1) w HS.out hs hs2 HR.out hn).mono ?_
    rintro e W2 ⟨rfl, S2, g2⟩
    have HS2 := Lib.hid S2
    have HG2 := Lib.hid g2
    clear S2 g2
    generalize dropN s.z 0 (s.line - 1) = dn at *
    go_wp2
    go_end0
    exact ⟨⟨_, rfl⟩, by rw [HT.out]; exact HS2.out, HG2.out⟩

set_option maxRecDepth 100000 in
set_option maxHeartbeats 2000000 in
theorem alter_any (b : Nat) (sz : Int) (s : Ser) (ret p : Int) (w : World) (h : SerAt w b sz s) (hS : Std s) (hs : 128 ≤ sz) (hs2 : sz ≤ 4096) (hn : s.z.length ≤ 100000) :
    Calls Tryz.prog 10 #[.pointer (some ⟨b, 0, none⟩), .int .i64 ret, .int .i64 p] w (PutP b sz (altE ret p) (altS s ret p) w) := by
  have HS := Lib.hid h
  obtain ⟨v, hc⟩ := h.cell
  have HC := Lib.hid hc
  have HST := Lib.hid hS
  clear h hc hS
  by_cases hk : keepB ret p
  · have HE := Lib.hid (show altE ret p = 0 from by unfold altE; rw [if_pos hk])
    have HA := Lib.hid (show altS s ret p = trimS ⟨ret, p, s.mx, s.line, s.z⟩ from by unfold altS; rw [if_pos hk])
    have HK := Lib.hid (decide_eq_true hk)
    obtain ⟨⟨k1, k2⟩, k3, k4⟩ := hk
    have c1 : w.cell? ⟨b, 1, none⟩ = some (.int .i64 s.ret) := by rw [cell_of HC.out]; rfl
    have c2 : w.cell? ⟨b, 2, none⟩ = some (.int .i64 s.pol) := by rw [cell_of HC.out]; rfl
    have f1 := frozen_of (o := 1) HC.out
    have f2 := frozen_of (o := 2) HC.out
    go_enter Tryz.func10, Tryz.ntmps10
    go_wp2_with fail
    refine (sNone_no b sz _ _ _ _ v w HC.out (by omega)).mono ?_
    rintro e w' ⟨rfl, rfl⟩
    go_wp2_with fail
    refine (canKeep_any ret p true w HK.out).mono ?_
    rintro e w' ⟨rfl, rfl⟩
    have S1 := Lib.hid ((HS.out.setRet ret).setPol p)
    have G1 := Lib.hid (gb_set (gb_set (gb_refl w (some b)) 1 (.int .i64 ret)) 2 (.int .i64 p))
    go_wp2_with fail
    generalize (w.setCell ⟨b, 1, none⟩ (.int .i64 ret)).setCell ⟨b, 2, none⟩ (.int .i64 p) = W1 at *
    have hst := HST.out
    have hm := hst.l1
    refine (trim_any b sz ⟨ret, p, s.mx, s.line, s.z⟩ W1 S1.out hs hs2 hst.rise hn k1 k2 hst.m0 hst.m1 hst.l0 (by have := hst.m1; show s.line < _; omega)).mono ?_
    rintro e W2 ⟨⟨u, rfl⟩, S2, g2⟩
    have HS2 := Lib.hid S2
    have HG2 := Lib.hid (gb_trans G1.out g2)
    clear S2 g2 hst hm
    go_wp2
    go_ret
    exact ⟨by rw [HE.out]; rfl, by rw [HA.out]; exact HS2.out, HG2.out⟩
  · have HE := Lib.hid (show altE ret p = 1 from by unfold altE; rw [if_neg hk])
    have HA := Lib.hid (show altS s ret p = s from by unfold altS; rw [if_neg hk])
    have HK := Lib.hid (decide_eq_false hk)
    clear hk
    go_enter Tryz.func10, Tryz.ntmps10
    go_wp2_with fail
    refine (sNone_no b sz _ _ _ _ v w HC.out (by omega)).mono ?_
    rintro e w' ⟨rfl, rfl⟩
    go_wp2_with fail
    refine (canKeep_any ret p false w HK.out).mono ?_
    rintro e w' ⟨rfl, rfl⟩
    go_wp2
    go_ret
    exact ⟨by rw [HE.out]; rfl, by rw [HA.out]; exact HS.out, gb_refl _ _⟩

end Go.Proofs.YtpbhdlhbcfkhfaaGreat
