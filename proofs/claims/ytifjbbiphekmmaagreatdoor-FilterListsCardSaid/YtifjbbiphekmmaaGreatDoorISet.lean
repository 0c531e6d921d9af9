/-
  Contracts of the index's Set, Labels.
-/
import Derived.Test.YtifjbbiphekmmaaGreatDoorIDrop
import Derived.Test.YtifjbbiphekmmaaGreatDoorIRight
import Derived.Test.YtifjbbiphekmmaaGreatDoorISort
namespace Go.Proofs.YtifjbbiphekmmaaGreatDoor
open Go.RowKit
set_option linter.unusedVariables false
set_option linter.unusedSimpArgs false

set_option maxRecDepth 100000 in
set_option maxHeartbeats 2000000 in
theorem iset_ok (w : World) (x bl bn : Nat) (ρ : Rho) (E : List Ent) (key : Tx) (a : Option Addr) (n c : Nat) (l : List Lb) (h : IxAt w x bl bn ρ E) (hl : LbAt w a n c l) :
    Calls Tryz.prog 34 #[.pointer (some ⟨x, 0, none⟩), .string (bs key), .slice a n c] w fun e w' => e = .returned (.int .i64 (if okE key l then 0 else 1)) ∧ ∃ ρ', IxTurn w w' x bl bn ρ ρ' (stepE key l E) := by
  have HX := Lib.hid h
  have HL := Lib.hid hl
  have HK := Lib.hid (key_any key w)
  clear h hl
  by_cases k1 : keyB key
  · rw [decide_eq_true k1] at HK
    have HR := Lib.hid (right9_any a n c l w HL.out)
    by_cases k2 : rightL l
    · rw [decide_eq_true k2] at HR
      have hok : okE key l := ⟨k1, k2⟩
      have hst : stepE key l E = insG (key, srt l) (dels E key) := by unfold stepE; rw [if_pos hok]; rfl
      rw [if_pos hok, hst]
      have hn8 : n ≤ 1000 := by have := k2.1; rw [HL.out.1] at this; omega
      have HK1 := Lib.hid k1
      have HK2 := Lib.hid k2
      clear k1 k2 hok hst
      go_enter Tryz.func34, Tryz.ntmps34
      go_wp2_with fail
      refine (isNone_no w x bl bn HX.out.cell).mono ?_
      rintro e w' ⟨rfl, rfl⟩
      go_wp2_with fail
      refine HK.out.mono ?_
      rintro e w' ⟨rfl, rfl⟩
      go_wp2_with fail
      refine HR.out.mono ?_
      rintro e w1 ⟨rfl, b1⟩
      have B1 := Lib.hid b1
      have X1 := Lib.hid (HX.out.keep b1)
      clear b1
      go_wp2_with fail
      refine (idrop_ok w1 x bl bn ρ E key X1.out).mono ?_
      rintro e w2 ⟨rfl, t2⟩
      have T2 := Lib.hid t2
      have L2 := Lib.hid ((HL.out.keep B1.out).trn t2.trn)
      clear t2 X1
      go_wp2_with fail
      refine (sorted9_any a n c l w2 L2.out hn8 HK2.out.2.2).mono ?_
      rintro e w3 ⟨a', c', rfl, l3, b3⟩
      have L3 := Lib.hid l3
      have T3 := Lib.hid (T2.out.thenB b3)
      clear l3 b3 T2 L2
      go_wp2_with fail
      refine (iput_ok w3 x bl bn ρ (dels E key) key a' n c' (srt l) T3.out.ix (dels_not E key) HK1.out (right_srt HK2.out) (srt_ss HK2.out.2.2) L3.out).mono ?_
      rintro e w4 ⟨rfl, ρ', t4⟩
      have T4 := Lib.hid (IxTurn.pre B1.out (T3.out.trans t4))
      clear t4 T3 L3
      go_wp2
      go_ret
      exact ⟨rfl, ρ', T4.out⟩
    · rw [decide_eq_false k2] at HR
      have hok : ¬ okE key l := fun h => k2 h.2
      rw [if_neg hok, show stepE key l E = E from if_neg hok]
      clear k1 k2 hok
      go_enter Tryz.func34, Tryz.ntmps34
      go_wp2_with fail
      refine (isNone_no w x bl bn HX.out.cell).mono ?_
      rintro e w' ⟨rfl, rfl⟩
      go_wp2_with fail
      refine HK.out.mono ?_
      rintro e w' ⟨rfl, rfl⟩
      go_wp2_with fail
      refine HR.out.mono ?_
      rintro e w1 ⟨rfl, b1⟩
      go_wp2
      go_ret
      exact ⟨rfl, ρ, HX.out.keep b1, .refl _ _, .of b1⟩
  · rw [decide_eq_false k1] at HK
    have hok : ¬ okE key l := fun h => k1 h.1
    rw [if_neg hok, show stepE key l E = E from if_neg hok]
    clear k1 hok
    go_enter Tryz.func34, Tryz.ntmps34
    go_wp2_with fail
    refine (isNone_no w x bl bn HX.out.cell).mono ?_
    rintro e w' ⟨rfl, rfl⟩
    go_wp2_with fail
    refine HK.out.mono ?_
    rintro e w' ⟨rfl, rfl⟩
    go_wp2
    go_ret
    exact ⟨rfl, ρ, HX.out, .refl _ _, .refl _ _⟩
theorem iset_nil (w : World) (s : ByteArray) (a : Option Addr) (n c : Nat) :
    Calls Tryz.prog 34 #[.pointer none, .string s, .slice a n c] w fun e w' => e = .returned (.int .i64 11) ∧ w = w' := by
  go_enter Tryz.func34, Tryz.ntmps34
  go_wp2_with fail
  refine (isNone_nil w).mono ?_
  rintro e w' ⟨rfl, rfl⟩
  go_wp2
  go_ret
  exact ⟨rfl, rfl⟩

/-- A slice of labels is answered; what was there is as it was. -/
def MadeL (w : World) (l : List Lb) (e : Ending) (w' : World) : Prop := ∃ a c, e = .returned (.slice a l.length c) ∧ LbAt w' a l.length c l ∧ Below w.heap.size w w'
set_option maxRecDepth 100000 in
set_option maxHeartbeats 2000000 in
theorem ilabels_ok (w : World) (x bl bn : Nat) (ρ : Rho) (E : List Ent) (key : Tx) (h : IxAt w x bl bn ρ E) :
    Calls Tryz.prog 31 #[.pointer (some ⟨x, 0, none⟩), .string (bs key)] w (MadeL w ((look E key).getD [])) := by
  obtain ⟨hc, rl, rn, ⟨T, t1, t2, t3⟩, hn, hok, hg⟩ := h
  obtain ⟨a, c, m, hlk, hv, hm⟩ : ∃ a c m, (look (T.map mpV) key).getD (.slice none 0 0) = .slice a m c ∧ LbAt w a m c ((look E key).getD []) ∧ m ≤ 8 := by
    by_cases hk : key ∈ keysL E
    · obtain ⟨p, hp, rfl⟩ := List.mem_map.1 hk
      have hp' : (p.1, p.2) ∈ E := hp
      obtain ⟨v, hlv, a, c, rfl, hl⟩ := LabsAt.look_hit t1.nodup t2 t3 hp'
      rw [hlv, mem_look (ssG_nodup hg.ss) hp']
      exact ⟨a, c, p.2.length, rfl, hl, (hg.right _ hp').1⟩
    · rw [LabsAt.look_miss t2 hk, look_none.2 hk]
      exact ⟨none, 0, 0, rfl, LbAt.nil w none 0, by omega⟩
  have HV := Lib.hid hv
  have HC := Lib.hid hc
  have H1 := Lib.hid t1
  have c0 := hc.c0
  clear t1 t2 t3 hn hok hg hc hv rl rn
  generalize (look E key).getD [] = l at *
  go_enter Tryz.func31, Tryz.ntmps31
  go_wp2_with fail
  refine (isNone_no w x bl bn HC.out).mono ?_
  rintro e w' ⟨rfl, rfl⟩
  go_wp2_with (first
    | (at_lookup; refine wpList_lookup_m _ rfl _ _ 93 rfl 9 25 Tryz.underlying93 Tryz.underlying9 _ (Tryz.zeroValue25 _) bl _ rfl H1.out key _ rfl rfl _ hlk ?_))
  refine (lclone_any a m c l w HV.out (by omega)).mono ?_
  rintro e w1 ⟨v, rfl, R1, b1⟩
  obtain ⟨a1, c1, rfl, l1⟩ := R1.shape
  have L1 := Lib.hid l1
  have B1 := Lib.hid b1
  clear R1 l1 b1
  generalize l.length = q at *
  go_wp2
  go_ret
  exact ⟨a1, c1, by rw [L1.out.1]; rfl, by rw [L1.out.1]; exact L1.out, B1.out⟩
theorem ilabels_nil (w : World) (s : ByteArray) : Calls Tryz.prog 31 #[.pointer none, .string s] w fun e w' => e = .returned (.slice none 0 0) ∧ w = w' := by
  go_enter Tryz.func31, Tryz.ntmps31
  go_wp2_with fail
  refine (isNone_nil w).mono ?_
  rintro e w' ⟨rfl, rfl⟩
  go_wp2
  go_ret
  exact ⟨rfl, rfl⟩

end Go.Proofs.YtifjbbiphekmmaaGreatDoor
