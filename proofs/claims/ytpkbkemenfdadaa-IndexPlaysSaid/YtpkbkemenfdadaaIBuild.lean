/-
  Contract of law09's build.
-/
import Derived.Test.YtpkbkemenfdadaaILight
import Derived.Test.YtpkbkemenfdadaaIKnown
namespace Go.Proofs.Ytpkbkemenfdadaa
open Go.RowKit
set_option linter.unusedVariables false
set_option linter.unusedSimpArgs false

/-- An index that was made here: of few keys, and all of its own. -/
def BuiltX (w : World) (e : Ending) (w' : World) : Prop := ∃ x bl bn ρ E, e = .returned (.pointer (some ⟨x, 0, none⟩)) ∧ IxAt w' x bl bn ρ E ∧ E.length ≤ 40 ∧ Below w.heap.size w w' ∧ ∀ i, FA ρ i → w.heap.size ≤ i
/-- An index on the way: k keys at most, all of it above B. -/
structure OwnX (w0 w : World) (x bl bn : Nat) (ρ : Rho) (E : List Ent) (k : Nat) : Prop where
  ix : IxAt w x bl bn ρ E
  few : E.length ≤ k
  bel : Below w0.heap.size w0 w
  fa : ∀ i, FA ρ i → w0.heap.size ≤ i
theorem OwnX.turn {w0 w w' : World} {x bl bn : Nat} {ρ ρ' : Rho} {E E' : List Ent} {k k' : Nat} (h : OwnX w0 w x bl bn ρ E k) (t : IxTurn w w' x bl bn ρ ρ' E') (hk : E'.length ≤ k') : OwnX w0 w' x bl bn ρ' E' k' :=
  ⟨t.ix, hk, Trn.below h.bel h.bel.size t.trn (fun i hi f => absurd (h.fa i f) (by omega)), fa_turn h.fa t h.bel.size⟩
theorem OwnX.keep {w0 w w' : World} {x bl bn : Nat} {ρ : Rho} {E : List Ent} {k : Nat} (h : OwnX w0 w x bl bn ρ E k) (b : Below w.heap.size w w') : OwnX w0 w' x bl bn ρ E k :=
  ⟨h.ix.keep b, h.few, h.bel.trans (b.mono h.bel.size), h.fa⟩
theorem OwnX.more {w0 w : World} {x bl bn : Nat} {ρ : Rho} {E : List Ent} {k k' : Nat} (h : OwnX w0 w x bl bn ρ E k) (hk : k ≤ k') : OwnX w0 w x bl bn ρ E k' := ⟨h.ix, Nat.le_trans h.few hk, h.bel, h.fa⟩
theorem OwnX.drew {w0 w : World} {x bl bn : Nat} {ρ : Rho} {E : List Ent} {k : Nat} (h : OwnX w0 w x bl bn ρ E k) : OwnX w0 w.drew x bl bn ρ E k :=
  ⟨h.ix.trn (Trn.drew (fun _ => False) w) (fun _ _ _ f => f), h.few, bel_drew h.bel, h.fa⟩

set_option maxRecDepth 100000 in
set_option maxHeartbeats 4000000 in
theorem build9_any (a : Option Addr) (len cap : Nat) (z : List OpL) (w : World) (h : OpAt w a len cap z) :
    Calls Try.prog 33 #[.slice a len cap] w (BuiltX w) := by
  have hlz := h.1
  have hlm := h.2.2.1
  have HZ := Lib.hid h
  clear h
  go_enter Try.func33, Try.ntmps33
  go_wp2_with fail
  refine (new_any w).mono ?_
  rintro e w1 ⟨x, bl, bn, ρ, rfl, x1, b1, f1⟩
  have O1 : OwnX w w1 x bl bn ρ [] 0 := ⟨x1, by simp, b1, f1⟩
  clear x1 b1 f1
  go_wp2_with fail
  go_loopw [4] (fun vi wr => ∃ (j : Nat) (ρ' : Rho) (E : List Ent), vi = .int .i64 (j : Int) ∧ j ≤ len ∧ j ≤ 40 ∧ Hid (OwnX w wr x bl bn ρ' E j)) (fun vi _ => len - (intOf vi).toNat)
  case atStart => exact ⟨0, ρ, [], rfl, Nat.zero_le _, Nat.zero_le _, Lib.hid O1⟩
  case round =>
    obtain ⟨j, ρ', E, rfl, hj, hj40, HO⟩ := hrel
    clear O1
    by_cases hjn : j < len
    · have hjz : (j : Int) < (len : Int) := by omega
      have hj0 : (0 : Int) ≤ (j : Int) := by omega
      by_cases hjf : j < 40
      · have hjf' : (j : Int) < 40 := by omega
        have HZ1 := Lib.hid (HZ.out.keep HO.out.bel)
        obtain ⟨pb, po, a', n', c', hzz, e1, hpb, x0, x1, x2, hlq⟩ := HZ1.out.at_ j hjn
        subst e1
        have HL := Lib.hid hlq
        clear hlq HZ1
        generalize z[j] = q at *
        obtain ⟨qk, qs, ql⟩ := q
        have HLT := Lib.hid (light9_any ⟨qk, qs, ql⟩ a' n' c' wr HL.out)
        by_cases k1 : lightO ⟨qk, qs, ql⟩
        · rw [decide_eq_true k1] at HLT
          clear k1
          go_wp2_with fail
          refine HLT.out.mono ?_
          rintro e w2 ⟨rfl, b2⟩
          have O2 := Lib.hid (HO.out.keep b2)
          have L2 := Lib.hid (HL.out.keep b2)
          replace x0 := (b2.cell (p := ⟨pb, po + j * 3, none⟩) hpb).trans x0
          replace x1 := (b2.cell (p := ⟨pb, po + j * 3 + 1, none⟩) hpb).trans x1
          replace x2 := (b2.cell (p := ⟨pb, po + j * 3 + 2, none⟩) hpb).trans x2
          clear HO HL HLT b2
          by_cases k2 : qk = 1
          · subst k2
            go_wp2_with fail
            refine (idrop_ok w2 x bl bn ρ' E qs O2.out.ix).mono ?_
            rintro e w3 ⟨rfl, t3⟩
            have O3 := Lib.hid (O2.out.turn t3 (k' := j + 1) (by have := dels_len E qs; have := O2.out.few; omega))
            clear O2 t3
            go_wp2
            go_roundw
            case rel => exact ⟨j + 1, ρ', dels E qs, by go_num, by omega, by omega, O3⟩
            case measure => simp [intOf]; omega
          · have k2z : ¬ (qk : Int) = 1 := k2
            go_wp2_with fail
            have OD := Lib.hid O2.out.drew
            have LD := Lib.hid (L2.out.trn (Trn.drew (fun _ => False) w2))
            have HC := iset_ok w2.drew x bl bn ρ' E qs a' n' c' ql OD.out.ix LD.out
            obtain ⟨rr, hrr⟩ : ∃ rr : Int, (if okE qs ql then (0 : Int) else 1) = rr := ⟨_, rfl⟩
            rw [hrr] at HC
            replace HC := Lib.hid HC
            clear hrr
            go_region_held3 (fun w' => w'.cell? ⟨pb, po + j * 3 + 1, none⟩ = some (.string (bs qs)) ∧ w'.cell? ⟨pb, po + j * 3 + 2, none⟩ = some (.slice a' n' c'))
              (first
                | exact ⟨d0.out, d1.out⟩
                | go_keep)
              (first
                | (go_at_call 12
                   (with_reducible refine HC.out.mono ?_)
                   rintro e W6 ⟨rfl, ρ6, t6⟩
                   have d0 := Lib.hid (t6.trn.cell (show w2.drew.cell? ⟨pb, po + j * 3 + 1, none⟩ = some (.string (bs qs)) from x1))
                   have d1 := Lib.hid (t6.trn.cell (show w2.drew.cell? ⟨pb, po + j * 3 + 2, none⟩ = some (.slice a' n' c') from x2)))
                | fail)
            have O6 := Lib.hid (OD.out.turn t6 (k' := j + 1) (by have := step_len qs ql E; have := OD.out.few; omega))
            clear d0 d1 t6 OD LD O2 L2 HC
            go_wp2
            go_roundw
            case rel => exact ⟨j + 1, ρ6, stepE qs ql E, by go_num, by omega, by omega, O6⟩
            case measure => simp [intOf]; omega
        · rw [decide_eq_false k1] at HLT
          clear k1
          go_wp2_with fail
          refine HLT.out.mono ?_
          rintro e w2 ⟨rfl, b2⟩
          have O2 := Lib.hid ((HO.out.keep b2).more (k' := j + 1) (by omega))
          clear HO HL HLT b2
          go_wp2
          go_roundw
          case rel => exact ⟨j + 1, ρ', E, by go_num, by omega, by omega, O2⟩
          case measure => simp [intOf]; omega
      · have hjf' : ¬ (j : Int) < 40 := by omega
        go_wp2
        go_ret
        exact ⟨x, bl, bn, ρ', E, rfl, HO.out.ix, Nat.le_trans HO.out.few hj40, HO.out.bel, HO.out.fa⟩
    · have hjz : ¬ (j : Int) < (len : Int) := by omega
      go_wp2
      go_ret
      exact ⟨x, bl, bn, ρ', E, rfl, HO.out.ix, Nat.le_trans HO.out.few hj40, HO.out.bel, HO.out.fa⟩

end Go.Proofs.Ytpkbkemenfdadaa
