/-
  Contract of the index's put: a key that is not there, with labels that are sorted.
-/
import Derived.Test.YtifjbbiphekmmaaGreatDoorISmall
namespace Go.Proofs.YtifjbbiphekmmaaGreatDoor
open Go.RowKit
set_option linter.unusedVariables false
set_option linter.unusedSimpArgs false

theorem take_snoc_lb {l : List Lb} {j : Nat} (h : j < l.length) : l.take (j + 1) = l.take j ++ [(lN l j, lV l j)] := by rw [List.take_succ_eq_append_getElem h, lb_get h]
/-- The labels that are laid in so far. -/
def putS (S : Tx → Tx → Tx → Prop) (key : Tx) (l : List Lb) (m x y : Tx) : Prop := S m x y ∨ (y = key ∧ (m, x) ∈ l)
theorem FN_lab {ρ : Rho} {b : Nat} (h : ρ b = some .labs) : ¬ FN ρ b := fun ⟨r, e, q⟩ => by rw [h] at e; cases e; exact q

set_option maxRecDepth 100000 in
set_option maxHeartbeats 4000000 in
theorem iput_ok (w : World) (x bl bn : Nat) (ρ : Rho) (E : List Ent) (key : Tx) (a : Option Addr) (n c : Nat) (l : List Lb) (h : IxAt w x bl bn ρ E) (hk : key ∉ keysL E) (hkb : keyB key) (hr : rightL l) (hs : SS (keysL l)) (hl : LbAt w a n c l) :
    Calls Tryz.prog 59 #[.pointer (some ⟨x, 0, none⟩), .string (bs key), .slice a n c] w fun e w' => e = .returned (.tuple #[]) ∧ ∃ ρ', IxTurn w w' x bl bn ρ ρ' (insG (key, l) E) := by
  obtain ⟨hc, rl, rn, ⟨T, t1, t2, t3⟩, hn, hok, hg⟩ := h
  have hln := hl.1
  have hn8 : n ≤ 8 := by have := hr.1; omega
  have hbln : bl ≠ bn := fun e => by rw [e, rn] at rl; cases rl
  have HV : Hid (LbV w (.slice a n c) l) := Lib.hid ⟨a, c, by rw [hln], hl.len⟩
  have HL := Lib.hid hl
  have HG := Lib.hid (hg.ins hkb hr hs hk)
  have HC := Lib.hid hc
  have RL := Lib.hid rl
  have RN := Lib.hid rn
  have HN := Lib.hid hn
  have hbnl := hn.lt
  have hbll := t1.lt
  have HIX := Lib.hid hok
  have HO := Lib.hid hok
  have H1 := Lib.hid t1
  have HE := Lib.hid (fun (w' : World) (t : Trn (FA ρ) w w') (hm : MapAt w' bl (ups (T.map mpV) key (.slice a n c))) => LabsAt.put t2 t3 hk HV.out t hm)
  have FBN := Lib.hid (show FA ρ bn from by unfold FA; rw [rn]; simp)
  have FB := Lib.hid (show FA ρ bl from by unfold FA; rw [rl]; simp)
  have c0 := hc.c0
  clear hl hk hr hs hc rl rn t1 t2 t3 hn hok hg
  go_enter Tryz.func59, Tryz.ntmps59
  go_wp2_with (first
    | (at_mapUpdate; refine wpList_mapUpdate_m _ rfl _ _ _ 93 rfl 9 25 Tryz.underlying93 Tryz.underlying9 bl _ rfl H1.out key _ rfl rfl (.slice a n c) rfl ?_; intro w1 hm1 g1 hs1))
  have T1 : Trn (FA ρ) w w1 := .map g1 FB.out H1.out.isMap
  have I1 := HE.out w1 T1 hm1
  have N1 : NamsAt w1 bn ρ (putS (SOf E) key (l.take 0)) := HN.out.same (g1.block bn HN.out.lt (by simpa using fun e => hbln e.symm)) (.refl _ _) (fun d hd f => g1.block d hd (by
    simp only [ne_eq, Option.some.injEq]
    intro e; subst e; exact FN_lab RL.out f)) (fun m y z => by simp [putS])
  have O1 := HO.out.turn g1 hm1.isMap
  clear hm1 g1 hs1 c0 H1 HE HN HO
  go_loopw [16] (fun vi wr => ∃ (j : Nat) (ρ' : Rho), vi = .int .i64 (j : Int) ∧ j ≤ n ∧ Hid (NamsAt wr bn ρ' (putS (SOf E) key (l.take j))) ∧ Hid (RhoOk wr ρ') ∧ Hid (RExt w ρ ρ') ∧ Hid (Trn (FA ρ) w wr) ∧ Hid (LabsAt wr bl (insG (key, l) E))) (fun vi _ => n - (intOf vi).toNat)
  case atStart => exact ⟨0, ρ, rfl, Nat.zero_le _, Lib.hid N1, Lib.hid O1, Lib.hid (.refl _ _), Lib.hid T1, Lib.hid I1⟩
  case round =>
    obtain ⟨j, ρ', rfl, hj, N, O, R, T2, I⟩ := hrel
    clear N1 O1 T1 I1
    by_cases hjn : j < n
    · have hjz : (j : Int) < (n : Int) := by omega
      have hj0 : (0 : Int) ≤ (j : Int) := by omega
      obtain ⟨pb, po, e1, hpb, x0, x1⟩ := HL.out.at_ j hjn
      replace x0 := T2.out.cell x0
      replace x1 := T2.out.cell x1
      subst e1
      have HP := Lib.hid (take_snoc_lb (l := l) (j := j) (by omega))
      generalize lN l j = nm at *
      generalize lV l j = vl at *
      have B2 := (Below.refl wr.heap.size wr).alloc (Nat.le_refl _) (.cells #[.string (bs nm), .string (bs vl)] 69)
      have X2 := Lib.hid (show BoxL (wr.alloc (.cells #[.string (bs nm), .string (bs vl)] 69)) wr.heap.size nm vl from heap_new wr _)
      have N2 : Hid (NamsAt (wr.alloc (.cells #[.string (bs nm), .string (bs vl)] 69)) bn ρ' (putS (SOf E) key (l.take j))) := Lib.hid (N.out.same (B2.block bn N.out.lt) (.refl _ _) (fun d hd _ => B2.block d hd) (fun _ _ _ => Iff.rfl))
      have O2 := Lib.hid (O.out.keep B2)
      have T3 := Lib.hid (T2.out.thenB B2)
      have I2 := Lib.hid (I.out.trn (F := fun _ => False) (.of B2) (fun f => f))
      have C2 := Lib.hid (HC.out.trn T3.out)
      have hsz : w.heap.size ≤ wr.heap.size := T2.out.size
      clear B2 N O T2 I
      go_wp2_with fail
      generalize wr.alloc (.cells #[.string (bs nm), .string (bs vl)] 69) = W2 at *
      generalize wr.heap.size = B at *
      have c1 := C2.out.c1
      have b0 := X2.out.x0
      have b1 := X2.out.x1
      have ND : Hid (NamsAt W2.drew bn ρ' (putS (SOf E) key (l.take j))) := N2
      have OD : Hid (RhoOk W2.drew ρ') := O2
      have HR1 := Lib.hid ((R.out bn hbnl).trans RN.out)
      go_region_held3 (fun w' => w'.cell? ⟨x, 1, none⟩ = some (mp bn) ∧ w'.cell? ⟨B, 0, none⟩ = some (.string (bs nm)) ∧ w'.cell? ⟨B, 1, none⟩ = some (.string (bs vl)))
        (first
          | exact ⟨d0.out, d1.out, d2.out⟩
          | go_keep)
        (first
          | (go_at_call 86
             (with_reducible refine (nput_ok _ bn ρ' nm vl key _ ND.out HR1.out OD.out).mono ?_)
             rintro e W6 ⟨rfl, ρ6, n6, o6, r6, t6⟩
             have d0 := Lib.hid (t6.cell (show W2.drew.cell? ⟨x, 1, none⟩ = some (mp bn) from c1))
             have d1 := Lib.hid (t6.cell (show W2.drew.cell? ⟨B, 0, none⟩ = some (.string (bs nm)) from b0))
             have d2 := Lib.hid (t6.cell (show W2.drew.cell? ⟨B, 1, none⟩ = some (.string (bs vl)) from b1)))
          | fail)
      have hbl' : ρ' bl = some .labs := (R.out bl hbll).trans RL.out
      have D : Trn (FN ρ') W2 W6 := (Trn.drew _ W2).trans t6 (fun _ _ f => f)
      have N7 : Hid (NamsAt W6 bn ρ6 (putS (SOf E) key (l.take (j + 1)))) := Lib.hid (n6.same rfl (.refl _ _) (fun _ _ _ => rfl) (fun m y z => by
        rw [HP.out]
        simp only [putS, List.mem_append, List.mem_singleton, Prod.mk.injEq]
        constructor
        · rintro ((h | ⟨h1, h2⟩) | ⟨h1, h2, h3⟩)
          · exact .inl h
          · exact .inr ⟨h1, .inl h2⟩
          · exact .inr ⟨h3, .inr ⟨h1, h2⟩⟩
        · rintro (h | ⟨h1, h2 | ⟨h2, h3⟩⟩)
          · exact .inl (.inl h)
          · exact .inl (.inr ⟨h1, h2⟩)
          · exact .inr ⟨h2, h3, h1⟩))
      have I7 := Lib.hid (I2.out.trn D (FN_lab hbl'))
      have hs2 := T3.out.size
      have R7 : Hid (RExt w ρ ρ6) := Lib.hid (R.out.trans r6 hs2)
      have T7 := Lib.hid (T3.out.trans D (fun i hi f => by
        have e := R.out i hi
        have := f.a
        unfold FA at *
        rw [e] at this; exact this))
      have O7 := Lib.hid o6
      clear d0 d1 d2 c1 b0 b1 x0 x1 n6 o6 r6 t6 ND OD N2 O2 I2 C2 X2 D T3 R
      go_wp2
      go_roundw
      case rel => exact ⟨j + 1, ρ6, by go_num, by omega, N7, O7, R7, T7, I7⟩
      case measure => simp [intOf]; omega
    · have hjz : ¬ (j : Int) < (n : Int) := by omega
      obtain rfl : j = n := by omega
      go_wp2
      go_end0
      refine ⟨rfl, ρ', ⟨HC.out.trn T2.out, (R.out bl hbll).trans RL.out, (R.out bn hbnl).trans RN.out, I.out, ?_, O.out, HG.out⟩, R.out, T2.out⟩
      rw [List.take_of_length_le (by omega)] at N
      exact N.out.same rfl (.refl _ _) (fun _ _ _ => rfl) (fun m y z => SOf_ins.symm)

end Go.Proofs.YtifjbbiphekmmaaGreatDoor
