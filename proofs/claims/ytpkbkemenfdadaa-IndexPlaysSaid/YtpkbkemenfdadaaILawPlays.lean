/-
  The statement 'IndexPlays' of layer 9: the stage's theorem.
  No condition on the arguments.
-/
import Derived.Test.YtpkbkemenfdadaaIBuild
import Derived.Test.YtpkbkemenfdadaaIArgs
import Derived.Test.YtpkbkemenfdadaaRows
import Derived.Test.YtpkbkemenfdadaaIMath2
import Derived.Test.YtpkbkemenfdadaaIRefC
import Derived.ChangeOld
namespace Go.Proofs.Ytpkbkemenfdadaa
namespace indexPlays
open Go.ChangeShapes Go.WideShapes Go.ChangeAt Go.RowKit
open Go.ChangeMaps (open_string shut_string)
set_option linter.unusedVariables false
set_option linter.unusedSimpArgs false

theorem own : ownKnob Try.prog.godebug = none := by kernel_rfl

theorem BoxL.trn {F : Nat → Prop} {w w' : World} {B : Nat} {n v : Tx} (h : BoxL w B n v) (t : Trn F w w') : BoxL w' B n v := t.cells _ _ _ _ h
theorem BoxL.keep {w w' : World} {B : Nat} {n v : Tx} (h : BoxL w B n v) (b : Below w.heap.size w w') : BoxL w' B n v := h.trn (F := fun _ => False) (.of b)
theorem BoxO.trn {F : Nat → Prop} {w w' : World} {B : Nat} {k : Int} {key : Tx} {s : Value} (h : BoxO w B k key s) (t : Trn F w w') : BoxO w' B k key s := t.cells _ _ _ _ h
theorem BoxO.keep {w w' : World} {B : Nat} {k : Int} {key : Tx} {s : Value} (h : BoxO w B k key s) (b : Below w.heap.size w w') : BoxO w' B k key s := BoxO.trn (F := fun _ => False) h (.of b)
theorem BoxO.x0 {w : World} {B : Nat} {k : Int} {key : Tx} {s : Value} (h : BoxO w B k key s) : w.cell? ⟨B, 0, none⟩ = some (.int .i64 k) := by rw [cell_of h]; rfl
theorem BoxO.x1 {w : World} {B : Nat} {k : Int} {key : Tx} {s : Value} (h : BoxO w B k key s) : w.cell? ⟨B, 1, none⟩ = some (.string (bs key)) := by rw [cell_of h]; rfl
theorem BoxO.x2 {w : World} {B : Nat} {k : Int} {key : Tx} {s : Value} (h : BoxO w B k key s) : w.cell? ⟨B, 2, none⟩ = some s := by rw [cell_of h]; rfl

set_option maxRecDepth 100000 in
set_option maxHeartbeats 40000000 in
theorem walk (a : Option Addr) (n c : Nat) (z : List OpL) (q : Lb) (w : World) (h : OpAt w a n c z) (_ : True) :
    Calls Try.prog 3 #[.slice a n c, .agg #[.string (bs q.1), .string (bs q.2)]] w fun e w' => e = .returned (.bool true) ∧ Below w.heap.size w w' := by
  obtain ⟨nm, vl⟩ := q
  have hB := (Below.refl w.heap.size w).alloc (Nat.le_refl _) (.cells #[.string (bs nm), .string (bs vl)] 24)
  have XB := Lib.hid (show BoxL (w.alloc (.cells #[.string (bs nm), .string (bs vl)] 24)) w.heap.size nm vl from heap_new w _)
  have OZ := Lib.hid (h.keep hB)
  have BW0 := Lib.hid hB
  obtain ⟨m1, hm1⟩ : ∃ m, (bs nm).size = m := ⟨_, rfl⟩
  obtain ⟨m2, hm2⟩ : ∃ m, (bs vl).size = m := ⟨_, rfl⟩
  clear hB h
  go_enter Try.func3, Try.ntmps3
  go_wp2_with fail
  generalize w.alloc (.cells #[.string (bs nm), .string (bs vl)] 24) = W1 at *
  refine (new_any W1).mono ?_
  rintro e W2 ⟨x, bl, bn, ρ, rfl, x1, b1, f1⟩
  have BR := (Below.refl W2.heap.size W2).alloc (Nat.le_refl _) (.cells #[.slice none 0 0] 30)
  have X := Lib.hid (x1.keep BR)
  have FX := Lib.hid f1
  have R : Hid (RefAt (W2.alloc (.cells #[.slice none 0 0] 30)) W2.heap.size none 0 0 []) := Lib.hid ⟨heap_new W2 _, ⟨rfl, Nat.le_refl _, by omega, .inl rfl⟩, by simp⟩
  have hr : W1.heap.size ≤ W2.heap.size := b1.size
  have B := Lib.hid (b1.trans (BR.mono b1.size))
  have XB2 := Lib.hid (BoxL.keep (BoxL.keep XB.out b1) BR)
  have c0 := XB2.out.x0
  have c1 := XB2.out.x1
  clear x1 b1 f1 BR
  by_cases k1 : m1 ≤ 100
  · have k1z : ¬ (100 : Int) < (m1 : Int) := by omega
    by_cases k2 : m2 ≤ 100
    · have k2z : ¬ (100 : Int) < (m2 : Int) := by omega
      go_wp2_with fail
      generalize W2.alloc (.cells #[.slice none 0 0] 30) = W3 at *
      generalize W2.heap.size = r at *
      clear c0 c1 XB2
      have hbx : w.heap.size < W1.heap.size := heap_lt XB.out
      have XB0 := Lib.hid (show BoxL W1 w.heap.size nm vl from XB.out)
      go_loopw [5, 7] (fun vx vi wr => ∃ (j : Nat) (x bl bn : Nat) (ρ : Rho) (E : List Ent) (ra : Option Addr) (rn rc : Nat) (T : List EnT), vx = .pointer (some ⟨x, 0, none⟩) ∧ vi = .int .i64 (j : Int) ∧ j ≤ n ∧ j ≤ 40 ∧ Hid (IxAt wr x bl bn ρ E) ∧ Hid (RefAt wr r ra rn rc T) ∧ Hid (ents T = E) ∧ Hid (E.length ≤ j) ∧ Hid (Below W1.heap.size W1 wr) ∧ Hid (∀ i, FA ρ i → W1.heap.size ≤ i)) (fun _ vi _ => n - (intOf vi).toNat)
      case atStart => exact ⟨0, x, bl, bn, ρ, [], none, 0, 0, [], rfl, rfl, Nat.zero_le _, Nat.zero_le _, X, R, Lib.hid rfl, Lib.hid (Nat.le_refl _), B, FX⟩
      case round =>
        clear X R B FX
        obtain ⟨j, x, bl, bn, ρ, E, ra, rn, rc, T, rfl, rfl, hj, hj40, X, R, HE, E41, B, FX⟩ := hrel
        have hfin : (j < n ∧ j < 40) ∨ (j < n ∧ ¬ j < 40) ∨ ¬ j < n := by omega
        rcases hfin with ⟨hjn, hj4⟩ | ⟨hjn, hj4⟩ | hjn
        · have hjz : (j : Int) < (n : Int) := by omega
          have hj0 : (0 : Int) ≤ (j : Int) := by omega
          have hjf : (j : Int) < 40 := by omega
          obtain ⟨pb, po, a', n', c', hzz, e1, hpb, x0, x1, x2, hlq⟩ := (OZ.out.keep B.out).at_ j hjn
          subst e1
          have HL := Lib.hid hlq
          clear hlq
          generalize z[j] = q at *
          obtain ⟨qk, qs, ql⟩ := q
          have BA := (Below.refl wr.heap.size wr).alloc (Nat.le_refl _) (.cells #[.int .i64 qk, .string (bs qs), .slice a' n' c'] 34)
          have BX := Lib.hid (show BoxO (wr.alloc (.cells #[.int .i64 qk, .string (bs qs), .slice a' n' c'] 34)) wr.heap.size qk qs (.slice a' n' c') from heap_new wr _)
          replace X := Lib.hid (X.out.keep BA)
          replace R := Lib.hid (R.out.keep BA)
          have LL := Lib.hid (show LbAt _ a' n' c' ql from HL.out.keep BA)
          replace B := Lib.hid (B.out.trans (BA.mono B.out.size))
          clear BA HL
          have HLT := Lib.hid (fun W (h : LbAt W a' n' c' ql) => light9_any ⟨qk, qs, ql⟩ a' n' c' W h)
          go_wp2_with fail
          generalize wr.alloc (.cells #[.int .i64 qk, .string (bs qs), .slice a' n' c'] 34) = W2 at *
          generalize wr.heap.size = kx at *
          have c0 := BoxO.x0 BX.out
          have c1 := BoxO.x1 BX.out
          have c2 := BoxO.x2 BX.out
          go_wp2_with fail
          have CLT := HLT.out W2 LL.out
          clear HLT c0 c1 c2
          by_cases hlt : lightO ⟨qk, qs, ql⟩
          · rw [decide_eq_true hlt] at CLT
            clear hlt
            refine CLT.mono ?_
            clear CLT
            rintro e W3 ⟨rfl, br⟩
            replace BX := Lib.hid (BoxO.keep BX.out br)
            replace X := Lib.hid (X.out.keep br)
            replace R := Lib.hid (R.out.keep br)
            replace LL := Lib.hid (LL.out.keep br)
            replace B := Lib.hid (B.out.trans (br.mono B.out.size))
            clear br
            obtain ⟨W2, rfl⟩ : ∃ T, T = W3 := ⟨_, rfl⟩
            by_cases hK0 : qk = 0
            · subst hK0
              have c0 := BoxO.x0 BX.out
              go_wp2_with fail
              clear c0
              have XD := Lib.hid (X.out.trn (Trn.drew (fun _ => False) W2) (fun _ _ _ f => f))
              have RD := Lib.hid (R.out.trn (Trn.drew (fun _ => False) W2))
              have LD := Lib.hid (LL.out.trn (Trn.drew (fun _ => False) W2))
              have BXD := Lib.hid (BoxO.trn BX.out (Trn.drew (fun _ => False) W2))
              have BD := Lib.hid (bel_drew B.out)
              have c1 := BoxO.x1 BX.out
              have c2 := BoxO.x2 BX.out
              have hrr := Lib.hid R.out.lt
              have hkr : kx ≠ r := fun e => by
                have h1 := BX.out
                have h2 := R.out.cell
                unfold BoxO at h1
                unfold RxCell at h2
                rw [e, h2] at h1
                simp at h1
              obtain ⟨rr, hrr2⟩ : ∃ rr : Int, (if okE qs ql then (0 : Int) else 1) = rr := ⟨_, rfl⟩
              have HC1 := iset_ok W2.drew x bl bn ρ E qs a' n' c' ql XD.out LD.out
              have HC2 := Lib.hid (show ∀ V, RefAt V r ra rn rc T → LbAt V a' n' c' ql → Calls Try.prog 13 #[.pointer (some ⟨r, 0, none⟩), .string (bs qs), .slice a' n' c'] V (RefP V r (.int .i64 rr) (stepE qs ql E)) from fun V h1 h2 => by
                have C := rset_any V r ra rn rc T qs a' n' c' ql h1 h2 (by have h1 := R.out.row.1; have h2 := E41.out; rw [← HE.out, ents_len] at h2; omega) (fun kk hk => by
                  rw [HE.out] at hk
                  obtain ⟨p, hp, e⟩ := List.mem_map.1 hk
                  rw [← e]; exact (X.out.good.key p hp).2)
                rw [hrr2, HE.out] at C; exact C)
              rw [hrr2] at HC1
              replace HC1 := Lib.hid HC1
              clear hrr2
              go_wp2_with fail
              go_region_held3 (fun W' => W'.cell? ⟨kx, 1, none⟩ = some (.string (bs qs)) ∧ W'.cell? ⟨kx, 2, none⟩ = some (.slice a' n' c'))
                (first
                  | exact d5.out
                  | exact d4.out
                  | go_keep
                  | fail)
                (first
                  | (go_at_call 12
                     (with_reducible refine HC1.out.mono ?_)
                     rintro e W4 ⟨rfl, ρ4, t4⟩
                     have X4 := Lib.hid t4.ix
                     have R4 := Lib.hid (RD.out.trn t4.trn)
                     have L4 := Lib.hid (LD.out.trn t4.trn)
                     have BX4 := Lib.hid (BoxO.trn BXD.out t4.trn)
                     have B4 := Lib.hid (Trn.below BD.out BD.out.size t4.trn (fun i hi f => by have := FX.out i f; omega))
                     have FX4 := Lib.hid (fa_turn FX.out t4 BD.out.size)
                     have d4 := Lib.hid (show W4.cell? ⟨kx, 1, none⟩ = some (.string (bs qs)) ∧ W4.cell? ⟨kx, 2, none⟩ = some (.slice a' n' c') from ⟨BoxO.x1 BX4.out, BoxO.x2 BX4.out⟩)
                     clear t4)
                  | (go_at_call 13
                     (with_reducible refine (HC2.out W4 R4.out L4.out).mono ?_)
                     rintro e W5 ⟨rfl, ra5, rn5, rc5, T5, r5, e5, f5⟩
                     have X5 := Lib.hid (X4.out.far f5 R4.out.cell)
                     have R5 := Lib.hid r5
                     have HE5 := Lib.hid e5
                     have L5 := Lib.hid (L4.out.far f5 R4.out.cell)
                     have BX5 := Lib.hid (show BoxO W5 kx 0 qs (.slice a' n' c') from (f5.block kx (heap_lt BX4.out) hkr).trans BX4.out)
                     have B5 := Lib.hid (Far.below B4.out B4.out.size f5 hr)
                     have d5 := Lib.hid (show W5.cell? ⟨kx, 1, none⟩ = some (.string (bs qs)) ∧ W5.cell? ⟨kx, 2, none⟩ = some (.slice a' n' c') from ⟨BoxO.x1 BX5.out, BoxO.x2 BX5.out⟩)
                     clear r5 e5 f5)
                  | fail)
              have E42 := Lib.hid (show (stepE qs ql E).length ≤ j + 1 from by have := E41.out; have := step_len qs ql E; omega)
              clear X R LL BX B FX HE E41 XD RD LD BXD BD HC1 HC2 X4 R4 L4 BX4 B4 d4 d5 c1 c2 hrr hkr
              obtain ⟨E9, hEE⟩ : ∃ E9, stepE qs ql E = E9 := ⟨_, rfl⟩
              rw [hEE] at X5 HE5 E42
              clear hEE
              obtain ⟨E, rfl⟩ : ∃ T, T = E9 := ⟨_, rfl⟩
              obtain ⟨X, R, LL, BX, B, FX, HE, E41⟩ := And.intro X5 (And.intro R5 (And.intro L5 (And.intro BX5 (And.intro B5 (And.intro FX4 (And.intro HE5 E42))))))
              clear X5 R5 L5 BX5 B5 FX4 HE5 E42
              obtain ⟨WT, rfl⟩ : ∃ WT, WT = W5 := ⟨_, rfl⟩
              obtain ⟨T, rfl⟩ : ∃ T, T = T5 := ⟨_, rfl⟩
              obtain ⟨ra, rfl⟩ : ∃ T, T = ra5 := ⟨_, rfl⟩
              obtain ⟨rn, rfl⟩ : ∃ T, T = rn5 := ⟨_, rfl⟩
              obtain ⟨rc, rfl⟩ : ∃ T, T = rc5 := ⟨_, rfl⟩
              obtain ⟨ρ, rfl⟩ : ∃ T, T = ρ4 := ⟨_, rfl⟩
              have c1 := BoxO.x1 BX.out
              go_wp2_with fail
              clear c1
              have c1 := BoxO.x1 BX.out
              refine (ilabels_ok WT x bl bn ρ E qs X.out).mono ?_
              rintro e WU ⟨al, cl, rfl, tl, bu⟩
              have BU := Lib.hid bu
              replace X := Lib.hid (X.out.keep bu)
              replace R := Lib.hid (R.out.keep bu)
              replace BX := Lib.hid (BoxO.keep BX.out bu)
              replace LL := Lib.hid (LL.out.keep bu)
              replace B := Lib.hid (B.out.trans (bu.mono B.out.size))
              have TL := Lib.hid tl
              clear tl bu BU c1
              have c1 := BoxO.x1 BX.out
              go_wp2_with fail
              have CL := rlabels_any WU r ra rn rc T qs R.out (by rw [HE.out]; exact ssG_nodup X.out.good.ss)
              rw [HE.out] at CL
              obtain ⟨hb, hhb⟩ : ∃ hb, decide (qs ∈ keysL E) = hb := ⟨_, rfl⟩
              rw [hhb] at CL
              obtain ⟨la, hla⟩ : ∃ la, (look E qs).getD [] = la := ⟨_, rfl⟩
              rw [hla] at CL
              rw [hla] at TL
              rw [hla]
              refine CL.mono ?_
              clear CL
              rintro e w' ⟨am, nm2, cm, rfl, tm, rfl⟩
              have TM := Lib.hid tm
              clear tm
              have hE : E.length ≤ 100000 := by have := E41.out; omega
              have hrn : rn ≤ 1000 := by have h1 := R.out.row.1; have h2 := E41.out; rw [← HE.out, ents_len] at h2; omega
              have XD := Lib.hid (X.out.trn (Trn.drew (fun _ => False) WU) (fun _ _ _ f => f))
              have RD := Lib.hid (R.out.trn (Trn.drew (fun _ => False) WU))
              have TLD := Lib.hid (TL.out.trn (Trn.drew (fun _ => False) WU))
              have TMD := Lib.hid (TM.out.trn (Trn.drew (fun _ => False) WU))
              have BV0 := Lib.hid (Below.refl WU.drew.heap.size WU.drew)
              have HG := Lib.hid (show ∀ p ∈ ents T, rightL p.2 from by rw [HE.out]; exact X.out.good.right)
              have HHS := Lib.hid (show ∀ V, Below WU.drew.heap.size WU.drew V → Calls Try.prog 20 #[.pointer (some ⟨x, 0, none⟩), .string (bs qs)] V fun e w' => e = .returned (.bool hb) ∧ V = w' from fun V b => by
                have C := ihas_ok V x bl bn ρ E qs (XD.out.keep b)
                rw [hhb] at C; exact C)
              have HRK := Lib.hid (show ∀ V, Below WU.drew.heap.size WU.drew V → Calls Try.prog 23 #[.pointer (some ⟨r, 0, none⟩)] V (MadeP V (keysL E)) from fun V b => by
                have C := rkeys_any V r ra rn rc T (RD.out.keep b) hrn
                rw [HE.out] at C; exact C)
              obtain ⟨sz, hsz⟩ : ∃ sz, sizeE E = sz := ⟨_, rfl⟩
              have HSZ := Lib.hid (show ∀ V, Below WU.drew.heap.size WU.drew V → Calls Try.prog 24 #[.pointer (some ⟨x, 0, none⟩)] V fun e w' => e = .returned (.int .i64 (sz : Int)) ∧ Below V.heap.size V w' from fun V b => by
                have C := isize_ok V x bl bn ρ E (XD.out.keep b) hE
                rw [hsz] at C; exact C)
              have HRS := Lib.hid (show ∀ V, Below WU.drew.heap.size WU.drew V → Calls Try.prog 25 #[.pointer (some ⟨r, 0, none⟩)] V fun e w' => e = .returned (.int .i64 (sz : Int)) ∧ V = w' from fun V b => by
                have C := rsize_any V r ra rn rc T (RD.out.keep b) HG.out hrn
                rw [HE.out, hsz] at C; exact C)
              have HRF := Lib.hid (show ∀ V, Below WU.drew.heap.size WU.drew V → Calls Try.prog 27 #[.pointer (some ⟨r, 0, none⟩), .string (bs nm), .string (bs vl), .bool false] V (MadeP V (findE E nm vl)) from fun V b => by
                have C := rfind_one V r ra rn rc T nm vl (RD.out.keep b) HG.out hrn
                rw [HE.out] at C; exact C)
              have HRA := Lib.hid (show ∀ V, Below WU.drew.heap.size WU.drew V → Calls Try.prog 27 #[.pointer (some ⟨r, 0, none⟩), .string (bs nm), .string ⟨#[]⟩, .bool true] V (MadeP V (withE E nm)) from fun V b => by
                have C := rfind_any V r ra rn rc T nm [] (RD.out.keep b) HG.out hrn
                rw [HE.out] at C; exact C)
              have hkxs : kx < WU.heap.size := heap_lt BX.out
              have hbs : w.heap.size < WU.heap.size := Nat.lt_of_lt_of_le hbx B.out.size
              have XBU := Lib.hid (show BoxL WU w.heap.size nm vl from (B.out.block _ hbx).trans XB0.out)
              have g0 := BoxL.x0 XBU.out
              have g1 := BoxL.x1 XBU.out
              have c2 := BoxO.x2 BX.out
              have HS24 := Lib.hid (show ∀ W', Below WU.drew.heap.size WU.drew W' → W'.cell? ⟨kx, 1, none⟩ = some (.string (bs qs)) ∧ W'.cell? ⟨w.heap.size, 0, none⟩ = some (.string (bs nm)) ∧ W'.cell? ⟨w.heap.size, 1, none⟩ = some (.string (bs vl)) from fun W' b =>
                ⟨(b.cell (p := ⟨kx, 1, none⟩) hkxs).trans c1, (b.cell (p := ⟨w.heap.size, 0, none⟩) hbs).trans g0, (b.cell (p := ⟨w.heap.size, 1, none⟩) hbs).trans g1⟩)
              clear hla hhb hsz
              go_wp2_with fail
              go_region_held3 (fun W' => W'.cell? ⟨kx, 1, none⟩ = some (.string (bs qs)) ∧ W'.cell? ⟨w.heap.size, 0, none⟩ = some (.string (bs nm)) ∧ W'.cell? ⟨w.heap.size, 1, none⟩ = some (.string (bs vl)))
                (first
                  | exact HS24.out _ BVB.out
                  | exact HS24.out _ BVA.out
                  | exact HS24.out _ BV9.out
                  | exact HS24.out _ BV8.out
                  | exact HS24.out _ BV7.out
                  | exact HS24.out _ BV6.out
                  | exact HS24.out _ BV5.out
                  | exact HS24.out _ BV4.out
                  | exact HS24.out _ BV3.out
                  | exact HS24.out _ BV2.out
                  | exact HS24.out _ BV1.out
                  | exact HS24.out _ BV0.out
                  | go_keep
                  | fail)
                (first
                  | (go_at_call 19
                     (with_reducible refine (same9_any al _ cl la am nm2 cm la WU.drew TLD.out TMD.out).mono ?_)
                     rintro e V1 ⟨rfl, hd⟩
                     rw [decide_eq_true rfl]
                     have BV1 := Lib.hid (BV0.out.trans (hd.bel.mono BV0.out.size))
                     clear hd)
                  | (go_at_call 20
                     (with_reducible refine (HHS.out V1 BV1.out).mono ?_)
                     rintro e w' ⟨rfl, rfl⟩)
                  | (go_at_call 22
                     (with_reducible refine (ikeys_ok V1 x bl bn ρ E (XD.out.keep BV1.out) hE).mono ?_)
                     rintro e V2 ⟨ak, ck, rfl, t0, b0⟩
                     have BV2 := Lib.hid (BV1.out.trans (b0.mono BV1.out.size))
                     have Tk := Lib.hid t0
                     clear b0 t0)
                  | (go_at_call 23
                     (with_reducible refine (HRK.out V2 BV2.out).mono ?_)
                     intro e V3 hm
                     obtain ⟨a_l, c_l, rfl, t0, b0⟩ := hm.to
                     have BV3 := Lib.hid (BV2.out.trans (b0.mono BV2.out.size))
                     have Tl := Lib.hid t0
                     have Tk3 := Lib.hid (Tk.out.keep b0)
                     clear b0 t0 hm)
                  | (go_at_call 21
                     (with_reducible refine (same8_any ak _ ck (keysL E) a_l _ c_l (keysL E) V3 Tk3.out Tl.out).mono ?_)
                     rintro e V4 ⟨rfl, hd⟩
                     rw [decide_eq_true rfl]
                     have BV4 := Lib.hid (BV3.out.trans (hd.bel.mono BV3.out.size))
                     clear hd)
                  | (go_at_call 24
                     (with_reducible refine (HSZ.out V4 BV4.out).mono ?_)
                     rintro e V5 ⟨rfl, b0⟩
                     have BV5 := Lib.hid (BV4.out.trans (b0.mono BV4.out.size))
                     clear b0)
                  | (go_at_call 25
                     (with_reducible refine (HRS.out V5 BV5.out).mono ?_)
                     rintro e w' ⟨rfl, rfl⟩)
                  | (go_at_call 26
                     (with_reducible refine (ifind_ok V5 x bl bn ρ E nm vl (XD.out.keep BV5.out) hE).mono ?_)
                     rintro e V6 ⟨af, cf, rfl, t0, b0⟩
                     have BV6 := Lib.hid (BV5.out.trans (b0.mono BV5.out.size))
                     have Tf := Lib.hid t0
                     clear b0 t0)
                  | (go_at_call 27
                     (with_reducible refine (HRF.out V6 BV6.out).mono ?_)
                     intro e V7 hm
                     obtain ⟨ag, cg, rfl, t0, b0⟩ := hm.to
                     have BV7 := Lib.hid (BV6.out.trans (b0.mono BV6.out.size))
                     have Tg := Lib.hid t0
                     have Tf7 := Lib.hid (Tf.out.keep b0)
                     clear b0 t0 hm)
                  | (go_at_call 21
                     (with_reducible refine (same8_any af _ cf (findE E nm vl) ag _ cg (findE E nm vl) V7 Tf7.out Tg.out).mono ?_)
                     rintro e V8 ⟨rfl, hd⟩
                     rw [decide_eq_true rfl]
                     have BV8 := Lib.hid (BV7.out.trans (hd.bel.mono BV7.out.size))
                     clear hd)
                  | (go_at_call 28
                     (with_reducible refine (iwith_ok V8 x bl bn ρ E nm (XD.out.keep BV8.out) hE).mono ?_)
                     rintro e V9 ⟨ah, ch, rfl, t0, b0⟩
                     have BV9 := Lib.hid (BV8.out.trans (b0.mono BV8.out.size))
                     have Th := Lib.hid t0
                     clear b0 t0)
                  | (go_at_call 27
                     (with_reducible refine (HRA.out V9 BV9.out).mono ?_)
                     intro e VA hm
                     obtain ⟨ai, ci, rfl, t0, b0⟩ := hm.to
                     have BVA := Lib.hid (BV9.out.trans (b0.mono BV9.out.size))
                     have Ti := Lib.hid t0
                     have ThA := Lib.hid (Th.out.keep b0)
                     clear b0 t0 hm)
                  | (go_at_call 21
                     (with_reducible refine (same8_any ah _ ch (withE E nm) ai _ ci (withE E nm) VA ThA.out Ti.out).mono ?_)
                     rintro e VB ⟨rfl, hd⟩
                     rw [decide_eq_true rfl]
                     have BVB := Lib.hid (BVA.out.trans (hd.bel.mono BVA.out.size))
                     clear hd)
                  | fail)
              have bvb := BVB.out
              have bdu := bel_drew (Below.refl WU.heap.size WU)
              have bw := bdu.trans bvb
              replace X := Lib.hid (X.out.keep bw)
              replace R := Lib.hid (R.out.keep bw)
              replace BX := Lib.hid (BoxO.keep BX.out bw)
              replace LL := Lib.hid (LL.out.keep bw)
              replace B := Lib.hid (B.out.trans (bw.mono B.out.size))
              clear bvb bdu bw BV0 BV1 BV2 BV3 BV4 BV5 BV6 BV7 BV8 BV9 BVA BVB XD RD TLD TMD TL TM Tk Tl Tk3 Tf Tg Tf7 Th Ti ThA HHS HRK HSZ HRS HRF HRA HG XBU g0 g1 c1 c2 HS24 hkxs hbs
              have c1 := BoxO.x1 BX.out
              have c2 := BoxO.x2 BX.out
              obtain ⟨kb, hkb⟩ : ∃ kb, decide (keyB qs) = kb := ⟨_, rfl⟩
              obtain ⟨rb, hrb⟩ : ∃ rb, decide (rightL ql) = rb := ⟨_, rfl⟩
              have hkxs : kx < VB.heap.size := heap_lt BX.out
              have LD := Lib.hid (LL.out.trn (Trn.drew (fun _ => False) VB))
              have BV0 := Lib.hid (Below.refl VB.drew.heap.size VB.drew)
              have HK1 := Lib.hid (show ∀ V, Calls Try.prog 29 #[.string (bs qs)] V fun e w' => e = .returned (.bool kb) ∧ V = w' from fun V => by have C := key_any qs V; rw [hkb] at C; exact C)
              have HK2 := Lib.hid (show ∀ V, Calls Try.prog 30 #[.string (bs qs)] V fun e w' => e = .returned (.bool kb) ∧ V = w' from fun V => by have C := rkey_any qs V; rw [hkb] at C; exact C)
              have HR1 := Lib.hid (show ∀ V, Below VB.drew.heap.size VB.drew V → Calls Try.prog 31 #[.slice a' n' c'] V fun e w' => e = .returned (.bool rb) ∧ Below V.heap.size V w' from fun V b => by have C := right9_any a' n' c' ql V (LD.out.keep b); rw [hrb] at C; exact C)
              have HR2 := Lib.hid (show ∀ V, Below VB.drew.heap.size VB.drew V → Calls Try.prog 32 #[.slice a' n' c'] V fun e w' => e = .returned (.bool rb) ∧ Below V.heap.size V w' from fun V b => by have C := rright9_any a' n' c' ql V (LD.out.keep b); rw [hrb] at C; exact C.mono (fun e w' h => ⟨h.1, h.2.bel⟩))
              have HS26 := Lib.hid (show ∀ W', Below VB.drew.heap.size VB.drew W' → W'.cell? ⟨kx, 1, none⟩ = some (.string (bs qs)) ∧ W'.cell? ⟨kx, 2, none⟩ = some (.slice a' n' c') from fun W' b =>
                ⟨(b.cell (p := ⟨kx, 1, none⟩) hkxs).trans c1, (b.cell (p := ⟨kx, 2, none⟩) hkxs).trans c2⟩)
              clear hkb hrb
              go_wp2_with fail
              go_region_held3 (fun W' => W'.cell? ⟨kx, 1, none⟩ = some (.string (bs qs)) ∧ W'.cell? ⟨kx, 2, none⟩ = some (.slice a' n' c'))
                (first
                  | exact HS26.out _ BV2.out
                  | exact HS26.out _ BV1.out
                  | exact HS26.out _ BV0.out
                  | go_keep
                  | fail)
                (first
                  | (go_at_call 29
                     (with_reducible refine (HK1.out _).mono ?_)
                     rintro e w' ⟨rfl, rfl⟩)
                  | (go_at_call 30
                     (with_reducible refine (HK2.out _).mono ?_)
                     rintro e w' ⟨rfl, rfl⟩)
                  | (go_at_call 31
                     (with_reducible refine (HR1.out VB.drew BV0.out).mono ?_)
                     rintro e V1 ⟨rfl, b0⟩
                     have BV1 := Lib.hid (BV0.out.trans (b0.mono BV0.out.size))
                     clear b0)
                  | (go_at_call 32
                     (with_reducible refine (HR2.out V1 BV1.out).mono ?_)
                     rintro e V2 ⟨rfl, b0⟩
                     have BV2 := Lib.hid (BV1.out.trans (b0.mono BV1.out.size))
                     clear b0)
                  | fail)
              have bv2 := BV2.out
              have bdu := bel_drew (Below.refl VB.heap.size VB)
              have bw := bdu.trans bv2
              replace X := Lib.hid (X.out.keep bw)
              replace R := Lib.hid (R.out.keep bw)
              replace B := Lib.hid (B.out.trans (bw.mono B.out.size))
              clear bv2 bdu bw BV0 BV1 BV2 LD HK1 HK2 HR1 HR2 HS26 hkxs c1 c2 BX LL
              go_wp2
              go_roundw
              case rel => exact ⟨j + 1, x, bl, bn, ρ, E, ra, rn, rc, T, rfl, by go_num, by omega, by omega, X, R, HE, E41, B, FX⟩
              case measure => simp [intOf]; omega
            · by_cases hK1 : qk = 1
              · subst hK1
                have c0 := BoxO.x0 BX.out
                go_wp2_with fail
                clear c0
                have XD := Lib.hid (X.out.trn (Trn.drew (fun _ => False) W2) (fun _ _ _ f => f))
                have RD := Lib.hid (R.out.trn (Trn.drew (fun _ => False) W2))
                have LD := Lib.hid (LL.out.trn (Trn.drew (fun _ => False) W2))
                have BXD := Lib.hid (BoxO.trn BX.out (Trn.drew (fun _ => False) W2))
                have BD := Lib.hid (bel_drew B.out)
                have c1 := BoxO.x1 BX.out
                have c2 := BoxO.x2 BX.out
                have hrr := Lib.hid R.out.lt
                have hkr : kx ≠ r := fun e => by
                  have h1 := BX.out
                  have h2 := R.out.cell
                  unfold BoxO at h1
                  unfold RxCell at h2
                  rw [e, h2] at h1
                  simp at h1
                obtain ⟨rr, hrr2⟩ : ∃ rr : Bool, decide (qs ∈ keysL E) = rr := ⟨_, rfl⟩
                have HC1 := idrop_ok W2.drew x bl bn ρ E qs XD.out
                have HC2 := Lib.hid (show ∀ V, RefAt V r ra rn rc T → LbAt V a' n' c' ql → Calls Try.prog 15 #[.pointer (some ⟨r, 0, none⟩), .string (bs qs)] V (RefP V r (.bool rr) (dels E qs)) from fun V h1 h2 => by
                  have C := rdrop_any V r ra rn rc T qs h1 (by have h1 := R.out.row.1; have h2 := E41.out; rw [← HE.out, ents_len] at h2; omega)
                  rw [HE.out, hrr2] at C; exact C)
                rw [hrr2] at HC1
                replace HC1 := Lib.hid HC1
                clear hrr2
                go_wp2_with fail
                go_region_held3 (fun W' => W'.cell? ⟨kx, 1, none⟩ = some (.string (bs qs)))
                  (first
                    | exact d5.out
                    | exact d4.out
                    | go_keep
                    | fail)
                  (first
                    | (go_at_call 14
                       (with_reducible refine HC1.out.mono ?_)
                       rintro e W4 ⟨rfl, t4⟩
                       have X4 := Lib.hid t4.ix
                       have R4 := Lib.hid (RD.out.trn t4.trn)
                       have L4 := Lib.hid (LD.out.trn t4.trn)
                       have BX4 := Lib.hid (BoxO.trn BXD.out t4.trn)
                       have B4 := Lib.hid (Trn.below BD.out BD.out.size t4.trn (fun i hi f => by have := FX.out i f; omega))
                       have FX4 := Lib.hid (fa_turn FX.out t4 BD.out.size)
                       have d4 := Lib.hid (show W4.cell? ⟨kx, 1, none⟩ = some (.string (bs qs)) from BoxO.x1 BX4.out)
                       clear t4)
                    | (go_at_call 15
                       (with_reducible refine (HC2.out W4 R4.out L4.out).mono ?_)
                       rintro e W5 ⟨rfl, ra5, rn5, rc5, T5, r5, e5, f5⟩
                       have X5 := Lib.hid (X4.out.far f5 R4.out.cell)
                       have R5 := Lib.hid r5
                       have HE5 := Lib.hid e5
                       have L5 := Lib.hid (L4.out.far f5 R4.out.cell)
                       have BX5 := Lib.hid (show BoxO W5 kx 1 qs (.slice a' n' c') from (f5.block kx (heap_lt BX4.out) hkr).trans BX4.out)
                       have B5 := Lib.hid (Far.below B4.out B4.out.size f5 hr)
                       have d5 := Lib.hid (show W5.cell? ⟨kx, 1, none⟩ = some (.string (bs qs)) from BoxO.x1 BX5.out)
                       clear r5 e5 f5)
                    | fail)
                have E42 := Lib.hid (show (dels E qs).length ≤ j + 1 from by have := E41.out; have := dels_len E qs; omega)
                clear X R LL BX B FX HE E41 XD RD LD BXD BD HC1 HC2 X4 R4 L4 BX4 B4 d4 d5 c1 c2 hrr hkr
                obtain ⟨E9, hEE⟩ : ∃ E9, dels E qs = E9 := ⟨_, rfl⟩
                rw [hEE] at X5 HE5 E42
                clear hEE
                obtain ⟨E, rfl⟩ : ∃ T, T = E9 := ⟨_, rfl⟩
                obtain ⟨X, R, LL, BX, B, FX, HE, E41⟩ := And.intro X5 (And.intro R5 (And.intro L5 (And.intro BX5 (And.intro B5 (And.intro FX4 (And.intro HE5 E42))))))
                clear X5 R5 L5 BX5 B5 FX4 HE5 E42
                obtain ⟨WT, rfl⟩ : ∃ WT, WT = W5 := ⟨_, rfl⟩
                obtain ⟨T, rfl⟩ : ∃ T, T = T5 := ⟨_, rfl⟩
                obtain ⟨ra, rfl⟩ : ∃ T, T = ra5 := ⟨_, rfl⟩
                obtain ⟨rn, rfl⟩ : ∃ T, T = rn5 := ⟨_, rfl⟩
                obtain ⟨rc, rfl⟩ : ∃ T, T = rc5 := ⟨_, rfl⟩
                have c1 := BoxO.x1 BX.out
                go_wp2_with fail
                clear c1
                have c1 := BoxO.x1 BX.out
                refine (ilabels_ok WT x bl bn ρ E qs X.out).mono ?_
                rintro e WU ⟨al, cl, rfl, tl, bu⟩
                have BU := Lib.hid bu
                replace X := Lib.hid (X.out.keep bu)
                replace R := Lib.hid (R.out.keep bu)
                replace BX := Lib.hid (BoxO.keep BX.out bu)
                replace LL := Lib.hid (LL.out.keep bu)
                replace B := Lib.hid (B.out.trans (bu.mono B.out.size))
                have TL := Lib.hid tl
                clear tl bu BU c1
                have c1 := BoxO.x1 BX.out
                go_wp2_with fail
                have CL := rlabels_any WU r ra rn rc T qs R.out (by rw [HE.out]; exact ssG_nodup X.out.good.ss)
                rw [HE.out] at CL
                obtain ⟨hb, hhb⟩ : ∃ hb, decide (qs ∈ keysL E) = hb := ⟨_, rfl⟩
                rw [hhb] at CL
                obtain ⟨la, hla⟩ : ∃ la, (look E qs).getD [] = la := ⟨_, rfl⟩
                rw [hla] at CL
                rw [hla] at TL
                rw [hla]
                refine CL.mono ?_
                clear CL
                rintro e w' ⟨am, nm2, cm, rfl, tm, rfl⟩
                have TM := Lib.hid tm
                clear tm
                have hE : E.length ≤ 100000 := by have := E41.out; omega
                have hrn : rn ≤ 1000 := by have h1 := R.out.row.1; have h2 := E41.out; rw [← HE.out, ents_len] at h2; omega
                have XD := Lib.hid (X.out.trn (Trn.drew (fun _ => False) WU) (fun _ _ _ f => f))
                have RD := Lib.hid (R.out.trn (Trn.drew (fun _ => False) WU))
                have TLD := Lib.hid (TL.out.trn (Trn.drew (fun _ => False) WU))
                have TMD := Lib.hid (TM.out.trn (Trn.drew (fun _ => False) WU))
                have BV0 := Lib.hid (Below.refl WU.drew.heap.size WU.drew)
                have HG := Lib.hid (show ∀ p ∈ ents T, rightL p.2 from by rw [HE.out]; exact X.out.good.right)
                have HHS := Lib.hid (show ∀ V, Below WU.drew.heap.size WU.drew V → Calls Try.prog 20 #[.pointer (some ⟨x, 0, none⟩), .string (bs qs)] V fun e w' => e = .returned (.bool hb) ∧ V = w' from fun V b => by
                  have C := ihas_ok V x bl bn ρ E qs (XD.out.keep b)
                  rw [hhb] at C; exact C)
                have HRK := Lib.hid (show ∀ V, Below WU.drew.heap.size WU.drew V → Calls Try.prog 23 #[.pointer (some ⟨r, 0, none⟩)] V (MadeP V (keysL E)) from fun V b => by
                  have C := rkeys_any V r ra rn rc T (RD.out.keep b) hrn
                  rw [HE.out] at C; exact C)
                obtain ⟨sz, hsz⟩ : ∃ sz, sizeE E = sz := ⟨_, rfl⟩
                have HSZ := Lib.hid (show ∀ V, Below WU.drew.heap.size WU.drew V → Calls Try.prog 24 #[.pointer (some ⟨x, 0, none⟩)] V fun e w' => e = .returned (.int .i64 (sz : Int)) ∧ Below V.heap.size V w' from fun V b => by
                  have C := isize_ok V x bl bn ρ E (XD.out.keep b) hE
                  rw [hsz] at C; exact C)
                have HRS := Lib.hid (show ∀ V, Below WU.drew.heap.size WU.drew V → Calls Try.prog 25 #[.pointer (some ⟨r, 0, none⟩)] V fun e w' => e = .returned (.int .i64 (sz : Int)) ∧ V = w' from fun V b => by
                  have C := rsize_any V r ra rn rc T (RD.out.keep b) HG.out hrn
                  rw [HE.out, hsz] at C; exact C)
                have HRF := Lib.hid (show ∀ V, Below WU.drew.heap.size WU.drew V → Calls Try.prog 27 #[.pointer (some ⟨r, 0, none⟩), .string (bs nm), .string (bs vl), .bool false] V (MadeP V (findE E nm vl)) from fun V b => by
                  have C := rfind_one V r ra rn rc T nm vl (RD.out.keep b) HG.out hrn
                  rw [HE.out] at C; exact C)
                have HRA := Lib.hid (show ∀ V, Below WU.drew.heap.size WU.drew V → Calls Try.prog 27 #[.pointer (some ⟨r, 0, none⟩), .string (bs nm), .string ⟨#[]⟩, .bool true] V (MadeP V (withE E nm)) from fun V b => by
                  have C := rfind_any V r ra rn rc T nm [] (RD.out.keep b) HG.out hrn
                  rw [HE.out] at C; exact C)
                have hkxs : kx < WU.heap.size := heap_lt BX.out
                have hbs : w.heap.size < WU.heap.size := Nat.lt_of_lt_of_le hbx B.out.size
                have XBU := Lib.hid (show BoxL WU w.heap.size nm vl from (B.out.block _ hbx).trans XB0.out)
                have g0 := BoxL.x0 XBU.out
                have g1 := BoxL.x1 XBU.out
                have c2 := BoxO.x2 BX.out
                have HS24 := Lib.hid (show ∀ W', Below WU.drew.heap.size WU.drew W' → W'.cell? ⟨kx, 1, none⟩ = some (.string (bs qs)) ∧ W'.cell? ⟨w.heap.size, 0, none⟩ = some (.string (bs nm)) ∧ W'.cell? ⟨w.heap.size, 1, none⟩ = some (.string (bs vl)) from fun W' b =>
                  ⟨(b.cell (p := ⟨kx, 1, none⟩) hkxs).trans c1, (b.cell (p := ⟨w.heap.size, 0, none⟩) hbs).trans g0, (b.cell (p := ⟨w.heap.size, 1, none⟩) hbs).trans g1⟩)
                clear hla hhb hsz
                go_wp2_with fail
                go_region_held3 (fun W' => W'.cell? ⟨kx, 1, none⟩ = some (.string (bs qs)) ∧ W'.cell? ⟨w.heap.size, 0, none⟩ = some (.string (bs nm)) ∧ W'.cell? ⟨w.heap.size, 1, none⟩ = some (.string (bs vl)))
                  (first
                    | exact HS24.out _ BVB.out
                    | exact HS24.out _ BVA.out
                    | exact HS24.out _ BV9.out
                    | exact HS24.out _ BV8.out
                    | exact HS24.out _ BV7.out
                    | exact HS24.out _ BV6.out
                    | exact HS24.out _ BV5.out
                    | exact HS24.out _ BV4.out
                    | exact HS24.out _ BV3.out
                    | exact HS24.out _ BV2.out
                    | exact HS24.out _ BV1.out
                    | exact HS24.out _ BV0.out
                    | go_keep
                    | fail)
                  (first
                    | (go_at_call 19
                       (with_reducible refine (same9_any al _ cl la am nm2 cm la WU.drew TLD.out TMD.out).mono ?_)
                       rintro e V1 ⟨rfl, hd⟩
                       rw [decide_eq_true rfl]
                       have BV1 := Lib.hid (BV0.out.trans (hd.bel.mono BV0.out.size))
                       clear hd)
                    | (go_at_call 20
                       (with_reducible refine (HHS.out V1 BV1.out).mono ?_)
                       rintro e w' ⟨rfl, rfl⟩)
                    | (go_at_call 22
                       (with_reducible refine (ikeys_ok V1 x bl bn ρ E (XD.out.keep BV1.out) hE).mono ?_)
                       rintro e V2 ⟨ak, ck, rfl, t0, b0⟩
                       have BV2 := Lib.hid (BV1.out.trans (b0.mono BV1.out.size))
                       have Tk := Lib.hid t0
                       clear b0 t0)
                    | (go_at_call 23
                       (with_reducible refine (HRK.out V2 BV2.out).mono ?_)
                       intro e V3 hm
                       obtain ⟨a_l, c_l, rfl, t0, b0⟩ := hm.to
                       have BV3 := Lib.hid (BV2.out.trans (b0.mono BV2.out.size))
                       have Tl := Lib.hid t0
                       have Tk3 := Lib.hid (Tk.out.keep b0)
                       clear b0 t0 hm)
                    | (go_at_call 21
                       (with_reducible refine (same8_any ak _ ck (keysL E) a_l _ c_l (keysL E) V3 Tk3.out Tl.out).mono ?_)
                       rintro e V4 ⟨rfl, hd⟩
                       rw [decide_eq_true rfl]
                       have BV4 := Lib.hid (BV3.out.trans (hd.bel.mono BV3.out.size))
                       clear hd)
                    | (go_at_call 24
                       (with_reducible refine (HSZ.out V4 BV4.out).mono ?_)
                       rintro e V5 ⟨rfl, b0⟩
                       have BV5 := Lib.hid (BV4.out.trans (b0.mono BV4.out.size))
                       clear b0)
                    | (go_at_call 25
                       (with_reducible refine (HRS.out V5 BV5.out).mono ?_)
                       rintro e w' ⟨rfl, rfl⟩)
                    | (go_at_call 26
                       (with_reducible refine (ifind_ok V5 x bl bn ρ E nm vl (XD.out.keep BV5.out) hE).mono ?_)
                       rintro e V6 ⟨af, cf, rfl, t0, b0⟩
                       have BV6 := Lib.hid (BV5.out.trans (b0.mono BV5.out.size))
                       have Tf := Lib.hid t0
                       clear b0 t0)
                    | (go_at_call 27
                       (with_reducible refine (HRF.out V6 BV6.out).mono ?_)
                       intro e V7 hm
                       obtain ⟨ag, cg, rfl, t0, b0⟩ := hm.to
                       have BV7 := Lib.hid (BV6.out.trans (b0.mono BV6.out.size))
                       have Tg := Lib.hid t0
                       have Tf7 := Lib.hid (Tf.out.keep b0)
                       clear b0 t0 hm)
                    | (go_at_call 21
                       (with_reducible refine (same8_any af _ cf (findE E nm vl) ag _ cg (findE E nm vl) V7 Tf7.out Tg.out).mono ?_)
                       rintro e V8 ⟨rfl, hd⟩
                       rw [decide_eq_true rfl]
                       have BV8 := Lib.hid (BV7.out.trans (hd.bel.mono BV7.out.size))
                       clear hd)
                    | (go_at_call 28
                       (with_reducible refine (iwith_ok V8 x bl bn ρ E nm (XD.out.keep BV8.out) hE).mono ?_)
                       rintro e V9 ⟨ah, ch, rfl, t0, b0⟩
                       have BV9 := Lib.hid (BV8.out.trans (b0.mono BV8.out.size))
                       have Th := Lib.hid t0
                       clear b0 t0)
                    | (go_at_call 27
                       (with_reducible refine (HRA.out V9 BV9.out).mono ?_)
                       intro e VA hm
                       obtain ⟨ai, ci, rfl, t0, b0⟩ := hm.to
                       have BVA := Lib.hid (BV9.out.trans (b0.mono BV9.out.size))
                       have Ti := Lib.hid t0
                       have ThA := Lib.hid (Th.out.keep b0)
                       clear b0 t0 hm)
                    | (go_at_call 21
                       (with_reducible refine (same8_any ah _ ch (withE E nm) ai _ ci (withE E nm) VA ThA.out Ti.out).mono ?_)
                       rintro e VB ⟨rfl, hd⟩
                       rw [decide_eq_true rfl]
                       have BVB := Lib.hid (BVA.out.trans (hd.bel.mono BVA.out.size))
                       clear hd)
                    | fail)
                have bvb := BVB.out
                have bdu := bel_drew (Below.refl WU.heap.size WU)
                have bw := bdu.trans bvb
                replace X := Lib.hid (X.out.keep bw)
                replace R := Lib.hid (R.out.keep bw)
                replace BX := Lib.hid (BoxO.keep BX.out bw)
                replace LL := Lib.hid (LL.out.keep bw)
                replace B := Lib.hid (B.out.trans (bw.mono B.out.size))
                clear bvb bdu bw BV0 BV1 BV2 BV3 BV4 BV5 BV6 BV7 BV8 BV9 BVA BVB XD RD TLD TMD TL TM Tk Tl Tk3 Tf Tg Tf7 Th Ti ThA HHS HRK HSZ HRS HRF HRA HG XBU g0 g1 c1 c2 HS24 hkxs hbs
                have c1 := BoxO.x1 BX.out
                have c2 := BoxO.x2 BX.out
                obtain ⟨kb, hkb⟩ : ∃ kb, decide (keyB qs) = kb := ⟨_, rfl⟩
                obtain ⟨rb, hrb⟩ : ∃ rb, decide (rightL ql) = rb := ⟨_, rfl⟩
                have hkxs : kx < VB.heap.size := heap_lt BX.out
                have LD := Lib.hid (LL.out.trn (Trn.drew (fun _ => False) VB))
                have BV0 := Lib.hid (Below.refl VB.drew.heap.size VB.drew)
                have HK1 := Lib.hid (show ∀ V, Calls Try.prog 29 #[.string (bs qs)] V fun e w' => e = .returned (.bool kb) ∧ V = w' from fun V => by have C := key_any qs V; rw [hkb] at C; exact C)
                have HK2 := Lib.hid (show ∀ V, Calls Try.prog 30 #[.string (bs qs)] V fun e w' => e = .returned (.bool kb) ∧ V = w' from fun V => by have C := rkey_any qs V; rw [hkb] at C; exact C)
                have HR1 := Lib.hid (show ∀ V, Below VB.drew.heap.size VB.drew V → Calls Try.prog 31 #[.slice a' n' c'] V fun e w' => e = .returned (.bool rb) ∧ Below V.heap.size V w' from fun V b => by have C := right9_any a' n' c' ql V (LD.out.keep b); rw [hrb] at C; exact C)
                have HR2 := Lib.hid (show ∀ V, Below VB.drew.heap.size VB.drew V → Calls Try.prog 32 #[.slice a' n' c'] V fun e w' => e = .returned (.bool rb) ∧ Below V.heap.size V w' from fun V b => by have C := rright9_any a' n' c' ql V (LD.out.keep b); rw [hrb] at C; exact C.mono (fun e w' h => ⟨h.1, h.2.bel⟩))
                have HS26 := Lib.hid (show ∀ W', Below VB.drew.heap.size VB.drew W' → W'.cell? ⟨kx, 1, none⟩ = some (.string (bs qs)) ∧ W'.cell? ⟨kx, 2, none⟩ = some (.slice a' n' c') from fun W' b =>
                  ⟨(b.cell (p := ⟨kx, 1, none⟩) hkxs).trans c1, (b.cell (p := ⟨kx, 2, none⟩) hkxs).trans c2⟩)
                clear hkb hrb
                go_wp2_with fail
                go_region_held3 (fun W' => W'.cell? ⟨kx, 1, none⟩ = some (.string (bs qs)) ∧ W'.cell? ⟨kx, 2, none⟩ = some (.slice a' n' c'))
                  (first
                    | exact HS26.out _ BV2.out
                    | exact HS26.out _ BV1.out
                    | exact HS26.out _ BV0.out
                    | go_keep
                    | fail)
                  (first
                    | (go_at_call 29
                       (with_reducible refine (HK1.out _).mono ?_)
                       rintro e w' ⟨rfl, rfl⟩)
                    | (go_at_call 30
                       (with_reducible refine (HK2.out _).mono ?_)
                       rintro e w' ⟨rfl, rfl⟩)
                    | (go_at_call 31
                       (with_reducible refine (HR1.out VB.drew BV0.out).mono ?_)
                       rintro e V1 ⟨rfl, b0⟩
                       have BV1 := Lib.hid (BV0.out.trans (b0.mono BV0.out.size))
                       clear b0)
                    | (go_at_call 32
                       (with_reducible refine (HR2.out V1 BV1.out).mono ?_)
                       rintro e V2 ⟨rfl, b0⟩
                       have BV2 := Lib.hid (BV1.out.trans (b0.mono BV1.out.size))
                       clear b0)
                    | fail)
                have bv2 := BV2.out
                have bdu := bel_drew (Below.refl VB.heap.size VB)
                have bw := bdu.trans bv2
                replace X := Lib.hid (X.out.keep bw)
                replace R := Lib.hid (R.out.keep bw)
                replace B := Lib.hid (B.out.trans (bw.mono B.out.size))
                clear bv2 bdu bw BV0 BV1 BV2 LD HK1 HK2 HR1 HR2 HS26 hkxs c1 c2 BX LL
                go_wp2
                go_roundw
                case rel => exact ⟨j + 1, x, bl, bn, ρ, E, ra, rn, rc, T, rfl, by go_num, by omega, by omega, X, R, HE, E41, B, FX⟩
                case measure => simp [intOf]; omega
              · have c0 := BoxO.x0 BX.out
                have hkz0 : ¬ (qk : Int) = 0 := hK0
                have hkz1 : ¬ (qk : Int) = 1 := hK1
                go_wp2_with fail
                refine (icopy_ok W2 x bl bn ρ E X.out).mono ?_
                rintro e W3 ⟨y, b2, n2, ρ2, rfl, y3, b3, f3⟩
                have Y3 := Lib.hid y3
                have DJ := Lib.hid (show ∀ i, FA ρ2 i → ¬ FA ρ i from fun i h1 h2 => by have := X.out.lt h2; have := f3 i h1; omega)
                have FY := Lib.hid (show ∀ i, FA ρ2 i → W1.heap.size ≤ i from fun i h1 => Nat.le_trans B.out.size (f3 i h1))
                replace X := Lib.hid (X.out.keep b3)
                replace R := Lib.hid (R.out.keep b3)
                replace BX := Lib.hid (BoxO.keep BX.out b3)
                replace LL := Lib.hid (LL.out.keep b3)
                replace B := Lib.hid (B.out.trans (b3.mono B.out.size))
                clear y3 b3 f3
                go_wp2_with fail
                refine (show Calls Try.prog 12 #[.pointer (some ⟨x, 0, none⟩), .string ⟨#[108, 111, 115, 116]⟩, .slice none 0 0] W3 _ from iset_ok W3 x bl bn ρ E [108, 111, 115, 116] none 0 0 [] X.out (LbAt.nil _ _ _)).mono ?_
                rintro e W4 ⟨rfl, ρ4, t4⟩
                have hY := Lib.hid (Y3.out.trn t4.trn (fun i _ f g => DJ.out i f g))
                replace R := Lib.hid (R.out.trn t4.trn)
                replace BX := Lib.hid (BoxO.trn BX.out t4.trn)
                replace LL := Lib.hid (LL.out.trn t4.trn)
                replace B := Lib.hid (Trn.below B.out B.out.size t4.trn (fun i hi f => by have := FX.out i f; omega))
                have E42 := Lib.hid (show E.length ≤ j + 1 from by have := E41.out; omega)
                clear X FX DJ Y3 t4 E41
                obtain ⟨X, FX, E41⟩ := And.intro hY (And.intro FY E42)
                clear hY FY E42
                obtain ⟨x, rfl⟩ : ∃ T, T = y := ⟨_, rfl⟩
                obtain ⟨bl, rfl⟩ : ∃ T, T = b2 := ⟨_, rfl⟩
                obtain ⟨bn, rfl⟩ : ∃ T, T = n2 := ⟨_, rfl⟩
                obtain ⟨ρ, rfl⟩ : ∃ T, T = ρ2 := ⟨_, rfl⟩
                obtain ⟨WT, rfl⟩ : ∃ WT, WT = W4 := ⟨_, rfl⟩
                have c1 := BoxO.x1 BX.out
                go_wp2_with fail
                clear c1
                have c1 := BoxO.x1 BX.out
                refine (ilabels_ok WT x bl bn ρ E qs X.out).mono ?_
                rintro e WU ⟨al, cl, rfl, tl, bu⟩
                have BU := Lib.hid bu
                replace X := Lib.hid (X.out.keep bu)
                replace R := Lib.hid (R.out.keep bu)
                replace BX := Lib.hid (BoxO.keep BX.out bu)
                replace LL := Lib.hid (LL.out.keep bu)
                replace B := Lib.hid (B.out.trans (bu.mono B.out.size))
                have TL := Lib.hid tl
                clear tl bu BU c1
                have c1 := BoxO.x1 BX.out
                go_wp2_with fail
                have CL := rlabels_any WU r ra rn rc T qs R.out (by rw [HE.out]; exact ssG_nodup X.out.good.ss)
                rw [HE.out] at CL
                obtain ⟨hb, hhb⟩ : ∃ hb, decide (qs ∈ keysL E) = hb := ⟨_, rfl⟩
                rw [hhb] at CL
                obtain ⟨la, hla⟩ : ∃ la, (look E qs).getD [] = la := ⟨_, rfl⟩
                rw [hla] at CL
                rw [hla] at TL
                rw [hla]
                refine CL.mono ?_
                clear CL
                rintro e w' ⟨am, nm2, cm, rfl, tm, rfl⟩
                have TM := Lib.hid tm
                clear tm
                have hE : E.length ≤ 100000 := by have := E41.out; omega
                have hrn : rn ≤ 1000 := by have h1 := R.out.row.1; have h2 := E41.out; rw [← HE.out, ents_len] at h2; omega
                have XD := Lib.hid (X.out.trn (Trn.drew (fun _ => False) WU) (fun _ _ _ f => f))
                have RD := Lib.hid (R.out.trn (Trn.drew (fun _ => False) WU))
                have TLD := Lib.hid (TL.out.trn (Trn.drew (fun _ => False) WU))
                have TMD := Lib.hid (TM.out.trn (Trn.drew (fun _ => False) WU))
                have BV0 := Lib.hid (Below.refl WU.drew.heap.size WU.drew)
                have HG := Lib.hid (show ∀ p ∈ ents T, rightL p.2 from by rw [HE.out]; exact X.out.good.right)
                have HHS := Lib.hid (show ∀ V, Below WU.drew.heap.size WU.drew V → Calls Try.prog 20 #[.pointer (some ⟨x, 0, none⟩), .string (bs qs)] V fun e w' => e = .returned (.bool hb) ∧ V = w' from fun V b => by
                  have C := ihas_ok V x bl bn ρ E qs (XD.out.keep b)
                  rw [hhb] at C; exact C)
                have HRK := Lib.hid (show ∀ V, Below WU.drew.heap.size WU.drew V → Calls Try.prog 23 #[.pointer (some ⟨r, 0, none⟩)] V (MadeP V (keysL E)) from fun V b => by
                  have C := rkeys_any V r ra rn rc T (RD.out.keep b) hrn
                  rw [HE.out] at C; exact C)
                obtain ⟨sz, hsz⟩ : ∃ sz, sizeE E = sz := ⟨_, rfl⟩
                have HSZ := Lib.hid (show ∀ V, Below WU.drew.heap.size WU.drew V → Calls Try.prog 24 #[.pointer (some ⟨x, 0, none⟩)] V fun e w' => e = .returned (.int .i64 (sz : Int)) ∧ Below V.heap.size V w' from fun V b => by
                  have C := isize_ok V x bl bn ρ E (XD.out.keep b) hE
                  rw [hsz] at C; exact C)
                have HRS := Lib.hid (show ∀ V, Below WU.drew.heap.size WU.drew V → Calls Try.prog 25 #[.pointer (some ⟨r, 0, none⟩)] V fun e w' => e = .returned (.int .i64 (sz : Int)) ∧ V = w' from fun V b => by
                  have C := rsize_any V r ra rn rc T (RD.out.keep b) HG.out hrn
                  rw [HE.out, hsz] at C; exact C)
                have HRF := Lib.hid (show ∀ V, Below WU.drew.heap.size WU.drew V → Calls Try.prog 27 #[.pointer (some ⟨r, 0, none⟩), .string (bs nm), .string (bs vl), .bool false] V (MadeP V (findE E nm vl)) from fun V b => by
                  have C := rfind_one V r ra rn rc T nm vl (RD.out.keep b) HG.out hrn
                  rw [HE.out] at C; exact C)
                have HRA := Lib.hid (show ∀ V, Below WU.drew.heap.size WU.drew V → Calls Try.prog 27 #[.pointer (some ⟨r, 0, none⟩), .string (bs nm), .string ⟨#[]⟩, .bool true] V (MadeP V (withE E nm)) from fun V b => by
                  have C := rfind_any V r ra rn rc T nm [] (RD.out.keep b) HG.out hrn
                  rw [HE.out] at C; exact C)
                have hkxs : kx < WU.heap.size := heap_lt BX.out
                have hbs : w.heap.size < WU.heap.size := Nat.lt_of_lt_of_le hbx B.out.size
                have XBU := Lib.hid (show BoxL WU w.heap.size nm vl from (B.out.block _ hbx).trans XB0.out)
                have g0 := BoxL.x0 XBU.out
                have g1 := BoxL.x1 XBU.out
                have c2 := BoxO.x2 BX.out
                have HS24 := Lib.hid (show ∀ W', Below WU.drew.heap.size WU.drew W' → W'.cell? ⟨kx, 1, none⟩ = some (.string (bs qs)) ∧ W'.cell? ⟨w.heap.size, 0, none⟩ = some (.string (bs nm)) ∧ W'.cell? ⟨w.heap.size, 1, none⟩ = some (.string (bs vl)) from fun W' b =>
                  ⟨(b.cell (p := ⟨kx, 1, none⟩) hkxs).trans c1, (b.cell (p := ⟨w.heap.size, 0, none⟩) hbs).trans g0, (b.cell (p := ⟨w.heap.size, 1, none⟩) hbs).trans g1⟩)
                clear hla hhb hsz
                go_wp2_with fail
                go_region_held3 (fun W' => W'.cell? ⟨kx, 1, none⟩ = some (.string (bs qs)) ∧ W'.cell? ⟨w.heap.size, 0, none⟩ = some (.string (bs nm)) ∧ W'.cell? ⟨w.heap.size, 1, none⟩ = some (.string (bs vl)))
                  (first
                    | exact HS24.out _ BVB.out
                    | exact HS24.out _ BVA.out
                    | exact HS24.out _ BV9.out
                    | exact HS24.out _ BV8.out
                    | exact HS24.out _ BV7.out
                    | exact HS24.out _ BV6.out
                    | exact HS24.out _ BV5.out
                    | exact HS24.out _ BV4.out
                    | exact HS24.out _ BV3.out
                    | exact HS24.out _ BV2.out
                    | exact HS24.out _ BV1.out
                    | exact HS24.out _ BV0.out
                    | go_keep
                    | fail)
                  (first
                    | (go_at_call 19
                       (with_reducible refine (same9_any al _ cl la am nm2 cm la WU.drew TLD.out TMD.out).mono ?_)
                       rintro e V1 ⟨rfl, hd⟩
                       rw [decide_eq_true rfl]
                       have BV1 := Lib.hid (BV0.out.trans (hd.bel.mono BV0.out.size))
                       clear hd)
                    | (go_at_call 20
                       (with_reducible refine (HHS.out V1 BV1.out).mono ?_)
                       rintro e w' ⟨rfl, rfl⟩)
                    | (go_at_call 22
                       (with_reducible refine (ikeys_ok V1 x bl bn ρ E (XD.out.keep BV1.out) hE).mono ?_)
                       rintro e V2 ⟨ak, ck, rfl, t0, b0⟩
                       have BV2 := Lib.hid (BV1.out.trans (b0.mono BV1.out.size))
                       have Tk := Lib.hid t0
                       clear b0 t0)
                    | (go_at_call 23
                       (with_reducible refine (HRK.out V2 BV2.out).mono ?_)
                       intro e V3 hm
                       obtain ⟨a_l, c_l, rfl, t0, b0⟩ := hm.to
                       have BV3 := Lib.hid (BV2.out.trans (b0.mono BV2.out.size))
                       have Tl := Lib.hid t0
                       have Tk3 := Lib.hid (Tk.out.keep b0)
                       clear b0 t0 hm)
                    | (go_at_call 21
                       (with_reducible refine (same8_any ak _ ck (keysL E) a_l _ c_l (keysL E) V3 Tk3.out Tl.out).mono ?_)
                       rintro e V4 ⟨rfl, hd⟩
                       rw [decide_eq_true rfl]
                       have BV4 := Lib.hid (BV3.out.trans (hd.bel.mono BV3.out.size))
                       clear hd)
                    | (go_at_call 24
                       (with_reducible refine (HSZ.out V4 BV4.out).mono ?_)
                       rintro e V5 ⟨rfl, b0⟩
                       have BV5 := Lib.hid (BV4.out.trans (b0.mono BV4.out.size))
                       clear b0)
                    | (go_at_call 25
                       (with_reducible refine (HRS.out V5 BV5.out).mono ?_)
                       rintro e w' ⟨rfl, rfl⟩)
                    | (go_at_call 26
                       (with_reducible refine (ifind_ok V5 x bl bn ρ E nm vl (XD.out.keep BV5.out) hE).mono ?_)
                       rintro e V6 ⟨af, cf, rfl, t0, b0⟩
                       have BV6 := Lib.hid (BV5.out.trans (b0.mono BV5.out.size))
                       have Tf := Lib.hid t0
                       clear b0 t0)
                    | (go_at_call 27
                       (with_reducible refine (HRF.out V6 BV6.out).mono ?_)
                       intro e V7 hm
                       obtain ⟨ag, cg, rfl, t0, b0⟩ := hm.to
                       have BV7 := Lib.hid (BV6.out.trans (b0.mono BV6.out.size))
                       have Tg := Lib.hid t0
                       have Tf7 := Lib.hid (Tf.out.keep b0)
                       clear b0 t0 hm)
                    | (go_at_call 21
                       (with_reducible refine (same8_any af _ cf (findE E nm vl) ag _ cg (findE E nm vl) V7 Tf7.out Tg.out).mono ?_)
                       rintro e V8 ⟨rfl, hd⟩
                       rw [decide_eq_true rfl]
                       have BV8 := Lib.hid (BV7.out.trans (hd.bel.mono BV7.out.size))
                       clear hd)
                    | (go_at_call 28
                       (with_reducible refine (iwith_ok V8 x bl bn ρ E nm (XD.out.keep BV8.out) hE).mono ?_)
                       rintro e V9 ⟨ah, ch, rfl, t0, b0⟩
                       have BV9 := Lib.hid (BV8.out.trans (b0.mono BV8.out.size))
                       have Th := Lib.hid t0
                       clear b0 t0)
                    | (go_at_call 27
                       (with_reducible refine (HRA.out V9 BV9.out).mono ?_)
                       intro e VA hm
                       obtain ⟨ai, ci, rfl, t0, b0⟩ := hm.to
                       have BVA := Lib.hid (BV9.out.trans (b0.mono BV9.out.size))
                       have Ti := Lib.hid t0
                       have ThA := Lib.hid (Th.out.keep b0)
                       clear b0 t0 hm)
                    | (go_at_call 21
                       (with_reducible refine (same8_any ah _ ch (withE E nm) ai _ ci (withE E nm) VA ThA.out Ti.out).mono ?_)
                       rintro e VB ⟨rfl, hd⟩
                       rw [decide_eq_true rfl]
                       have BVB := Lib.hid (BVA.out.trans (hd.bel.mono BVA.out.size))
                       clear hd)
                    | fail)
                have bvb := BVB.out
                have bdu := bel_drew (Below.refl WU.heap.size WU)
                have bw := bdu.trans bvb
                replace X := Lib.hid (X.out.keep bw)
                replace R := Lib.hid (R.out.keep bw)
                replace BX := Lib.hid (BoxO.keep BX.out bw)
                replace LL := Lib.hid (LL.out.keep bw)
                replace B := Lib.hid (B.out.trans (bw.mono B.out.size))
                clear bvb bdu bw BV0 BV1 BV2 BV3 BV4 BV5 BV6 BV7 BV8 BV9 BVA BVB XD RD TLD TMD TL TM Tk Tl Tk3 Tf Tg Tf7 Th Ti ThA HHS HRK HSZ HRS HRF HRA HG XBU g0 g1 c1 c2 HS24 hkxs hbs
                have c1 := BoxO.x1 BX.out
                have c2 := BoxO.x2 BX.out
                obtain ⟨kb, hkb⟩ : ∃ kb, decide (keyB qs) = kb := ⟨_, rfl⟩
                obtain ⟨rb, hrb⟩ : ∃ rb, decide (rightL ql) = rb := ⟨_, rfl⟩
                have hkxs : kx < VB.heap.size := heap_lt BX.out
                have LD := Lib.hid (LL.out.trn (Trn.drew (fun _ => False) VB))
                have BV0 := Lib.hid (Below.refl VB.drew.heap.size VB.drew)
                have HK1 := Lib.hid (show ∀ V, Calls Try.prog 29 #[.string (bs qs)] V fun e w' => e = .returned (.bool kb) ∧ V = w' from fun V => by have C := key_any qs V; rw [hkb] at C; exact C)
                have HK2 := Lib.hid (show ∀ V, Calls Try.prog 30 #[.string (bs qs)] V fun e w' => e = .returned (.bool kb) ∧ V = w' from fun V => by have C := rkey_any qs V; rw [hkb] at C; exact C)
                have HR1 := Lib.hid (show ∀ V, Below VB.drew.heap.size VB.drew V → Calls Try.prog 31 #[.slice a' n' c'] V fun e w' => e = .returned (.bool rb) ∧ Below V.heap.size V w' from fun V b => by have C := right9_any a' n' c' ql V (LD.out.keep b); rw [hrb] at C; exact C)
                have HR2 := Lib.hid (show ∀ V, Below VB.drew.heap.size VB.drew V → Calls Try.prog 32 #[.slice a' n' c'] V fun e w' => e = .returned (.bool rb) ∧ Below V.heap.size V w' from fun V b => by have C := rright9_any a' n' c' ql V (LD.out.keep b); rw [hrb] at C; exact C.mono (fun e w' h => ⟨h.1, h.2.bel⟩))
                have HS26 := Lib.hid (show ∀ W', Below VB.drew.heap.size VB.drew W' → W'.cell? ⟨kx, 1, none⟩ = some (.string (bs qs)) ∧ W'.cell? ⟨kx, 2, none⟩ = some (.slice a' n' c') from fun W' b =>
                  ⟨(b.cell (p := ⟨kx, 1, none⟩) hkxs).trans c1, (b.cell (p := ⟨kx, 2, none⟩) hkxs).trans c2⟩)
                clear hkb hrb
                go_wp2_with fail
                go_region_held3 (fun W' => W'.cell? ⟨kx, 1, none⟩ = some (.string (bs qs)) ∧ W'.cell? ⟨kx, 2, none⟩ = some (.slice a' n' c'))
                  (first
                    | exact HS26.out _ BV2.out
                    | exact HS26.out _ BV1.out
                    | exact HS26.out _ BV0.out
                    | go_keep
                    | fail)
                  (first
                    | (go_at_call 29
                       (with_reducible refine (HK1.out _).mono ?_)
                       rintro e w' ⟨rfl, rfl⟩)
                    | (go_at_call 30
                       (with_reducible refine (HK2.out _).mono ?_)
                       rintro e w' ⟨rfl, rfl⟩)
                    | (go_at_call 31
                       (with_reducible refine (HR1.out VB.drew BV0.out).mono ?_)
                       rintro e V1 ⟨rfl, b0⟩
                       have BV1 := Lib.hid (BV0.out.trans (b0.mono BV0.out.size))
                       clear b0)
                    | (go_at_call 32
                       (with_reducible refine (HR2.out V1 BV1.out).mono ?_)
                       rintro e V2 ⟨rfl, b0⟩
                       have BV2 := Lib.hid (BV1.out.trans (b0.mono BV1.out.size))
                       clear b0)
                    | fail)
                have bv2 := BV2.out
                have bdu := bel_drew (Below.refl VB.heap.size VB)
                have bw := bdu.trans bv2
                replace X := Lib.hid (X.out.keep bw)
                replace R := Lib.hid (R.out.keep bw)
                replace B := Lib.hid (B.out.trans (bw.mono B.out.size))
                clear bv2 bdu bw BV0 BV1 BV2 LD HK1 HK2 HR1 HR2 HS26 hkxs c1 c2 BX LL
                go_wp2
                go_roundw
                case rel => exact ⟨j + 1, x, bl, bn, ρ, E, ra, rn, rc, T, rfl, by go_num, by omega, by omega, X, R, HE, E41, B, FX⟩
                case measure => simp [intOf]; omega
          · rw [decide_eq_false hlt] at CLT
            clear hlt
            refine CLT.mono ?_
            clear CLT
            rintro e W3 ⟨rfl, br⟩
            have E42 := Lib.hid (show E.length ≤ j + 1 from by have := E41.out; omega)
            replace X := Lib.hid (X.out.keep br)
            replace R := Lib.hid (R.out.keep br)
            replace B := Lib.hid (B.out.trans (br.mono B.out.size))
            clear br BX LL
            go_wp2
            go_roundw
            case rel => exact ⟨j + 1, x, bl, bn, ρ, E, ra, rn, rc, T, rfl, by go_num, by omega, by omega, X, R, HE, E42, B, FX⟩
            case measure => simp [intOf]; omega
        · have hjz : (j : Int) < (n : Int) := by omega
          have hjf : ¬ (j : Int) < 40 := by omega
          have hjl : j = 40 := by omega
          go_wp2_with fail
          refine (iknown_any _).mono ?_
          rintro e w9 ⟨rfl, b9⟩
          go_wp2
          go_ret
          exact ⟨rfl, BW0.out.trans ((B.out.trans (b9.mono B.out.size)).mono BW0.out.size)⟩
        · have hjz : ¬ (j : Int) < (n : Int) := by omega
          go_wp2_with fail
          refine (iknown_any _).mono ?_
          rintro e w9 ⟨rfl, b9⟩
          go_wp2
          go_ret
          exact ⟨rfl, BW0.out.trans ((B.out.trans (b9.mono B.out.size)).mono BW0.out.size)⟩
    · have k2z : (100 : Int) < (m2 : Int) := by omega
      go_wp2_with fail
      refine (iknown_any _).mono ?_
      rintro e w9 ⟨rfl, b9⟩
      go_wp2
      go_ret
      exact ⟨rfl, BW0.out.trans ((B.out.trans (b9.mono B.out.size)).mono BW0.out.size)⟩
  · have k1z : (100 : Int) < (m1 : Int) := by omega
    go_wp2_with fail
    refine (iknown_any _).mono ?_
    rintro e w9 ⟨rfl, b9⟩
    go_wp2
    go_ret
    exact ⟨rfl, BW0.out.trans ((B.out.trans (b9.mono B.out.size)).mono BW0.out.size)⟩

set_option maxRecDepth 100000 in
theorem lifted (os : Os) (started : os.Started) (H : Type) (enc : TypeId × Value → H) :
    ReturnsInHanded {} Try.checked os 3 .any (Rows.indexPlaysSpec.pre6 enc Try.prog Try.f3 Rows.indexPlaysRow.domain false) (Rows.indexPlaysSpec.post enc Try.prog Try.f3 false true false false) := by
  refine returnsInHanded_of_change (C := Try.checked) own started (by kernel_rfl) Try.func3
    (ChangeSpec.witness6 (enc := enc) (C := Try.checked) false ⟨#[], #[.slice none 0 0, .agg #[.string ByteArray.empty, .string ByteArray.empty]], []⟩ 8 (by kernel_rfl) (by kernel_rfl) (by kernel_rfl) (by kernel_rfl)) ?_
  intro W base args ds gs before hval0 hW hcnd _
  have hval : ∀ (j : Nat) t v, Try.f3.params[j]? = some t → args[j]? = some v → Value.okWide Try.prog W .any base t v := hval0
  have hW' := hW
  obtain ⟨p, q, hA0, hV, rfl, hfz, hnd⟩ := hW
  have hA : DataW.TrodAll enc Try.prog W 0 (fun _ => true) true Try.f3.params.toList args.toList ds p := hA0
  rw [Try.params3] at hA hval
  obtain ⟨v0, vs0, d0, ds0, p0, q0, hargs, rfl, rfl, h0, r0⟩ := trodAll_cons hA
  obtain ⟨v1, vs1, d1, ds1, p1, q1, rfl, rfl, rfl, h1, r1⟩ := trodAll_cons r0
  obtain ⟨rfl, rfl, rfl⟩ := trodAll_nil r1
  obtain rfl : args = #[v0, v1] := by cases args; simp_all
  obtain ⟨rfl, rfl⟩ := trodVars_none hV
  obtain ⟨a0, len0, cap0, rfl⟩ := okWide_slice Try.underlying22 (hval 0 22 v0 rfl rfl)
  have k0 := h0
  have lt0 : ∀ x ∈ p0, x.block < W.heap.size := by obtain ⟨m, hm⟩ := k0; exact DataW.trod_lt m _ _ _ hm
  obtain ⟨z0, w0⟩ := open_ops9 h0
  have k1 := h1
  have lt1 : ∀ x ∈ p1, x.block < W.heap.size := by obtain ⟨m, hm⟩ := k1; exact DataW.trod_lt m _ _ _ hm
  obtain ⟨a1, rfl, w1⟩ := open_lb9 (hval 1 24 v1 rfl rfl) h1
  clear hA0 hval0
  refine (walk a0 len0 cap0 z0 a1 W w0 w1).mono fun e W' ⟨he, bel⟩ => ?_
  subst he
  exact ⟨_, rfl, _, _, _, [], _, [], hW', trodAll_mk1 (shut_bool Try.underlying4 _), (trodAll_cons_mk (Below.trod laidOut (by kernel_rfl) (of_decide_eq_true (by kernel_rfl)) k0 bel lt0) (trodAll_cons_mk (Below.trod laidOut (by kernel_rfl) (of_decide_eq_true (by kernel_rfl)) k1 bel lt1) trodAll_mk0)), rfl, bel.frame _, fun h => by cases h⟩

theorem over : Rows.indexPlaysRow.holds Try.pinned (OpenSpec.ofChange Rows.indexPlaysSpec) :=
  OpenClaim.holds_of_wide 3 Try.f3 rfl rfl rfl rfl rfl rfl rfl ⟨rfl, rfl, rfl, rfl, rfl⟩ rfl rfl rfl rfl rfl (by kernel_rfl) Try.func3 (by kernel_rfl)
    (of_decide_eq_true (by kernel_rfl)) (by unfold Func.isWrapper; first | (rw [if_pos (by decide +kernel)]; kernel_rfl) | (rw [if_neg (by decide +kernel)]; exact ⟨rfl, rfl⟩))
    (fun os started H enc _ => lifted os started H enc)

theorem proved : Rows.IndexPlaysSaid := over
end indexPlays
theorem indexPlays_holds : Rows.IndexPlaysSaid := indexPlays.proved
#print axioms indexPlays_holds
end Go.Proofs.Ytpkbkemenfdadaa
