/-
  The statement 'IndexFinds' of layer 9: a key is found by each of its labels, and is among those with that name; what is found by a label has it.
  No condition on the arguments.
-/
import Derived.Test.YtpkbkemenfdadaaIBuild
import Derived.Test.YtpkbkemenfdadaaIArgs
import Derived.Test.YtpkbkemenfdadaaRows
import Derived.Test.YtpkbkemenfdadaaIMath2
import Derived.ChangeOld
namespace Go.Proofs.Ytpkbkemenfdadaa
namespace indexFinds
open Go.ChangeShapes Go.WideShapes Go.ChangeAt Go.RowKit
open Go.ChangeMaps (open_string shut_string)
set_option linter.unusedVariables false
set_option linter.unusedSimpArgs false

theorem own : ownKnob Try.prog.godebug = none := by kernel_rfl

theorem BoxL.trn {F : Nat → Prop} {w w' : World} {B : Nat} {n v : Tx} (h : BoxL w B n v) (t : Trn F w w') : BoxL w' B n v := t.cells _ _ _ _ h
theorem BoxL.keep {w w' : World} {B : Nat} {n v : Tx} (h : BoxL w B n v) (b : Below w.heap.size w w') : BoxL w' B n v := h.trn (F := fun _ => False) (.of b)
theorem in_snoc (x y : Lb) (L : List Lb) : decide (x ∈ L ++ [y]) = (decide (x ∈ L) || decide (y = x)) := by
  rw [← Bool.decide_or, decide_eq_decide, List.mem_append, List.mem_singleton]
  exact or_congr Iff.rfl eq_comm
theorem in_snocK (n m v : Tx) (L : List Lb) : decide (n ∈ keysL (L ++ [(m, v)])) = (decide (n ∈ keysL L) || decide (m = n)) := by
  rw [← Bool.decide_or, decide_eq_decide]
  unfold keysL
  rw [List.map_append, List.mem_append]
  simp only [List.map_cons, List.map_nil, List.mem_singleton]
  exact or_congr Iff.rfl eq_comm
set_option maxRecDepth 100000 in
set_option maxHeartbeats 16000000 in
theorem walk (a : Option Addr) (n c : Nat) (z : List OpL) (q : Lb) (w : World) (h : OpAt w a n c z) (_ : True) :
    Calls Try.prog 4 #[.slice a n c, .agg #[.string (bs q.1), .string (bs q.2)]] w fun e w' => e = .returned (.bool true) ∧ Below w.heap.size w w' := by
  obtain ⟨nm, vl⟩ := q
  have hB := (Below.refl w.heap.size w).alloc (Nat.le_refl _) (.cells #[.string (bs nm), .string (bs vl)] 24)
  have XB := Lib.hid (show BoxL (w.alloc (.cells #[.string (bs nm), .string (bs vl)] 24)) w.heap.size nm vl from heap_new w _)
  have HZ := Lib.hid (build9_any a n c z _ (h.keep hB))
  have B := Lib.hid hB
  obtain ⟨m1, hm1⟩ : ∃ m, (bs nm).size = m := ⟨_, rfl⟩
  obtain ⟨m2, hm2⟩ : ∃ m, (bs vl).size = m := ⟨_, rfl⟩
  clear hB h
  go_enter Try.func4, Try.ntmps4
  go_wp2_with fail
  generalize w.alloc (.cells #[.string (bs nm), .string (bs vl)] 24) = W1 at *
  refine HZ.out.mono ?_
  rintro e W2 ⟨x, bl, bn, ρ, E, rfl, x1, e40, b1, f1⟩
  have E40 := Lib.hid e40
  have X0 := Lib.hid x1
  have FX := Lib.hid f1
  replace XB := Lib.hid (BoxL.keep XB.out b1)
  replace B := Lib.hid (B.out.trans (b1.mono B.out.size))
  clear HZ x1 b1 f1
  have c0 := XB.out.x0
  have c1 := XB.out.x1
  by_cases k1 : m1 ≤ 100
  · have k1z : ¬ (100 : Int) < (m1 : Int) := by omega
    by_cases k2 : m2 ≤ 100
    · have k2z : ¬ (100 : Int) < (m2 : Int) := by omega
      have HG := Lib.hid X0.out.good
      have HKB := Lib.hid (show ∀ y ∈ keysL E, y.length ≤ 64 from fun y hy => by
        obtain ⟨e, he, rfl⟩ := List.mem_map.1 hy
        exact (HG.out.key e he).2)
      go_wp2_with fail
      clear c0 c1
      refine (ikeys_ok W2 x bl bn ρ E X0.out (by have := E40.out; omega)).mono ?_
      rintro e W3 ⟨a_k, c_k, rfl, t, br⟩
      obtain ⟨n_k, hl⟩ : ∃ n, (keysL E).length = n := ⟨_, rfl⟩
      rw [hl] at t
      rw [hl]
      have H_k := Lib.hid hl
      have Tk := Lib.hid t
      clear t hl
      replace X0 := Lib.hid (X0.out.keep br)
      replace XB := Lib.hid (BoxL.keep XB.out br)
      replace B := Lib.hid (B.out.trans (br.mono B.out.size))
      clear br
      have c0 := XB.out.x0
      have c1 := XB.out.x1
      go_wp2_with fail
      refine (ifind_ok W3 x bl bn ρ E nm vl X0.out (by have := E40.out; omega)).mono ?_
      rintro e W4 ⟨a_f, c_f, rfl, t, br⟩
      obtain ⟨n_f, hl⟩ : ∃ n, (findE E nm vl).length = n := ⟨_, rfl⟩
      rw [hl] at t
      rw [hl]
      have H_f := Lib.hid hl
      have Tf := Lib.hid t
      clear t hl
      replace X0 := Lib.hid (X0.out.keep br)
      replace XB := Lib.hid (BoxL.keep XB.out br)
      replace Tk := Lib.hid (Tk.out.keep br)
      replace B := Lib.hid (B.out.trans (br.mono B.out.size))
      clear br
      clear c0 c1
      have c0 := XB.out.x0
      go_wp2_with fail
      refine (iwith_ok W4 x bl bn ρ E nm X0.out (by have := E40.out; omega)).mono ?_
      rintro e W5 ⟨a_wi, c_wi, rfl, t, br⟩
      obtain ⟨n_wi, hl⟩ : ∃ n, (withE E nm).length = n := ⟨_, rfl⟩
      rw [hl] at t
      rw [hl]
      have H_wi := Lib.hid hl
      have Twi := Lib.hid t
      clear t hl
      replace X0 := Lib.hid (X0.out.keep br)
      replace XB := Lib.hid (BoxL.keep XB.out br)
      replace Tk := Lib.hid (Tk.out.keep br)
      replace Tf := Lib.hid (Tf.out.keep br)
      replace B := Lib.hid (B.out.trans (br.mono B.out.size))
      clear br
      clear c0
      go_wp2_with fail
      have C := rright8_any a_k n_k c_k (keysL E) W5 Tk.out (fun y hy => by have := HKB.out y hy; omega)
      rw [decide_eq_true HG.out.ss] at C
      refine C.mono ?_
      clear C
      rintro e W6 ⟨rfl, hd⟩
      have br := hd.bel
      clear hd
      replace X0 := Lib.hid (X0.out.keep br)
      replace XB := Lib.hid (BoxL.keep XB.out br)
      replace Tk := Lib.hid (Tk.out.keep br)
      replace Tf := Lib.hid (Tf.out.keep br)
      replace Twi := Lib.hid (Twi.out.keep br)
      replace B := Lib.hid (B.out.trans (br.mono B.out.size))
      clear br
      go_wp2_with fail
      have C := rright8_any a_f n_f c_f (findE E nm vl) W6 Tf.out (fun y hy => by have := HKB.out y (SOf.key (mem_find.1 hy)); omega)
      rw [decide_eq_true (find_ss HG.out.ss nm vl)] at C
      refine C.mono ?_
      clear C
      rintro e W7 ⟨rfl, hd⟩
      have br := hd.bel
      clear hd
      replace X0 := Lib.hid (X0.out.keep br)
      replace XB := Lib.hid (BoxL.keep XB.out br)
      replace Tk := Lib.hid (Tk.out.keep br)
      replace Tf := Lib.hid (Tf.out.keep br)
      replace Twi := Lib.hid (Twi.out.keep br)
      replace B := Lib.hid (B.out.trans (br.mono B.out.size))
      clear br
      go_wp2_with fail
      have C := rright8_any a_wi n_wi c_wi (withE E nm) W7 Twi.out (fun y hy => by obtain ⟨v, hv⟩ := mem_with.1 hy; have := HKB.out y hv.key; omega)
      rw [decide_eq_true (with_ss HG.out.ss nm)] at C
      refine C.mono ?_
      clear C
      rintro e W8 ⟨rfl, hd⟩
      have br := hd.bel
      clear hd
      replace X0 := Lib.hid (X0.out.keep br)
      replace XB := Lib.hid (BoxL.keep XB.out br)
      replace Tk := Lib.hid (Tk.out.keep br)
      replace Tf := Lib.hid (Tf.out.keep br)
      replace Twi := Lib.hid (Twi.out.keep br)
      replace B := Lib.hid (B.out.trans (br.mono B.out.size))
      clear br
      have hfw : n_f ≤ n_wi := by rw [← H_f.out, ← H_wi.out]; exact find_len E nm vl
      have hkE : E.length = n_k := by rw [← H_k.out]; unfold keysL; rw [List.length_map]
      have hwk : n_wi ≤ n_k := by rw [← H_wi.out, ← hkE]; exact with_len E nm
      have hk40 : n_k ≤ 40 := by have := E40.out; omega
      have HKE := Lib.hid hkE
      clear hkE
      go_wp2_with fail
      go_loopw [9] (fun vi wr => ∃ (i : Nat), vi = .int .i64 (i : Int) ∧ i ≤ n_k ∧ Hid (IxAt wr x bl bn ρ E) ∧ Hid (BoxL wr w.heap.size nm vl) ∧ Hid (TxAt wr a_k n_k c_k (keysL E)) ∧ Hid (TxAt wr a_f n_f c_f (findE E nm vl)) ∧ Hid (TxAt wr a_wi n_wi c_wi (withE E nm)) ∧ Hid (Below w.heap.size w wr)) (fun vi _ => n_k - (intOf vi).toNat)
      case atStart => exact ⟨0, rfl, Nat.zero_le _, X0, XB, Tk, Tf, Twi, B⟩
      case round =>
        clear X0 XB Tk Tf Twi B
        obtain ⟨i, rfl, hi, X0, XB, Tk, Tf, Twi, B⟩ := hrel
        by_cases hin : i < n_k
        · have hiz : (i : Int) < (n_k : Int) := by omega
          have hi0 : (0 : Int) ≤ (i : Int) := by omega
          have hiE : i < E.length := by rw [HKE.out]; exact hin
          obtain ⟨pb, po, e1, hpb, x0⟩ := Tk.out.at_ i hin
          subst e1
          have HKI := Lib.hid (keysL_at hiE)
          rw [keysL_at hiE] at x0
          have HLK := Lib.hid (show (look E E[i].1).getD [] = E[i].2 from by rw [look_at HG.out.ss hiE]; rfl)
          have HIN := Lib.hid (show E[i].1 ∈ keysL E from List.mem_map.2 ⟨_, List.getElem_mem hiE, rfl⟩)
          have HSO := Lib.hid (show ∀ a b, SOf E a b E[i].1 ↔ (a, b) ∈ E[i].2 from fun a b => by
            constructor
            · rintro ⟨l, h1, h2⟩
              have e1 := mem_look (ssG_nodup HG.out.ss) h1
              rw [look_at HG.out.ss hiE] at e1
              simp only [Option.some.injEq] at e1
              rw [e1]; exact h2
            · exact fun h => ⟨_, List.getElem_mem hiE, h⟩)
          have HR := Lib.hid (HG.out.right _ (List.getElem_mem hiE))
          generalize E[i] = pr at *
          clear hiE
          obtain ⟨key, l⟩ := pr
          have HF := Lib.hid (show (key ∈ findE E nm vl) ↔ (nm, vl) ∈ l from by rw [mem_find]; exact HSO.out nm vl)
          have HW := Lib.hid (show (key ∈ withE E nm) ↔ nm ∈ keysL l from by
            rw [mem_with]
            constructor
            · rintro ⟨v, hv⟩
              exact List.mem_map.2 ⟨_, (HSO.out nm v).1 hv, rfl⟩
            · intro h
              obtain ⟨y, hy, e⟩ := List.mem_map.1 h
              obtain ⟨y1, y2⟩ := y
              subst e
              exact ⟨y2, (HSO.out y1 y2).2 hy⟩)
          have HFL := Lib.hid (show ∀ y ∈ l, key ∈ findE E y.1 y.2 ∧ key ∈ withE E y.1 from fun y hy => ⟨mem_find.2 ((HSO.out y.1 y.2).2 hy), mem_with.2 ⟨y.2, (HSO.out y.1 y.2).2 hy⟩⟩)
          have HLC := Lib.hid (ilabels_ok wr x bl bn ρ E key X0.out)
          rw [show (look E key).getD [] = l from HLK.out] at HLC
          go_wp2_with fail
          refine HLC.out.mono ?_
          rintro e w3 ⟨al, cl, rfl, tl, br⟩
          obtain ⟨q, hq⟩ : ∃ q, l.length = q := ⟨_, rfl⟩
          have hq8 : q ≤ 8 := by rw [← hq]; exact HR.out.1
          rw [hq] at tl
          rw [hq]
          have HQ := Lib.hid hq
          have TL := Lib.hid tl
          replace X0 := Lib.hid (X0.out.keep br)
          replace XB := Lib.hid (BoxL.keep XB.out br)
          replace Tk := Lib.hid (Tk.out.keep br)
          replace Tf := Lib.hid (Tf.out.keep br)
          replace Twi := Lib.hid (Twi.out.keep br)
          replace B := Lib.hid (B.out.trans (br.mono B.out.size))
          clear br tl hq HLC HLK HR HSO x0 hpb
          have HF0 := Lib.hid (show false = decide ((nm, vl) ∈ l.take 0) from by simp)
          have HW0 := Lib.hid (show false = decide (nm ∈ keysL (l.take 0)) from by simp [keysL])
          obtain ⟨wo, rfl⟩ : ∃ wo : World, wo = wr := ⟨_, rfl⟩
          go_wp2_with fail
          go_loopw [11, 12, 13] (fun vf vw vk wr => ∃ (k : Nat) (fb wb : Bool), vf = .bool fb ∧ vw = .bool wb ∧ vk = .int .i64 (k : Int) ∧ k ≤ q ∧ Hid (fb = decide ((nm, vl) ∈ l.take k)) ∧ Hid (wb = decide (nm ∈ keysL (l.take k))) ∧ Hid (IxAt wr x bl bn ρ E) ∧ Hid (BoxL wr w.heap.size nm vl) ∧ Hid (TxAt wr (some ⟨pb, po, none⟩) n_k c_k (keysL E)) ∧ Hid (TxAt wr a_f n_f c_f (findE E nm vl)) ∧ Hid (TxAt wr a_wi n_wi c_wi (withE E nm)) ∧ Hid (LbAt wr al q cl l) ∧ Hid (Below w.heap.size w wr)) (fun _ _ vk _ => q - (intOf vk).toNat)
          case atStart => exact ⟨0, false, false, rfl, rfl, rfl, Nat.zero_le _, HF0, HW0, X0, XB, Tk, Tf, Twi, TL, B⟩
          case round =>
            clear X0 XB Tk Tf Twi TL B HF0 HW0
            obtain ⟨k, fb, wb, rfl, rfl, rfl, hk, HFB, HWB, X0, XB, Tk, Tf, Twi, TL, B⟩ := hrel
            obtain ⟨pb', po', e1, hpb, x0⟩ := Tk.out.at_ i hin
            obtain ⟨rfl, rfl⟩ : pb = pb' ∧ po = po' := by simpa using e1
            rw [show (keysL E).getD i [] = key from HKI.out] at x0
            clear e1
            by_cases hkn : k < q
            · have hkz : (k : Int) < (q : Int) := by omega
              have hk0 : (0 : Int) ≤ (k : Int) := by omega
              obtain ⟨qb, qo, e1, hqb, y0, y1⟩ := TL.out.at_ k hkn
              subst e1
              have hkl : k < l.length := by rw [HQ.out]; exact hkn
              have HFK := Lib.hid (HFL.out _ (lb_mem hkl)).1
              have HWK := Lib.hid (HFL.out _ (lb_mem hkl)).2
              have HT := Lib.hid (show l.take (k + 1) = l.take k ++ [(lN l k, lV l k)] from take_snoc9 hkl)
              clear hkl
              generalize lN l k = nk at *
              generalize lV l k = vk at *
              have XD := Lib.hid (X0.out.trn (Trn.drew (fun _ => False) wr) (fun _ _ _ f => f))
              have DD := Lib.hid (Trn.drew (fun _ => False) wr)
              go_wp2_with fail
              go_region_held3 (fun w' => w'.cell? ⟨qb, qo + k * 2, none⟩ = some (.string (bs nk)) ∧ w'.cell? ⟨qb, qo + k * 2 + 1, none⟩ = some (.string (bs vk)) ∧ w'.cell? ⟨pb, po + i, none⟩ = some (.string (bs key)))
                (first
                  | exact d8.out
                  | exact d7.out
                  | go_keep
                  | fail)
                (first
                  | (go_at_call 26
                     (with_reducible refine (ifind_ok _ x bl bn ρ E nk vk XD.out (by have := E40.out; omega)).mono ?_)
                     rintro e W7 ⟨a7, c7, rfl, t7, b7⟩
                     have T7 := Lib.hid t7
                     have B7 := Lib.hid b7
                     have X7 := Lib.hid (XD.out.keep b7)
                     have d7 := Lib.hid (show W7.cell? ⟨qb, qo + k * 2, none⟩ = some (.string (bs nk)) ∧ W7.cell? ⟨qb, qo + k * 2 + 1, none⟩ = some (.string (bs vk)) ∧ W7.cell? ⟨pb, po + i, none⟩ = some (.string (bs key)) from
                       ⟨(b7.cell (p := ⟨qb, qo + k * 2, none⟩) hqb).trans y0, (b7.cell (p := ⟨qb, qo + k * 2 + 1, none⟩) hqb).trans y1, (b7.cell (p := ⟨pb, po + i, none⟩) hpb).trans x0⟩)
                     clear t7 b7)
                  | (go_at_call 35
                     (with_reducible refine (rhas8_any a7 _ c7 (findE E nk vk) key W7 T7.out).mono ?_)
                     rintro e w' ⟨rfl, rfl⟩
                     rw [decide_eq_true HFK.out])
                  | (go_at_call 28
                     (with_reducible refine (iwith_ok _ x bl bn ρ E nk X7.out (by have := E40.out; omega)).mono ?_)
                     rintro e W8 ⟨a8, c8, rfl, t8, b8⟩
                     have T8 := Lib.hid t8
                     have B8 := Lib.hid (B7.out.trans (b8.mono B7.out.size))
                     have d8 := Lib.hid (show W8.cell? ⟨qb, qo + k * 2, none⟩ = some (.string (bs nk)) ∧ W8.cell? ⟨qb, qo + k * 2 + 1, none⟩ = some (.string (bs vk)) ∧ W8.cell? ⟨pb, po + i, none⟩ = some (.string (bs key)) from
                       ⟨(B8.out.cell (p := ⟨qb, qo + k * 2, none⟩) hqb).trans y0, (B8.out.cell (p := ⟨qb, qo + k * 2 + 1, none⟩) hqb).trans y1, (B8.out.cell (p := ⟨pb, po + i, none⟩) hpb).trans x0⟩)
                     clear t8 b8)
                  | (go_at_call 35
                     (with_reducible refine (rhas8_any a8 _ c8 (withE E nk) key W8 T8.out).mono ?_)
                     rintro e w' ⟨rfl, rfl⟩
                     rw [decide_eq_true HWK.out])
                  | fail)
              have br := B8.out
              replace X0 := Lib.hid (XD.out.keep br)
              replace XB := Lib.hid (BoxL.keep (BoxL.trn XB.out DD.out) br)
              replace Tk := Lib.hid ((Tk.out.trn DD.out).keep br)
              replace Tf := Lib.hid ((Tf.out.trn DD.out).keep br)
              replace Twi := Lib.hid ((Twi.out.trn DD.out).keep br)
              replace TL := Lib.hid ((TL.out.trn DD.out).keep br)
              replace B := Lib.hid ((bel_drew B.out).trans (br.mono (bel_drew B.out).size))
              have D8 := Lib.hid d8.out
              clear br T7 B7 X7 d7 T8 B8 d8 XD DD y0 y1 x0 HFK HWK
              have z0 := D8.out.1
              have z1 := D8.out.2.1
              have g0 := XB.out.x0
              have g1 := XB.out.x1
              have y0 : ∀ r, (W8.drewN r).cell? ⟨qb, qo + k * 2, none⟩ = some (.string (bs nk)) := fun r => z0
              have y1 : ∀ r, (W8.drewN r).cell? ⟨qb, qo + k * 2 + 1, none⟩ = some (.string (bs vk)) := fun r => z1
              have u0 : ∀ r, (W8.drewN r).cell? ⟨w.heap.size, 0, none⟩ = some (.string (bs nm)) := fun r => g0
              have u1 : ∀ r, (W8.drewN r).cell? ⟨w.heap.size, 1, none⟩ = some (.string (bs vl)) := fun r => g1
              have y00 : ∀ s r, ((W8.drewN s).drewN r).cell? ⟨qb, qo + k * 2, none⟩ = some (.string (bs nk)) := fun s r => z0
              have u00 : ∀ s r, ((W8.drewN s).drewN r).cell? ⟨w.heap.size, 0, none⟩ = some (.string (bs nm)) := fun s r => g0
              obtain ⟨t, ht⟩ : ∃ t, decide ((nk, vk) = (nm, vl)) = t := ⟨_, rfl⟩
              obtain ⟨u, hu⟩ : ∃ u, decide (nk = nm) = u := ⟨_, rfl⟩
              have t1 := fun W => run_eq_lb W nk vk nm vl
              have s1 := eq_bs nk nm
              rw [ht] at t1
              rw [hu] at s1
              have HFN := Lib.hid (show (fb || t) = decide ((nm, vl) ∈ l.take (k + 1)) from by rw [HT.out, HFB.out, ← ht]; exact (in_snoc _ _ _).symm)
              have HWN := Lib.hid (show (wb || u) = decide (nm ∈ keysL (l.take (k + 1))) from by rw [HT.out, HWB.out, ← hu]; exact (in_snocK _ _ _ _).symm)
              have bb1 : Hid (∀ r, Below W8.heap.size W8 (W8.drewN r)) := Lib.hid (fun r => bel_drewN (Below.refl _ _) r)
              have bb2 : Hid (∀ s r, Below W8.heap.size W8 ((W8.drewN s).drewN r)) := Lib.hid (fun s r => bel_drewN (bel_drewN (Below.refl _ _) s) r)
              clear ht hu HFB HWB HT z0 z1 g0 g1 D8
              generalize bs nk = q1 at *
              generalize bs vk = q2 at *
              cases fb
              · go_wp2
                go_quiet (fail)
                go_wp2
                cases wb
                · go_wp2
                  go_quiet (fail)
                  go_wp2
                  go_roundw
                  case rel => exact ⟨k + 1, _, _, rfl, rfl, by go_num, by omega, HFN, HWN, Lib.hid (X0.out.keep (by first | exact bb2.out _ _ | exact bb1.out _)), Lib.hid (BoxL.keep XB.out (by first | exact bb2.out _ _ | exact bb1.out _)), Lib.hid (Tk.out.keep (by first | exact bb2.out _ _ | exact bb1.out _)), Lib.hid (Tf.out.keep (by first | exact bb2.out _ _ | exact bb1.out _)), Lib.hid (Twi.out.keep (by first | exact bb2.out _ _ | exact bb1.out _)), Lib.hid (TL.out.keep (by first | exact bb2.out _ _ | exact bb1.out _)), Lib.hid (B.out.trans (Below.mono (by first | exact bb2.out _ _ | exact bb1.out _) B.out.size))⟩
                  case measure => simp [intOf]; omega
                · go_wp2
                  go_quiet (fail)
                  go_wp2
                  go_roundw
                  case rel => exact ⟨k + 1, _, _, rfl, rfl, by go_num, by omega, HFN, HWN, Lib.hid (X0.out.keep (by first | exact bb2.out _ _ | exact bb1.out _)), Lib.hid (BoxL.keep XB.out (by first | exact bb2.out _ _ | exact bb1.out _)), Lib.hid (Tk.out.keep (by first | exact bb2.out _ _ | exact bb1.out _)), Lib.hid (Tf.out.keep (by first | exact bb2.out _ _ | exact bb1.out _)), Lib.hid (Twi.out.keep (by first | exact bb2.out _ _ | exact bb1.out _)), Lib.hid (TL.out.keep (by first | exact bb2.out _ _ | exact bb1.out _)), Lib.hid (B.out.trans (Below.mono (by first | exact bb2.out _ _ | exact bb1.out _) B.out.size))⟩
                  case measure => simp [intOf]; omega
              · go_wp2
                go_quiet (fail)
                go_wp2
                cases wb
                · go_wp2
                  go_quiet (fail)
                  go_wp2
                  go_roundw
                  case rel => exact ⟨k + 1, _, _, rfl, rfl, by go_num, by omega, HFN, HWN, Lib.hid (X0.out.keep (by first | exact bb2.out _ _ | exact bb1.out _)), Lib.hid (BoxL.keep XB.out (by first | exact bb2.out _ _ | exact bb1.out _)), Lib.hid (Tk.out.keep (by first | exact bb2.out _ _ | exact bb1.out _)), Lib.hid (Tf.out.keep (by first | exact bb2.out _ _ | exact bb1.out _)), Lib.hid (Twi.out.keep (by first | exact bb2.out _ _ | exact bb1.out _)), Lib.hid (TL.out.keep (by first | exact bb2.out _ _ | exact bb1.out _)), Lib.hid (B.out.trans (Below.mono (by first | exact bb2.out _ _ | exact bb1.out _) B.out.size))⟩
                  case measure => simp [intOf]; omega
                · go_wp2
                  go_quiet (fail)
                  go_wp2
                  go_roundw
                  case rel => exact ⟨k + 1, _, _, rfl, rfl, by go_num, by omega, HFN, HWN, Lib.hid (X0.out.keep (by first | exact bb2.out _ _ | exact bb1.out _)), Lib.hid (BoxL.keep XB.out (by first | exact bb2.out _ _ | exact bb1.out _)), Lib.hid (Tk.out.keep (by first | exact bb2.out _ _ | exact bb1.out _)), Lib.hid (Tf.out.keep (by first | exact bb2.out _ _ | exact bb1.out _)), Lib.hid (Twi.out.keep (by first | exact bb2.out _ _ | exact bb1.out _)), Lib.hid (TL.out.keep (by first | exact bb2.out _ _ | exact bb1.out _)), Lib.hid (B.out.trans (Below.mono (by first | exact bb2.out _ _ | exact bb1.out _) B.out.size))⟩
                  case measure => simp [intOf]; omega
            · have hkz : ¬ (k : Int) < (q : Int) := by omega
              obtain rfl : k = q := by omega
              have HFN := Lib.hid (show fb = decide (key ∈ findE E nm vl) from by rw [HFB.out, List.take_of_length_le (by rw [HQ.out]; exact Nat.le_refl _), decide_eq_decide]; exact HF.out.symm)
              have HWN := Lib.hid (show wb = decide (key ∈ withE E nm) from by rw [HWB.out, List.take_of_length_le (by rw [HQ.out]; exact Nat.le_refl _), decide_eq_decide]; exact HW.out.symm)
              have C1 := rhas8_any a_f n_f c_f (findE E nm vl) key wr Tf.out
              have C2 := rhas8_any a_wi n_wi c_wi (withE E nm) key wr Twi.out
              have C3 := ihas_ok wr x bl bn ρ E key X0.out
              rw [← HFN.out] at C1
              rw [← HWN.out] at C2
              rw [decide_eq_true HIN.out] at C3
              replace C1 := Lib.hid C1
              replace C2 := Lib.hid C2
              replace C3 := Lib.hid C3
              clear HFB HWB HFN HWN
              cases fb
              · cases wb
                · go_wp2_with fail
                  refine C1.out.mono ?_
                  rintro e w' ⟨rfl, rfl⟩
                  go_wp2_with fail
                  refine C2.out.mono ?_
                  rintro e w' ⟨rfl, rfl⟩
                  go_wp2_with fail
                  refine C3.out.mono ?_
                  rintro e w' ⟨rfl, rfl⟩
                  go_wp2
                  go_roundw
                  case rel => exact ⟨i + 1, by go_num, by omega, X0, XB, Tk, Tf, Twi, B⟩
                  case measure => simp [intOf]; omega
                · go_wp2_with fail
                  refine C1.out.mono ?_
                  rintro e w' ⟨rfl, rfl⟩
                  go_wp2_with fail
                  refine C2.out.mono ?_
                  rintro e w' ⟨rfl, rfl⟩
                  go_wp2_with fail
                  refine C3.out.mono ?_
                  rintro e w' ⟨rfl, rfl⟩
                  go_wp2
                  go_roundw
                  case rel => exact ⟨i + 1, by go_num, by omega, X0, XB, Tk, Tf, Twi, B⟩
                  case measure => simp [intOf]; omega
              · cases wb
                · go_wp2_with fail
                  refine C1.out.mono ?_
                  rintro e w' ⟨rfl, rfl⟩
                  go_wp2_with fail
                  refine C2.out.mono ?_
                  rintro e w' ⟨rfl, rfl⟩
                  go_wp2_with fail
                  refine C3.out.mono ?_
                  rintro e w' ⟨rfl, rfl⟩
                  go_wp2
                  go_roundw
                  case rel => exact ⟨i + 1, by go_num, by omega, X0, XB, Tk, Tf, Twi, B⟩
                  case measure => simp [intOf]; omega
                · go_wp2_with fail
                  refine C1.out.mono ?_
                  rintro e w' ⟨rfl, rfl⟩
                  go_wp2_with fail
                  refine C2.out.mono ?_
                  rintro e w' ⟨rfl, rfl⟩
                  go_wp2_with fail
                  refine C3.out.mono ?_
                  rintro e w' ⟨rfl, rfl⟩
                  go_wp2
                  go_roundw
                  case rel => exact ⟨i + 1, by go_num, by omega, X0, XB, Tk, Tf, Twi, B⟩
                  case measure => simp [intOf]; omega
        · have hiz : ¬ (i : Int) < (n_k : Int) := by omega
          obtain rfl : i = n_k := by omega
          have hfz : (n_f : Int) ≤ (n_wi : Int) := by omega
          have hwz : (n_wi : Int) ≤ (i : Int) := by omega
          go_wp2_with fail
          refine (iknown_any _).mono ?_
          rintro e w9 ⟨rfl, b9⟩
          go_wp2
          go_ret
          exact ⟨rfl, B.out.trans (b9.mono B.out.size)⟩
    · have k2z : (100 : Int) < (m2 : Int) := by omega
      go_wp2_with fail
      refine (iknown_any _).mono ?_
      rintro e w9 ⟨rfl, b9⟩
      go_wp2
      go_ret
      exact ⟨rfl, B.out.trans (b9.mono B.out.size)⟩
  · have k1z : (100 : Int) < (m1 : Int) := by omega
    go_wp2_with fail
    refine (iknown_any _).mono ?_
    rintro e w9 ⟨rfl, b9⟩
    go_wp2
    go_ret
    exact ⟨rfl, B.out.trans (b9.mono B.out.size)⟩

set_option maxRecDepth 100000 in
theorem lifted (os : Os) (started : os.Started) (H : Type) (enc : TypeId × Value → H) :
    ReturnsInHanded {} Try.checked os 4 .any (Rows.indexFindsSpec.pre6 enc Try.prog Try.f4 Rows.indexFindsRow.domain false) (Rows.indexFindsSpec.post enc Try.prog Try.f4 false true false false) := by
  refine returnsInHanded_of_change (C := Try.checked) own started (by kernel_rfl) Try.func4
    (ChangeSpec.witness6 (enc := enc) (C := Try.checked) false ⟨#[], #[.slice none 0 0, .agg #[.string ByteArray.empty, .string ByteArray.empty]], []⟩ 8 (by kernel_rfl) (by kernel_rfl) (by kernel_rfl) (by kernel_rfl)) ?_
  intro W base args ds gs before hval0 hW hcnd _
  have hval : ∀ (j : Nat) t v, Try.f4.params[j]? = some t → args[j]? = some v → Value.okWide Try.prog W .any base t v := hval0
  have hW' := hW
  obtain ⟨p, q, hA0, hV, rfl, hfz, hnd⟩ := hW
  have hA : DataW.TrodAll enc Try.prog W 0 (fun _ => true) true Try.f4.params.toList args.toList ds p := hA0
  rw [Try.params4] at hA hval
  obtain ⟨v0, vs0, d0, ds0, p0, q0, hargs, rfl, rfl, h0, r0⟩ := trodAll_cons hA
  obtain ⟨v1, vs1, d1, ds1, p1, q1, rfl, rfl, rfl, h1, r1⟩ := trodAll_cons r0
  obtain ⟨rfl, rfl, rfl⟩ := trodAll_nil r1
  obtain rfl : args = #[v0, v1] := by cases args; simp_all
  obtain ⟨rfl, rfl⟩ := trodVars_none hV
  obtain ⟨a0, len0, cap0, rfl⟩ := okWide_slice Try.underlying22 (hval 0 22 v0 rfl rfl)
  have k0 := h0
  have lt0 : ∀ x ∈ p0, x.block < W.heap.size := by obtain ⟨m, hm⟩ := k0; exact DataW.trod_lt m _ _ _ hm
  obtain ⟨z0, w0⟩ := open_ops9 h0
  have k1 := h1
  have lt1 : ∀ x ∈ p1, x.block < W.heap.size := by obtain ⟨m, hm⟩ := k1; exact DataW.trod_lt m _ _ _ hm
  obtain ⟨a1, rfl, w1⟩ := open_lb9 (hval 1 24 v1 rfl rfl) h1
  clear hA0 hval0
  refine (walk a0 len0 cap0 z0 a1 W w0 w1).mono fun e W' ⟨he, bel⟩ => ?_
  subst he
  exact ⟨_, rfl, _, _, _, [], _, [], hW', trodAll_mk1 (shut_bool Try.underlying4 _), (trodAll_cons_mk (Below.trod laidOut (by kernel_rfl) (of_decide_eq_true (by kernel_rfl)) k0 bel lt0) (trodAll_cons_mk (Below.trod laidOut (by kernel_rfl) (of_decide_eq_true (by kernel_rfl)) k1 bel lt1) trodAll_mk0)), rfl, bel.frame _, fun h => by cases h⟩

theorem over : Rows.indexFindsRow.holds Try.pinned (OpenSpec.ofChange Rows.indexFindsSpec) :=
  OpenClaim.holds_of_wide 4 Try.f4 rfl rfl rfl rfl rfl rfl rfl ⟨rfl, rfl, rfl, rfl, rfl⟩ rfl rfl rfl rfl rfl (by kernel_rfl) Try.func4 (by kernel_rfl)
    (of_decide_eq_true (by kernel_rfl)) (by unfold Func.isWrapper; first | (rw [if_pos (by decide +kernel)]; kernel_rfl) | (rw [if_neg (by decide +kernel)]; exact ⟨rfl, rfl⟩))
    (fun os started H enc _ => lifted os started H enc)

theorem proved : Rows.IndexFindsSaid := over
end indexFinds
theorem indexFinds_holds : Rows.IndexFindsSaid := indexFinds.proved
#print axioms indexFinds_holds
end Go.Proofs.Ytpkbkemenfdadaa
