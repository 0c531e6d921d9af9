/-
  Contracts.
-/
import Derived.Test.YtmifpfojhlmbkaaGreatJ14
import Derived.Test.YtmifpfojhlmbkaaGreatJ19
import Derived.Test.YtmifpfojhlmbkaaGreatJ23
import Derived.Test.YtmifpfojhlmbkaaGreatJ33
import Derived.Test.YtmifpfojhlmbkaaGreatJ39
import Derived.Test.YtmifpfojhlmbkaaGreatJ40
import Derived.Test.YtmifpfojhlmbkaaGreatJ43
namespace Go.Proofs.YtmifpfojhlmbkaaGreat
set_option maxRecDepth 100000
set_option maxHeartbeats 16000000
open Go.RowKit
set_option linter.unusedVariables false
set_option linter.unusedSimpArgs false
theorem gadd_x (w : World) (x bi bf : Nat) (F : Nat → Prop) (L : List Ru) (r : Ru) (h : GrAt w x bi bf F L) (hL : L.length ≤ 900) :
    Calls Tryz.prog 93 #[.pointer (some ⟨x, 0, none⟩), .agg #[.string (bs r.src), .string (bs r.dst), .int .i64 r.kind, .int .i64 r.size, .int .i64 r.align]] w fun e w' => e = .returned (.int .i64 (addEG L r)) ∧ ∃ F', GrTurn w w' x bi bf F F' (addU L r) := gadd_ok w x bi bf F L r h hL
theorem gright_y (r : Ru) (w : World) : Calls Tryz.prog 91 #[.agg #[.string (bs r.src), .string (bs r.dst), .int .i64 r.kind, .int .i64 r.size, .int .i64 r.align]] w fun e w' => e = .returned (.bool (decide (rightU r))) ∧ Below w.heap.size w w' := gright_any r w
theorem kErr_src {P : Spc} {r : Ru} (h : kErr P r = 0) : rightU r ∧ P.has r.src ∧ P.has r.dst ∧ addEG P.G r = 0 := by
  unfold kErr at h
  by_cases h1 : rightU r
  · rw [if_neg (by simpa using h1)] at h
    by_cases h2 : ¬ P.has r.src ∨ ¬ P.has r.dst
    · rw [if_pos h2] at h; omega
    · rw [if_neg h2] at h
      exact ⟨h1, Classical.byContradiction fun q => h2 (.inl q), Classical.byContradiction fun q => h2 (.inr q), h⟩
  · rw [if_pos h1] at h; omega
theorem hRelink (w : World) (x : Nat) (m : Mem) (P : Spc) (r : Ru) (h : SpAt w x m P) (hg : P.G.length ≤ 900) :
    Calls Tryz.prog 38 #[.pointer (some ⟨x, 0, none⟩), .agg #[.string (bs r.src), .string (bs r.dst), .int .i64 r.kind, .int .i64 r.size, .int .i64 r.align]] w (CreP x m P.E (kErr P r) (keSp P r) w) := by
  have B1 := (Below.refl w.heap.size w).alloc (Nat.le_refl _) (.cells #[.string (bs r.src), .string (bs r.dst), .int .i64 r.kind, .int .i64 r.size, .int .i64 r.align] 32)
  have HX := Lib.hid (BoxU.new 32 w r)
  have H1 := Lib.hid (h.keep B1)
  have HB1 := Lib.hid B1
  have H0 := Lib.hid h
  have HR := Lib.hid (fun W => gright_y r W)
  have HH := Lib.hid (fun W k (q : SpAt W x m P) => hHas W x m P k q)
  clear B1
  by_cases h1 : rightU r
  · rw [decide_eq_true h1] at HR
    by_cases h2 : P.has r.src
    · have HH1 := Lib.hid (fun W (q : SpAt W x m P) => HH.out W r.src q)
      rw [decide_eq_true h2] at HH1
      by_cases h3 : P.has r.dst
      · have HH2 := Lib.hid (fun W (q : SpAt W x m P) => HH.out W r.dst q)
        rw [decide_eq_true h3] at HH2
        have e1 : kErr P r = addEG P.G r := by unfold kErr; rw [if_neg (by simpa using h1), if_neg (by simp [h2, h3])]
        have HA := Lib.hid (fun W (q : SpAt W x m P) => gadd_x W m.gx m.bi m.bf m.F P.G r q.gr hg)
        have HEN := Lib.hid (show ∀ q ∈ addU P.G r, P.has q.src ∧ P.has q.dst from fun q hq => by
          unfold addU at hq
          split at hq
          · rcases mem_insU.1 hq with e | e
            · rw [e]; exact ⟨h2, h3⟩
            · exact h.ok.ends q e
          · exact h.ok.ends q hq)
        have e2 : keSp P r = { P with G := addU P.G r } := by
          unfold keSp addU
          rw [e1]
          split <;> rfl
        rw [e1, e2]
        clear h h1 h2 h3 e1 e2 HH
        generalize addU P.G r = G' at *
        generalize addEG P.G r = er at *
        go_enter Tryz.func38, Tryz.ntmps38
        go_wp2_with fail
        generalize hBB : w.heap.size = B0 at *
        have HBB := Lib.hid hBB
        generalize w.alloc (.cells #[.string (bs r.src), .string (bs r.dst), .int .i64 r.kind, .int .i64 r.size, .int .i64 r.align] 32) = w1 at *
        clear hBB
        refine (hNone_no w1 x m H1.out.cell).mono ?_
        rintro e w' ⟨rfl, rfl⟩
        obtain ⟨x0, x1, x2, x3, x4⟩ := HX.out.five
        go_wp2_with fail
        refine (HR.out _).mono ?_
        rintro e w2 ⟨rfl, b2⟩
        have X2 := Lib.hid (HX.out.keep b2)
        have H2 := Lib.hid (H1.out.keep b2)
        have B2 := Lib.hid b2
        clear b2 x0 x1 x2 x3 x4
        have x0 := X2.out.x0
        go_wp2_with fail
        refine (HH1.out _ H2.out).mono ?_
        rintro e w3 ⟨rfl, b3⟩
        have X3 := Lib.hid (X2.out.keep b3)
        have H3 := Lib.hid (H2.out.keep b3)
        have B3 := Lib.hid (B2.out.trans (b3.mono B2.out.size))
        clear b3 x0
        have x1 := X3.out.x1
        go_wp2_with fail
        refine (HH2.out _ H3.out).mono ?_
        rintro e w4 ⟨rfl, b4⟩
        have X4 := Lib.hid (X3.out.keep b4)
        have H4 := Lib.hid (H3.out.keep b4)
        have B4 := Lib.hid (B3.out.trans (b4.mono B3.out.size))
        clear b4 x1
        go_wp2_with fail
        refine wp_region_still_tail 5 (by kernel_rfl) (by kernel_rfl) ?_
        simp only [List.take_succ_cons, List.take_zero, List.drop_succ_cons, List.drop_zero]
        change wpStill _ _ w4.drew (fun a' => wpList _ _ _ _ a' w4.drew) _ _
        have bd := (Below.refl w4.heap.size w4).drew
        have H5 := Lib.hid (H4.out.keep bd)
        obtain ⟨x0, x1, x2, x3, x4⟩ := (X4.out.keep bd).five
        have HB5 := Lib.hid (show Below w.heap.size w w4.drew from by rw [HBB.out]; exact HB1.out.trans ((B4.out.trans (bd.mono B4.out.size)).mono (Nat.le_of_lt HX.out.lt)))
        clear bd
        generalize w4.drew = W5 at *
        have c2 := H5.out.cell.c2
        repeat still_step
        refine wpStill_nil ?_
        go_wp2_with fail
        refine (HA.out _ H5.out).mono ?_
        rintro e w6 ⟨rfl, F', t6⟩
        have T6 := Lib.hid ((H5.out.grTurn t6 HEN.out).pre HB5.out)
        clear t6 c2 x0 x1 x2 x3 x4
        go_wp2
        go_ret
        exact ⟨rfl, _, T6.out⟩
      · have HH2 := Lib.hid (fun W (q : SpAt W x m P) => HH.out W r.dst q)
        rw [decide_eq_false h3] at HH2
        have e1 : kErr P r = 5 := by unfold kErr; rw [if_neg (by simpa using h1), if_pos (.inr h3)]
        have e2 : keSp P r = P := by unfold keSp; rw [if_neg (by omega)]
        rw [e1, e2]
        clear h h1 h2 h3 e1 e2 HH
        go_enter Tryz.func38, Tryz.ntmps38
        go_wp2_with fail
        generalize hBB : w.heap.size = B0 at *
        have HBB := Lib.hid hBB
        generalize w.alloc (.cells #[.string (bs r.src), .string (bs r.dst), .int .i64 r.kind, .int .i64 r.size, .int .i64 r.align] 32) = w1 at *
        clear hBB
        refine (hNone_no w1 x m H1.out.cell).mono ?_
        rintro e w' ⟨rfl, rfl⟩
        obtain ⟨x0, x1, x2, x3, x4⟩ := HX.out.five
        go_wp2_with fail
        refine (HR.out _).mono ?_
        rintro e w2 ⟨rfl, b2⟩
        have X2 := Lib.hid (HX.out.keep b2)
        have H2 := Lib.hid (H1.out.keep b2)
        have B2 := Lib.hid b2
        clear b2 x0 x1 x2 x3 x4
        have x0 := X2.out.x0
        go_wp2_with fail
        refine (HH1.out _ H2.out).mono ?_
        rintro e w3 ⟨rfl, b3⟩
        have X3 := Lib.hid (X2.out.keep b3)
        have H3 := Lib.hid (H2.out.keep b3)
        have B3 := Lib.hid (B2.out.trans (b3.mono B2.out.size))
        clear b3 x0
        have x1 := X3.out.x1
        go_wp2_with fail
        refine (HH2.out _ H3.out).mono ?_
        rintro e w4 ⟨rfl, b4⟩
        have T4 := Lib.hid (SpTurn.below H0.out (show Below w.heap.size w w4 from by rw [HBB.out]; exact HB1.out.trans ((B3.out.trans (b4.mono B3.out.size)).mono (Nat.le_of_lt HX.out.lt))))
        clear b4 x1
        go_wp2
        go_ret
        exact ⟨rfl, _, T4.out⟩
    · have HH1 := Lib.hid (fun W (q : SpAt W x m P) => HH.out W r.src q)
      rw [decide_eq_false h2] at HH1
      have e1 : kErr P r = 5 := by unfold kErr; rw [if_neg (by simpa using h1), if_pos (.inl h2)]
      have e2 : keSp P r = P := by unfold keSp; rw [if_neg (by omega)]
      rw [e1, e2]
      clear h h1 h2 e1 e2 HH
      go_enter Tryz.func38, Tryz.ntmps38
      go_wp2_with fail
      generalize hBB : w.heap.size = B0 at *
      have HBB := Lib.hid hBB
      generalize w.alloc (.cells #[.string (bs r.src), .string (bs r.dst), .int .i64 r.kind, .int .i64 r.size, .int .i64 r.align] 32) = w1 at *
      clear hBB
      refine (hNone_no w1 x m H1.out.cell).mono ?_
      rintro e w' ⟨rfl, rfl⟩
      obtain ⟨x0, x1, x2, x3, x4⟩ := HX.out.five
      go_wp2_with fail
      refine (HR.out _).mono ?_
      rintro e w2 ⟨rfl, b2⟩
      have X2 := Lib.hid (HX.out.keep b2)
      have H2 := Lib.hid (H1.out.keep b2)
      have B2 := Lib.hid b2
      clear b2 x0 x1 x2 x3 x4
      have x0 := X2.out.x0
      go_wp2_with fail
      refine (HH1.out _ H2.out).mono ?_
      rintro e w3 ⟨rfl, b3⟩
      have T3 := Lib.hid (SpTurn.below H0.out (show Below w.heap.size w w3 from by rw [HBB.out]; exact HB1.out.trans ((B2.out.trans (b3.mono B2.out.size)).mono (Nat.le_of_lt HX.out.lt))))
      clear b3 x0
      go_wp2
      go_ret
      exact ⟨rfl, _, T3.out⟩
  · rw [decide_eq_false h1] at HR
    have e1 : kErr P r = 1 := by unfold kErr; rw [if_pos h1]
    have e2 : keSp P r = P := by unfold keSp; rw [if_neg (by omega)]
    rw [e1, e2]
    clear h h1 e1 e2 HH
    go_enter Tryz.func38, Tryz.ntmps38
    go_wp2_with fail
    generalize hBB : w.heap.size = B0 at *
    have HBB := Lib.hid hBB
    generalize w.alloc (.cells #[.string (bs r.src), .string (bs r.dst), .int .i64 r.kind, .int .i64 r.size, .int .i64 r.align] 32) = w1 at *
    clear hBB
    refine (hNone_no w1 x m H1.out.cell).mono ?_
    rintro e w' ⟨rfl, rfl⟩
    obtain ⟨x0, x1, x2, x3, x4⟩ := HX.out.five
    go_wp2_with fail
    refine (HR.out _).mono ?_
    rintro e w2 ⟨rfl, b2⟩
    have T2 := Lib.hid (SpTurn.below H0.out (show Below w.heap.size w w2 from by rw [HBB.out]; exact HB1.out.trans (b2.mono (Nat.le_of_lt HX.out.lt))))
    clear b2 x0 x1 x2 x3 x4
    go_wp2
    go_ret
    exact ⟨rfl, _, T2.out⟩
end Go.Proofs.YtmifpfojhlmbkaaGreat
namespace Go.Proofs.YtmifpfojhlmbkaaGreat
set_option maxRecDepth 100000
set_option maxHeartbeats 16000000
open Go.RowKit
set_option linter.unusedVariables false
set_option linter.unusedSimpArgs false
theorem filt_all {s : Ser} (h : Std s) : s.z.filter (inB 0 1099511627776) = s.z := by
  rw [List.filter_eq_self]
  intro u hu
  have := h.time u hu
  unfold inB
  rw [decide_eq_true (by omega), decide_eq_true (by omega)]; rfl
theorem rset_one {P : Spc} (h : Ok12 P) {r : Ru} (hr : r ∈ P.G) : Rset P [r] where
  right := fun q hq => by rw [List.mem_singleton.1 hq]; exact ⟨h.gG.right r hr, h.ends r hr⟩
  apart := fun q hq q' hq' e => by
    rw [List.mem_singleton.1 hq, List.mem_singleton.1 hq'] at e
    exact h.gG.flat r hr r hr e.symm
  one := by simp
theorem mem_insU_self (r : Ru) (G : List Ru) : r ∈ insU r G := mem_insU.2 (.inl rfl)
theorem look_sp {w : World} {x : Nat} {m : Mem} {P : Spc} (h : SpAt w x m P) (k : Tx) (hk : P.has k) : ∀ W : World, W.heap[m.mb]? = w.heap[m.mb]? → (Instr.lookup 92 (.map (some m.mb)) (.string (bs k)) false).run Tryz.prog W = .ok (.agg #[.int .i64 (P.Z k), .pointer (some ⟨m.B k, 0, none⟩)]) W := fun W e => by
  obtain ⟨L, l1, l2⟩ := h.map
  have h := (l1.same (w' := W) e).lookup Tryz.underlying92 Tryz.underlying9 (Tryz.zeroValue105 _) k false
  rw [h, l2, if_pos (show k ∈ keysL P.E from hk)]; rfl
theorem hLink (w : World) (x : Nat) (m : Mem) (P : Spc) (r : Ru) (h : SpAt w x m P) (hf : Few 9000 P) (hg : P.G.length ≤ 900) :
    Calls Tryz.prog 35 #[.pointer (some ⟨x, 0, none⟩), .agg #[.string (bs r.src), .string (bs r.dst), .int .i64 r.kind, .int .i64 r.size, .int .i64 r.align]] w (CreP x m P.E (kErr P r) (kSp P r) w) := by
  have hfd : ∀ (W : World) (n : Int) (b : Nat), (Instr.field 105 (.agg #[.int .i64 n, .pointer (some ⟨b, 0, none⟩)]) 1).run Tryz.prog W = .ok (.pointer (some ⟨b, 0, none⟩)) W := fun W n b => by kernel_rfl
  have B1 := (Below.refl w.heap.size w).alloc (Nat.le_refl _) (.cells #[.string (bs r.src), .string (bs r.dst), .int .i64 r.kind, .int .i64 r.size, .int .i64 r.align] 32)
  have HX := Lib.hid (BoxU.new 32 w r)
  have H1 := Lib.hid (h.keep B1)
  have HB1 := Lib.hid B1
  have HRL := Lib.hid (fun W (q : SpAt W x m P) => hRelink W x m P r q hg)
  unfold CreP at HRL
  clear B1
  by_cases he : kErr P r = 0
  · obtain ⟨k1, k2, k3, k4⟩ := kErr_src he
    have eP : keSp P r = { P with G := insU r P.G } := by unfold keSp; rw [if_pos he]
    have eQ : kSp P r = ⟨P.E, P.Z, upd P.S r.dst (remS r (P.S r.src) (delS (P.S r.dst) 0 1099511627776) (timesL (P.S r.src).z)), insU r P.G⟩ := by unfold kSp; rw [if_pos he]
    have hrr := mem_insU_self r P.G
    have hzs := hf.z r.src k2
    have hzd := hf.z r.dst k3
    rw [he, eP] at HRL
    rw [he, eQ]
    have hBoxLt : w.heap.size < (w.alloc (.cells #[.string (bs r.src), .string (bs r.dst), .int .i64 r.kind, .int .i64 r.size, .int .i64 r.align] 32)).heap.size := HX.out.lt
    have HBL := Lib.hid hBoxLt
    have hlt : ∀ i, Own m P.E i → i < w.heap.size := fun i f => h.lt f
    have HLT := Lib.hid hlt
    have HFF := Lib.hid hf
    clear h he eP eQ k1 k4 hg hBoxLt hlt hf
    generalize insU r P.G = G' at *
    go_enter Tryz.func35, Tryz.ntmps35
    go_wp2_with fail
    generalize hBB : w.heap.size = B0 at *
    have HBB := Lib.hid hBB
    generalize w.alloc (.cells #[.string (bs r.src), .string (bs r.dst), .int .i64 r.kind, .int .i64 r.size, .int .i64 r.align] 32) = w1 at *
    clear hBB
    have HC := Lib.hid hfd
    clear hfd
    obtain ⟨y0, y1, y2, y3, y4⟩ := HX.out.five
    go_wp2_with fail
    refine (HRL.out _ H1.out).mono ?_
    rintro e w2 ⟨rfl, m1, t2⟩
    have hnB : ¬ Own m P.E B0 := fun f => by have := HLT.out _ f; omega
    have X2 := Lib.hid (HX.out.tu t2.ts.tu hnB)
    have hnB2 : ¬ Own m1 P.E B0 := fun f => by
      have := HBL.out
      rcases t2.ext B0 f with q | q
      · exact hnB q
      · omega
    have HNB := Lib.hid hnB2
    have T2 := Lib.hid (t2.pre (w := w) (by rw [HBB.out]; exact HB1.out))
    have A2 := Lib.hid t2.sp
    have HRS := Lib.hid (rset_one t2.sp.ok hrr)
    have hne := HRS.out.apart r (by simp) r (by simp)
    clear hnB hnB2 t2 y0 y1 y2 y3 y4 hrr HRL
    have A3 := Lib.hid (A2.out.ts (G := fun _ => False) (.of (Below.refl w2.heap.size w2).drew) (fun _ g => g.elim))
    have HL4 := Lib.hid (look_sp A2.out)
    have hmb : m1.mb < w2.heap.size := A2.out.map.lt
    have lD1 := (HL4.out _ k3 w2.drew rfl)
    have c0 := A2.out.cell.c0
    obtain ⟨y0, y1, y2, y3, y4⟩ := X2.out.five
    have hfd := HC.out
    have HDL := Lib.hid (del_any (m1.B r.dst) (P.Z r.dst) (P.S r.dst) 0 1099511627776 w2.drew (A3.out.ser _ k3) (A3.out.ok.siz _ k3).1 (A3.out.ok.siz _ k3).2 (A3.out.ok.std _ k3).rise (by omega))
    replace HDL : Hid (Calls Tryz.prog 77 #[.pointer (some ⟨m1.B r.dst, 0, none⟩), .int .i64 0, .int .i64 1099511627776] w2.drew (NumS (m1.B r.dst) (P.Z r.dst) (dropN (P.S r.dst).z 0 1099511627776) (delS (P.S r.dst) 0 1099511627776) w2.drew)) := HDL
    have HSD := Lib.hid ((A2.out.ok.std _ k3).del 0 1099511627776)
    replace HSD : Hid (Std (delS (P.S r.dst) 0 1099511627776)) := HSD
    have hdl := Nat.le_trans (del_len (P.S r.dst) 0 1099511627776) hzd
    generalize dropN (P.S r.dst).z 0 1099511627776 = dn at *
    generalize delS (P.S r.dst) 0 1099511627776 = s' at *
    have HK3 := Lib.hid k3
    have HK2 := Lib.hid k2
    clear k2 k3
    go_wp2_with fail
    go_region_held3 (fun w' => w'.cell? ⟨B0, 1, none⟩ = some (.string (bs r.dst)) ∧ w'.cell? ⟨x, 0, none⟩ = some (mp m1.mb))
      (first
        | exact HE3.out
        | go_keep
        | fail)
      (first
        | (go_at_call 77
           (with_reducible refine HDL.out.mono ?_)
           rintro e w3 ⟨rfl, s3, g3⟩
           have t3 := A3.out.serTurn HK3.out g3 s3 HSD.out
           have X3 := Lib.hid ((X2.out.tu (Tu.of (F := fun _ => False) (Below.refl w2.heap.size w2).drew) (fun f => f)).tu t3.ts.tu HNB.out)
           have T3 := Lib.hid (T2.out.trans (t3.pre (Below.refl w2.heap.size w2).drew))
           have HE3 := Lib.hid (show w3.cell? ⟨B0, 1, none⟩ = some (.string (bs r.dst)) ∧ w3.cell? ⟨x, 0, none⟩ = some (mp m1.mb) from ⟨X3.out.x1, T3.out.sp.cell.c0⟩)
           clear s3 g3 t3)
        | fail)
    clear lD1 c0 y0 y1 y2 y3 y4 HE3 HL4 hmb A2 A3 X2 T2 HDL HSD
    have A4 := Lib.hid T3.out.sp
    have hmb : m1.mb < w3.heap.size := A4.out.map.lt
    have A5 := Lib.hid (A4.out.ts (G := fun _ => False) (.of (Below.refl w3.heap.size w3).drew) (fun _ g => g.elim))
    have HL4 := Lib.hid (look_sp A4.out)
    have lS1 := HL4.out r.src HK2.out w3.drew rfl
    replace lS1 : (Instr.lookup 92 (.map (some m1.mb)) (.string (bs r.src)) false).run Tryz.prog w3.drew = .ok (.agg #[.int .i64 (P.Z r.src), .pointer (some ⟨m1.B r.src, 0, none⟩)]) w3.drew := lS1
    have c0 := A4.out.cell.c0
    obtain ⟨y0, y1, y2, y3, y4⟩ := X3.out.five
    have hs0 : upd P.S r.dst s' r.src = P.S r.src := upd_n _ _ hne
    have HRG := Lib.hid (range_ser (m1.B r.src) (P.Z r.src) (P.S r.src) 0 1099511627776 w3.drew (hs0 ▸ A5.out.ser _ HK2.out) (A5.out.ok.siz _ HK2.out).1 (by have q := (A5.out.ok.std _ HK2.out).rise; exact hs0 ▸ q) (by omega))
    have hSs : Std (P.S r.src) := by have q := A5.out.ok.std _ HK2.out; exact hs0 ▸ q
    rw [filt_all hSs] at HRG
    unfold LaidP at HRG
    have HSS := Lib.hid hSs
    clear hSs
    go_wp2_with fail
    go_region_held3 (fun w' => w'.cell? ⟨B0, 0, none⟩ = some (.string (bs r.src)) ∧ w'.cell? ⟨x, 0, none⟩ = some (mp m1.mb))
      (first
        | exact HE3.out
        | go_keep
        | fail)
      (first
        | (go_at_call 22
           (with_reducible refine HRG.out.mono ?_)
           rintro e w4 ⟨ra, rc, rfl, l4, b4⟩
           have B4 := Lib.hid (show Below w3.heap.size w3 w4 from (Below.refl _ w3).drew.trans b4)
           have HE3 := Lib.hid (show w4.cell? ⟨B0, 0, none⟩ = some (.string (bs r.src)) ∧ w4.cell? ⟨x, 0, none⟩ = some (mp m1.mb) from ⟨(X3.out.keep B4.out).x0, (A4.out.keep B4.out).cell.c0⟩))
        | fail)
    clear lS1 c0 y0 y1 y2 y3 y4 HE3 HL4 hmb A5 HRG hs0
    have L4 := Lib.hid l4
    have T4 := Lib.hid (T3.out.thenB B4.out)
    have X4 := Lib.hid (X3.out.keep B4.out)
    have A4' := Lib.hid (A4.out.keep B4.out)
    have HRI := Lib.hid (show ∀ t ∈ timesL (P.S r.src).z, 0 ≤ t ∧ t < 1099511627776 from fun t ht => by
      obtain ⟨u, hu, rfl⟩ := List.mem_map.1 ht
      exact HSS.out.time u hu)
    have HUP := Lib.hid (show (timesL (P.S r.src).z).Pairwise (· ≤ ·) from by
      have q := (times_in HSS.out 0 1099511627776).2.1
      rw [filt_all HSS.out] at q
      exact q)
    have HT64 := Lib.hid (show ∀ t ∈ timesL (P.S r.src).z, in64 t from fun t ht => by have := HRI.out t ht; unfold in64; omega)
    have hlen : (timesL (P.S r.src).z).length = (P.S r.src).z.length := List.length_map _
    have HTM := Lib.hid (fun W (b : Below w4.heap.size w4 W) => times_any ra _ rc (P.S r.src).z W (L4.out.keepB b) (by omega))
    have HZ := Lib.hid (show ∀ k, ({ P with S := upd P.S r.dst s', G := G' } : Spc).has k → ((upd P.S r.dst s') k).z.length ≤ 10000 from fun k hk => by
      by_cases e : k = r.dst
      · subst e; rw [upd_k]; omega
      · rw [upd_n _ _ e]; have := HFF.out.z k hk; omega)
    have HRS4 := Lib.hid (show Rset { P with S := upd P.S r.dst s', G := G' } [r] from HRS.out.same (fun k hk => hk))
    have hnl : (timesL (P.S r.src).z).length ≤ 10000 := by omega
    have eK : remK (upd P.S r.dst s') [r] (timesL (P.S r.src).z) = upd P.S r.dst (remS r (P.S r.src) s' (timesL (P.S r.src).z)) := by
      show upd (upd P.S r.dst s') r.dst (remS r (upd P.S r.dst s' r.src) (upd P.S r.dst s' r.dst) _) = _
      rw [upd_n _ _ hne, upd_k]
      funext k
      by_cases e : k = r.dst
      · subst e; rw [upd_k, upd_k]
      · rw [upd_n _ _ e, upd_n _ _ e, upd_n _ _ e]
    have HREM := Lib.hid (fun W (ad : Addr) pa pc (a : SpAt W x m1 { P with S := upd P.S r.dst s', G := G' }) (q : RuAt W (some ad) 1 1 [r]) (ho : ¬ Own m1 P.E ad.block) (hn : Nums W pa (timesL (P.S r.src).z).length pc (timesL (P.S r.src).z)) =>
      remake_any W x m1 { P with S := upd P.S r.dst s', G := G' } (some ad) 1 1 [r] pa _ pc _ a q (fun ad' e => by cases e; exact ho) HRS4.out HZ.out hn hnl HRI.out HUP.out (by omega))
    have HO4 := Lib.hid (fun i (f : Own m1 P.E i) => A4'.out.lt f)
    have EK := Lib.hid eK
    clear eK hlen HZ HRS4 HRI HUP HSS l4 HX H1
    generalize (P.S r.src).z = zs at *
    generalize timesL zs = ts at *
    have HBA := Lib.hid (((Below.refl w4.heap.size w4).alloc (Nat.le_refl _) (.cells #[.string (bs r.src), .string (bs r.dst), .int .i64 r.kind, .int .i64 r.size, .int .i64 r.align] 32)).drew)
    have HTA := Lib.hid (HTM.out _ HBA.out)
    have HRA := Lib.hid ((RuAt.one 32 w4 r).keep (Below.refl _ _).drew)
    obtain ⟨y0, y1, y2, y3, y4⟩ := X4.out.five
    go_wp2_with fail
    go_region_held3 (fun w' => w'.cell? ⟨B0, 0, none⟩ = some (.string (bs r.src)) ∧ w'.cell? ⟨B0, 1, none⟩ = some (.string (bs r.dst)) ∧ w'.cell? ⟨B0, 2, none⟩ = some (.int .i64 r.kind) ∧ w'.cell? ⟨B0, 3, none⟩ = some (.int .i64 r.size) ∧ w'.cell? ⟨B0, 4, none⟩ = some (.int .i64 r.align))
      (first
        | exact HE6.out
        | exact HE5.out
        | go_keep
        | fail)
      (first
        | (go_at_call 76
           (with_reducible refine (HTM.out _ (Below.refl _ w4).drew).mono ?_)
           rintro e w5 ⟨v5, rfl, r5, b5⟩
           obtain ⟨ta, tc, rfl, n5⟩ := Nums.of r5 HT64.out
           have N5 := Lib.hid n5
           have B5 := Lib.hid (show Below w4.heap.size w4 w5 from (Below.refl _ w4).drew.trans b5)
           have hBC := (Below.refl w5.heap.size w5).alloc (Nat.le_refl _) (.cells #[.string (bs r.src), .string (bs r.dst), .int .i64 r.kind, .int .i64 r.size, .int .i64 r.align] 32)
           have HXC := Lib.hid ((X4.out.keep B5.out).keep hBC)
           have HBC := Lib.hid (B5.out.trans (hBC.mono B5.out.size))
           have HRC := Lib.hid (HREM.out _ _ _ _ ((A4'.out.keep B5.out).keep hBC) (RuAt.one 32 w5 r) (fun f => by have := HO4.out _ f; have := B5.out.size; simp at *; omega) (N5.out.keep hBC))
           clear hBC
           have HE5 := Lib.hid (X4.out.keep B5.out).five
           clear r5 n5 b5)
        | (go_at_call 76
           (with_reducible refine HTA.out.mono ?_)
           rintro e w5 ⟨v5, rfl, r5, b5⟩
           obtain ⟨ta, tc, rfl, n5⟩ := Nums.of r5 HT64.out
           have N5 := Lib.hid n5
           have R5 := Lib.hid (HRA.out.keep b5)
           have B5 := Lib.hid (HBA.out.trans (b5.mono HBA.out.size))
           have HE5 := Lib.hid (X4.out.keep B5.out).five
           clear r5 n5 b5)
        | (go_at_call 78
           (with_reducible refine (HREM.out _ _ _ _ (A4'.out.keep B5.out) R5.out (fun f => by have := HO4.out _ f; simp at this) N5.out).mono ?_)
           rintro e w6 ⟨rfl, t6⟩
           have HE6 := Lib.hid ((X4.out.keep B5.out).tu t6.ts.tu HNB.out).five
           have T6 := Lib.hid (T4.out.trans (t6.pre B5.out))
           clear t6)
        | (go_at_call 78
           (with_reducible refine HRC.out.mono ?_)
           rintro e w6 ⟨rfl, t6⟩
           have HE6 := Lib.hid (HXC.out.tu t6.ts.tu HNB.out).five
           have T6 := Lib.hid (T4.out.trans (t6.pre HBC.out))
           clear t6)
        | fail)
    all_goals
      have q := T6.out
      rw [EK.out] at q
      have T7 := Lib.hid q
      clear q T6
      go_wp2
      go_ret
      exact ⟨rfl, _, T7.out⟩
  · have eP : keSp P r = P := by unfold keSp; rw [if_neg he]
    have eQ : kSp P r = P := by unfold kSp; rw [if_neg he]
    rw [eP] at HRL
    rw [eQ]
    have hez : (kErr P r == 0) = false := by simpa using he
    clear h he eP eQ hfd hf hg
    generalize kErr P r = er at *
    go_enter Tryz.func35, Tryz.ntmps35
    go_wp2_with fail
    generalize hBB : w.heap.size = B0 at *
    have HBB := Lib.hid hBB
    generalize w.alloc (.cells #[.string (bs r.src), .string (bs r.dst), .int .i64 r.kind, .int .i64 r.size, .int .i64 r.align] 32) = w1 at *
    clear hBB
    obtain ⟨y0, y1, y2, y3, y4⟩ := HX.out.five
    go_wp2_with fail
    refine (HRL.out _ H1.out).mono ?_
    rintro e w2 ⟨rfl, m1, t2⟩
    have T2 := Lib.hid (t2.pre (w := w) (by rw [HBB.out]; exact HB1.out))
    clear t2 y0 y1 y2 y3 y4
    go_wp2
    go_ret
    exact ⟨rfl, _, T2.out⟩
end Go.Proofs.YtmifpfojhlmbkaaGreat
namespace Go.Proofs.YtmifpfojhlmbkaaGreat
set_option maxRecDepth 100000
set_option maxHeartbeats 16000000
open Go.RowKit
set_option linter.unusedVariables false
set_option linter.unusedSimpArgs false
theorem LbAt.set {w : World} {a : Option Addr} {n c : Nat} {l : List Lb} (h : LbAt w a n c l) {y o : Nat} {v : Value} {cs : Array Value} {t : TypeId} {f : Nat × Nat} (hy : w.heap[y]? = some (.cells cs t f)) (hn : ∀ (j : Nat) s, cs[j]? ≠ some (.string s)) : LbAt (w.setCell ⟨y, o, none⟩ v) a n c l := by
  obtain ⟨h1, h2, h3, h4⟩ := h
  refine ⟨h1, h2, h3, ?_⟩
  rcases h4 with e | ⟨b, off, ha, hb, hc⟩
  · exact .inl e
  · by_cases h0 : n = 0
    · exact .inl h0
    · have hby : b ≠ y := fun e => by
        have q := (hc 0 (by omega)).1
        rw [e, cell_of hy] at q
        exact hn _ _ q
      refine .inr ⟨b, off, ha, by simpa [World.setCell] using hb, fun i hi => ?_⟩
      obtain ⟨q1, q2⟩ := hc i hi
      exact ⟨by rw [World.cell?, heap_set_ne hby]; exact q1, by rw [World.cell?, heap_set_ne hby]; exact q2⟩
theorem LbAt.set4 {w : World} {a : Option Addr} {n c : Nat} {l : List Lb} (h : LbAt w a n c l) {y : Nat} {i0 i1 i2 : Int} {t : TypeId} {f : Nat × Nat} (hy : w.heap[y]? = some (.cells #[.int .i64 i0, .int .i64 i1, .int .i64 i2, .slice none 0 0] t f)) (rt zz pl : Int) (v : Value) (hv : ∀ s, v ≠ .string s) :
    LbAt ((((w.setCell ⟨y, 0, none⟩ (.int .i64 zz)).setCell ⟨y, 1, none⟩ (.int .i64 rt)).setCell ⟨y, 2, none⟩ (.int .i64 pl)).setCell ⟨y, 3, none⟩ v) a n c l := by
  have e0 := heap_set (o := 0) (v := .int .i64 zz) hy
  have e1 := heap_set (o := 1) (v := .int .i64 rt) e0
  have e2 := heap_set (o := 2) (v := .int .i64 pl) e1
  refine (((h.set hy ?_).set e0 ?_).set e1 ?_).set e2 ?_
  all_goals
    intro j s hj
    rcases j with _ | _ | _ | _ | j <;> simp at hj
def OptP (P : Spc) (k : Tx) (w : World) (e : Ending) (w' : World) : Prop :=
  ∃ a c, e = .returned (.tuple #[.agg #[.int .i64 (P.Z k), .int .i64 (P.S k).ret, .int .i64 (P.S k).pol, .slice a ((look P.E k).getD []).length c], .bool true]) ∧ LbAt w' a ((look P.E k).getD []).length c ((look P.E k).getD []) ∧ Below w.heap.size w w'
theorem hOptions_ok (w : World) (x : Nat) (m : Mem) (P : Spc) (k : Tx) (h : SpAt w x m P) (hk : P.has k) : Calls Tryz.prog 32 #[.pointer (some ⟨x, 0, none⟩), .string (bs k)] w (OptP P k w) := by
  have hf : ∀ (W : World) (n : Int) (b : Nat), (Instr.field 105 (.agg #[.int .i64 n, .pointer (some ⟨b, 0, none⟩)]) 0).run Tryz.prog W = .ok (.int .i64 n) W := fun W n b => by kernel_rfl
  have HS := Lib.hid (fun W (b : Below w.heap.size w W) => hFind_ok W x m P k (h.keep b) hk)
  have hz := h.ok.siz k hk
  have HR := Lib.hid (fun W (b : Below w.heap.size w W) => sret_ok (m.B k) (P.Z k) (P.S k) W ((h.keep b).ser k hk) (by omega))
  have HP := Lib.hid (fun W (b : Below w.heap.size w W) => spol_ok (m.B k) (P.Z k) (P.S k) W ((h.keep b).ser k hk) (by omega))
  have HLB := Lib.hid (fun W (b : Below w.heap.size w W) => ilabels_ok W m.ix m.bl m.bn m.ρ P.E k (h.keep b).ix)
  have HLK := Lib.hid (fun W (b : Below w.heap.size w W) => look_sp (h.keep b) k hk)
  have HC := Lib.hid (fun W (b : Below w.heap.size w W) => (h.keep b).cell)
  have HM := Lib.hid (show m.mb < w.heap.size from h.map.lt)
  have HX := Lib.hid h.xlt
  unfold MadeL at HLB
  unfold OptP
  clear h hk hz
  generalize (look P.E k).getD [] = ll at *
  generalize P.Z k = zz at *
  generalize (P.S k).ret = rt at *
  generalize (P.S k).pol = pl at *
  generalize m.B k = bk at *
  go_enter Tryz.func32, Tryz.ntmps32
  go_wp2_with fail
  obtain ⟨W0, hW⟩ : ∃ W, w.alloc (.cells #[.int .i64 0, .int .i64 0, .int .i64 0, .slice none 0 0] 30) = W := ⟨_, rfl⟩
  obtain ⟨h0, B0, hs0⟩ := alloc1 _ _ _ hW
  rw [hW]
  clear hW
  refine (HS.out _ B0).mono ?_
  rintro e W1 ⟨rfl, b1⟩
  replace h0 := (b1.block w.heap.size (by omega)).trans h0
  replace B0 := B0.trans (b1.mono (by omega))
  have hs1 : w.heap.size < W1.heap.size := by have := b1.size; omega
  clear b1 HS hs0
  have B1 := Lib.hid B0
  have hxy := HX.out
  have hmy := HM.out
  have BD := Lib.hid (show Below w.heap.size w W1.drew from B0.drew)
  have lk := HLK.out _ B0 W1.drew rfl
  have c0 := (HC.out _ B0).c0
  have c1 := (HC.out _ B0).c1
  have HRD := Lib.hid (HR.out _ BD.out)
  have HPD := Lib.hid (HP.out _ BD.out)
  have HLD := Lib.hid (HLB.out _ BD.out)
  have HL2 := Lib.hid (HLK.out _ B0)
  clear B0
  generalize hx : w.heap.size = y at *
  have f0 := frozen_of (o := 0) h0
  have f1 := frozen_of (o := 1) h0
  have f2 := frozen_of (o := 2) h0
  have f3 := frozen_of (o := 3) h0
  have d0 : W1.cell? ⟨y, 0, none⟩ = some (.int .i64 0) := by rw [cell_of h0]; rfl
  have d1 : W1.cell? ⟨y, 1, none⟩ = some (.int .i64 0) := by rw [cell_of h0]; rfl
  have d2 : W1.cell? ⟨y, 2, none⟩ = some (.int .i64 0) := by rw [cell_of h0]; rfl
  have d3 : W1.cell? ⟨y, 3, none⟩ = some (.slice none 0 0) := by rw [cell_of h0]; rfl
  have H0 := Lib.hid h0
  clear h0
  go_wp2_with fail
  have hne : x ≠ y := by omega
  clear hxy
  go_region_held3 (fun w' => w'.cell? ⟨x, 0, none⟩ = some (mp m.mb) ∧ w'.cell? ⟨x, 1, none⟩ = some (.pointer (some ⟨m.ix, 0, none⟩)))
    (first
      | with_reducible exact HE4.out
      | with_reducible exact HE.out
      | go_keep
      | fail)
    (first
      | (go_at_call 81
         (with_reducible refine HRD.out.mono ?_)
         rintro e w2 ⟨rfl, rfl⟩)
      | (go_at_call 82
         (with_reducible refine HPD.out.mono ?_)
         rintro e w2 ⟨rfl, rfl⟩)
      | (go_at_call 83
         (with_reducible refine HLD.out.mono ?_)
         rintro e W2 ⟨la, lc, rfl, l2, b2⟩
         have L2 := Lib.hid l2
         have B2 := Lib.hid (BD.out.trans (b2.mono (Nat.le_of_lt hs1)))
         have HE := Lib.hid (show W2.cell? ⟨x, 0, none⟩ = some (mp m.mb) ∧ W2.cell? ⟨x, 1, none⟩ = some (.pointer (some ⟨m.ix, 0, none⟩)) from ⟨(HC.out W2 B2.out).c0, (HC.out W2 B2.out).c1⟩)
         have HE4 := Lib.hid (show ((((W2.setCell ⟨y, 0, none⟩ (.int .i64 zz)).setCell ⟨y, 1, none⟩ (.int .i64 rt)).setCell ⟨y, 2, none⟩ (.int .i64 pl)).setCell ⟨y, 3, none⟩ (.slice la ll.length lc)).cell? ⟨x, 0, none⟩ = some (mp m.mb) ∧ ((((W2.setCell ⟨y, 0, none⟩ (.int .i64 zz)).setCell ⟨y, 1, none⟩ (.int .i64 rt)).setCell ⟨y, 2, none⟩ (.int .i64 pl)).setCell ⟨y, 3, none⟩ (.slice la ll.length lc)).cell? ⟨x, 1, none⟩ = some (.pointer (some ⟨m.ix, 0, none⟩)) from by
           constructor
           · rw [World.cell?, heap_set_ne hne, heap_set_ne hne, heap_set_ne hne, heap_set_ne hne]; exact HE.out.1
           · rw [World.cell?, heap_set_ne hne, heap_set_ne hne, heap_set_ne hne, heap_set_ne hne]; exact HE.out.2)
         have lk2 := HLK.out W2 B2.out W2 rfl
         have h2 : W2.heap[y]? = some (.cells #[.int .i64 0, .int .i64 0, .int .i64 0, .slice none 0 0] 30 (0, 0)) := (b2.block y hs1).trans H0.out
         have f0' := frozen_of (o := 0) h2
         have f1' := frozen_of (o := 1) h2
         have f2' := frozen_of (o := 2) h2
         have f3' := frozen_of (o := 3) h2
         have d0' : W2.cell? ⟨y, 0, none⟩ = some (.int .i64 0) := by rw [cell_of h2]; rfl
         have d1' : W2.cell? ⟨y, 1, none⟩ = some (.int .i64 0) := by rw [cell_of h2]; rfl
         have d2' : W2.cell? ⟨y, 2, none⟩ = some (.int .i64 0) := by rw [cell_of h2]; rfl
         have d3' : W2.cell? ⟨y, 3, none⟩ = some (.slice none 0 0) := by rw [cell_of h2]; rfl
         have H2 := Lib.hid h2
         clear h2 l2 b2)
      | fail)
  all_goals
    have LF := Lib.hid (L2.out.set4 H2.out rt zz pl (.slice la ll.length lc) (fun s e => by cases e))
    have BF := Lib.hid ((((B2.out.setCell (p := ⟨y, 0, none⟩) (Nat.le_refl _) (.int .i64 zz)).setCell (p := ⟨y, 1, none⟩) (Nat.le_refl _) (.int .i64 rt)).setCell (p := ⟨y, 2, none⟩) (Nat.le_refl _) (.int .i64 pl)).setCell (p := ⟨y, 3, none⟩) (Nat.le_refl _) (.slice la ll.length lc))
    go_wp2
    refine bodyPost_ret (results_cell_pair rfl _ _ y _ _ _ _ (.bool true) rfl rfl (heap_set (heap_set (heap_set (heap_set H2.out)))) Tryz.underlying30 rfl (by kernel_rfl)) rfl ?_
    exact ⟨la, lc, rfl, LF.out, by rw [hx]; exact BF.out⟩
end Go.Proofs.YtmifpfojhlmbkaaGreat
namespace Go.Proofs.YtmifpfojhlmbkaaGreat
set_option maxRecDepth 100000
set_option maxHeartbeats 16000000
open Go.RowKit
set_option linter.unusedVariables false
set_option linter.unusedSimpArgs false
theorem bErr_ok {P : Spc} {k : Tx} {sz ret pol : Int} {l : List Lb} (he : bErr P k sz ret pol l = 0) : ¬ P.has k ∧ okE k l ∧ (128 ≤ sz ∧ sz ≤ 4096) ∧ keepB ret pol := by
  unfold bErr at he
  by_cases h1 : ¬ ((128 ≤ sz ∧ sz ≤ 4096) ∧ keepB ret pol) ∨ ¬ keyB k ∨ ¬ rightL l
  · rw [if_pos h1] at he; omega
  · rw [if_neg h1] at he
    by_cases h2 : P.has k
    · rw [if_pos h2] at he; omega
    · have h3 : (128 ≤ sz ∧ sz ≤ 4096) ∧ keepB ret pol := Classical.byContradiction fun q => h1 (.inl q)
      have h4 : keyB k := Classical.byContradiction fun q => h1 (.inr (.inl q))
      have h5 : rightL l := Classical.byContradiction fun q => h1 (.inr (.inr q))
      exact ⟨h2, ⟨h4, h5⟩, h3.1, h3.2⟩
end Go.Proofs.YtmifpfojhlmbkaaGreat
