/-
  Contracts.
-/
import Derived.Test.YtmifpfojhlmbkaaGreatJ21
import Derived.Test.YtmifpfojhlmbkaaGreatJ39
import Derived.Test.YtmifpfojhlmbkaaGreatJ42
namespace Go.Proofs.YtmifpfojhlmbkaaGreat
set_option maxRecDepth 100000
set_option maxHeartbeats 16000000
open Go.RowKit
set_option linter.unusedVariables false
set_option linter.unusedSimpArgs false
theorem rset_of {P : Spc} (h : Ok12 P) (k : Tx) : Rset P (ofL P.G k) where
  right := fun r hr => by
    obtain ⟨h1, _⟩ := mem_ofL.1 hr
    exact ⟨h.gG.right r h1, (h.ends r h1).1, (h.ends r h1).2⟩
  apart := fun r hr q hq e => h.gG.flat q (mem_ofL.1 hq).1 r (mem_ofL.1 hr).1 e.symm
  one := (of_dst h.gG k).imp (fun h => lt_ne h)
theorem Rset.same {P Q : Spc} {rs : List Ru} (h : Rset P rs) (e : ∀ k, P.has k → Q.has k) : Rset Q rs := ⟨fun r hr => ⟨(h.right r hr).1, e _ (h.right r hr).2.1, e _ (h.right r hr).2.2⟩, h.apart, h.one⟩
theorem touch_in {s : Ser} (h : Std s) {T : Int} (h0 : 0 ≤ T) (h1 : T < 1099511627776) : (∀ t ∈ touchL s.mx T, 0 ≤ t ∧ t < 1099511627776) ∧ (touchL s.mx T).Pairwise (· ≤ ·) ∧ (touchL s.mx T).length ≤ 2 := by
  have := h.m1
  unfold touchL
  split
  · refine ⟨fun t ht => ?_, by simp; omega, by simp⟩
    rcases List.mem_cons.1 ht with e | e
    · omega
    · have := List.mem_singleton.1 e; omega
  · refine ⟨fun t ht => ?_, by simp, by simp⟩
    have := List.mem_singleton.1 ht; omega
def WrP (m : Mem) (P : Spc) (k : Tx) (w : World) (e : Ending) (w' : World) : Prop := e = .returned (.tuple #[.pointer (if wErr P k = 0 then some ⟨m.B k, 0, none⟩ else none), .int .i64 (wErr P k)]) ∧ Below w.heap.size w w'
theorem hWr (w : World) (x : Nat) (m : Mem) (P : Spc) (k : Tx) (h : SpAt w x m P) :
    Calls Tryz.prog 62 #[.pointer (some ⟨x, 0, none⟩), .string (bs k)] w (WrP m P k w) := by
  by_cases hk : P.has k
  · have HF := Lib.hid (hFind_ok w x m P k h hk)
    have H := Lib.hid h
    have HI := Lib.hid (fun W (h : SpAt W x m P) => ginto_ok W m.gx m.bi m.bf (intoL P.G) k h.gr.cell h.gr.into)
    cases hi : intoL P.G k with
    | none =>
      have HW := Lib.hid (show WrP m P k w = fun e w' => e = .returned (.tuple #[.pointer (some ⟨m.B k, 0, none⟩), .int .i64 0]) ∧ Below w.heap.size w w' from by
        have e : wErr P k = 0 := by unfold wErr; rw [if_neg (by simpa using hk), hi]; rfl
        funext e' w'; unfold WrP; rw [e]; rfl)
      rw [HW.out]
      rw [hi] at HI
      replace HI : Hid (∀ W, SpAt W x m P → Calls Tryz.prog 129 #[.pointer (some ⟨m.gx, 0, none⟩), .string (bs k)] W fun e w' => e = .returned (.tuple #[.agg #[.string (bs zeroU.src), .string (bs zeroU.dst), .int .i64 zeroU.kind, .int .i64 zeroU.size, .int .i64 zeroU.align], .bool false]) ∧ Below W.heap.size W w') := HI
      clear h hk hi
      generalize bs zeroU.src = u0 at *
      generalize bs zeroU.dst = u1 at *
      generalize zeroU.kind = u2 at *
      generalize zeroU.size = u3 at *
      generalize zeroU.align = u4 at *
      go_enter Tryz.func62, Tryz.ntmps62
      go_wp2_with fail
      refine HF.out.mono ?_
      rintro e w1 ⟨rfl, b1⟩
      have H1 := Lib.hid (H.out.keep b1)
      have B1 := Lib.hid b1
      have c2 := H1.out.cell.c2
      clear b1
      go_wp2_with fail
      refine (HI.out _ H1.out).mono ?_
      rintro e w2 ⟨rfl, b2⟩
      have B2 := Lib.hid (B1.out.trans (b2.mono B1.out.size))
      have HB := Lib.hid (B2.out.alloc B2.out.size (.cells #[.string u0, .string u1, .int .i64 u2, .int .i64 u3, .int .i64 u4] 32))
      clear b2 c2
      go_wp2
      go_ret2
      exact ⟨rfl, HB.out⟩
    | some r0 =>
      have HW := Lib.hid (show WrP m P k w = fun e w' => e = .returned (.tuple #[.pointer none, .int .i64 10]) ∧ Below w.heap.size w w' from by
        have e : wErr P k = 10 := by unfold wErr; rw [if_neg (by simpa using hk), hi]; rfl
        funext e' w'; unfold WrP; rw [e]; rfl)
      rw [HW.out]
      rw [hi] at HI
      replace HI : Hid (∀ W, SpAt W x m P → Calls Tryz.prog 129 #[.pointer (some ⟨m.gx, 0, none⟩), .string (bs k)] W fun e w' => e = .returned (.tuple #[.agg #[.string (bs r0.src), .string (bs r0.dst), .int .i64 r0.kind, .int .i64 r0.size, .int .i64 r0.align], .bool true]) ∧ Below W.heap.size W w') := HI
      clear h hk hi
      generalize bs r0.src = u0 at *
      generalize bs r0.dst = u1 at *
      generalize r0.kind = u2 at *
      generalize r0.size = u3 at *
      generalize r0.align = u4 at *
      go_enter Tryz.func62, Tryz.ntmps62
      go_wp2_with fail
      refine HF.out.mono ?_
      rintro e w1 ⟨rfl, b1⟩
      have H1 := Lib.hid (H.out.keep b1)
      have B1 := Lib.hid b1
      have c2 := H1.out.cell.c2
      clear b1
      go_wp2_with fail
      refine (HI.out _ H1.out).mono ?_
      rintro e w2 ⟨rfl, b2⟩
      have B2 := Lib.hid (B1.out.trans (b2.mono B1.out.size))
      have HB := Lib.hid (B2.out.alloc B2.out.size (.cells #[.string u0, .string u1, .int .i64 u2, .int .i64 u3, .int .i64 u4] 32))
      clear b2 c2
      go_wp2
      go_ret2
      exact ⟨rfl, HB.out⟩
  · have HW := Lib.hid (show WrP m P k w = fun e w' => e = .returned (.tuple #[.pointer none, .int .i64 5]) ∧ Below w.heap.size w w' from by
      have e : wErr P k = 5 := by unfold wErr; rw [if_pos hk]
      funext e' w'; unfold WrP; rw [e]; rfl)
    rw [HW.out]
    have HF := Lib.hid (hFind_no w x m P k h hk)
    clear h hk
    go_enter Tryz.func62, Tryz.ntmps62
    go_wp2_with fail
    refine HF.out.mono ?_
    rintro e w1 ⟨rfl, b1⟩
    have B1 := Lib.hid b1
    clear b1
    go_wp2
    go_ret2
    exact ⟨rfl, B1.out⟩
def WriP (x : Nat) (m : Mem) (P : Spc) (er : Int) (P' : Spc) (w : World) (e : Ending) (w' : World) : Prop := e = .returned (.int .i64 er) ∧ SpTurn w w' x m m P.E P'
theorem upd_self {β : Type} (f : Tx → β) (k : Tx) : upd f k (f k) = f := funext fun x => by
  unfold upd
  split
  · rename_i e; rw [e]
  · rfl
theorem hWrite (w : World) (x : Nat) (m : Mem) (P : Spc) (k : Tx) (T V p : Int) (h : SpAt w x m P) (hk : P.has k) (hf : Few 9000 P) (hg : P.G.length ≤ 1000) (hV : in64 V) :
    Calls Tryz.prog 63 #[.pointer (some ⟨x, 0, none⟩), .string (bs k), .pointer (some ⟨m.B k, 0, none⟩), .agg #[.int .i64 T, .int .i64 V], .int .i64 p] w
      (WriP x m P (addE (P.S k) T V p) (if addE (P.S k) T V p = 0 then wrote P k T V p else P) w) := by
  have hS := h.ok.std k hk
  have hz := h.ok.siz k hk
  have B1 := (Below.refl w.heap.size w).alloc (Nat.le_refl _) (.cells #[.int .i64 T, .int .i64 V] 27)
  have H1 := Lib.hid (h.keep B1)
  have HB1 := Lib.hid B1
  have hx0 : (w.alloc (.cells #[.int .i64 T, .int .i64 V] 27)).heap[w.heap.size]? = some (.cells #[.int .i64 T, .int .i64 V] 27 (0, 0)) := heap_new w _
  have HX := Lib.hid hx0
  have hBk : m.B k < w.heap.size := (h.ser k hk).lt
  have HMX := Lib.hid (fun W (q : SerAt W (m.B k) (P.Z k) (P.S k)) => smax_ok (m.B k) (P.Z k) (P.S k) W q (by omega))
  have hzk := hf.z k hk
  have HAD := Lib.hid (fun W (q : SerAt W (m.B k) (P.Z k) (P.S k)) => add_ser (m.B k) (P.Z k) (P.S k) T V p W q hS hz.1 hz.2 (by omega) hV)
  have HST := Lib.hid (hS.add T V p hV)
  have HSL := Lib.hid (add_len hS.rise T V p)
  have HS := Lib.hid hS
  have HF := Lib.hid hf
  by_cases he : addE (P.S k) T V p = 0
  · have hT : 0 ≤ T ∧ T < 1099511627776 := by
      unfold addE at he
      by_cases hb : badS (P.S k) T p
      · rw [if_pos hb] at he; omega
      · unfold badS at hb; omega
    obtain ⟨t1, t2, t3⟩ := touch_in hS hT.1 hT.2
    have HT1 := Lib.hid t1
    have HT2 := Lib.hid t2
    have HTG := Lib.hid (show wrote P k T V p = { P with S := remK (upd P.S k (addS5 (P.S k) T V p)) (ofL P.G k) (touchL (P.S k).mx T) } from rfl)
    rw [if_pos he, he]
    rw [he] at HAD
    rw [HTG.out]
    have HTO := Lib.hid (fun W => touched_any (P.S k).mx T W)
    have HT64 := Lib.hid (show ∀ t ∈ touchL (P.S k).mx T, in64 t from fun t ht => by have := t1 t ht; unfold in64; omega)
    clear hx0 h B1 hS t1 t2 he hT HTG hf
    generalize touchL (P.S k).mx T = tl at *
    generalize addS5 (P.S k) T V p = s' at *
    generalize (P.S k).mx = mx at *
    go_enter Tryz.func63, Tryz.ntmps63
    go_wp2_with fail
    generalize hBB : w.heap.size = B0 at *
    generalize hW1 : w.alloc (.cells #[.int .i64 T, .int .i64 V] 27) = W1 at *
    have HBB := Lib.hid hBB
    clear hW1 hBB
    refine (HMX.out _ (H1.out.ser k hk)).mono ?_
    rintro e w' ⟨rfl, rfl⟩
    have x0 : W1.cell? ⟨B0, 0, none⟩ = some (.int .i64 T) := by rw [cell_of HX.out]; rfl
    have x1 : W1.cell? ⟨B0, 1, none⟩ = some (.int .i64 V) := by rw [cell_of HX.out]; rfl
    go_wp2_with fail
    refine (HAD.out _ (H1.out.ser k hk)).mono ?_
    rintro e W2 ⟨rfl, s2, g2⟩
    have T2 := Lib.hid (H1.out.serTurn hk g2 s2 HST.out)
    have hB0 : B0 < W1.heap.size := heap_lt HX.out
    have HX2 := Lib.hid (show W2.heap[B0]? = some (.cells #[.int .i64 T, .int .i64 V] 27 (0, 0)) from (g2.block B0 hB0 (by simp; omega)).trans HX.out)
    have A2 := Lib.hid T2.out.sp
    replace A2 : Hid (SpAt W2 x m { P with S := upd P.S k s' }) := A2
    have x0' : W2.cell? ⟨B0, 0, none⟩ = some (.int .i64 T) := by rw [cell_of HX2.out]; rfl
    have c2 := A2.out.cell.c2
    have HRS := Lib.hid ((rset_of A2.out.ok k))
    replace HRS : Hid (Rset { P with S := upd P.S k s' } (ofL P.G k)) := HRS
    have HOL := Lib.hid (show (ofL P.G k).length ≤ 1000 from Nat.le_trans (ofL_le _ _) hg)
    have HOF := Lib.hid (fun W (q : SpAt W x m { P with S := upd P.S k s' }) => gof_ok W m.gx m.bi m.bf m.F (ofL P.G) k q.gr.cell q.gr.from_ HOL.out)
    have HZ2 := Lib.hid (show ∀ j, ({ P with S := upd P.S k s' } : Spc).has j → (({ P with S := upd P.S k s' } : Spc).S j).z.length ≤ 10000 from fun j hj => by
      by_cases e : j = k
      · subst e
        show (upd P.S j s' j).z.length ≤ 10000
        rw [upd_k]; have := HSL.out; omega
      · show (upd P.S k s' j).z.length ≤ 10000
        rw [upd_n _ _ e]; have := HF.out.z j hj; omega)
    have hOwn := Lib.hid (show ∀ i, Own m P.E i → i < W2.heap.size from fun i f => A2.out.lt f)
    generalize ofL P.G k = rs at *
    have BB := Lib.hid ((Below.refl W2.heap.size W2).drew)
    clear x0 x1 HX H1 HMX HAD HST HSL HS s2 g2 HF
    go_wp2_with fail
    go_region_held3 (fun w' => w'.cell? ⟨x, 2, none⟩ = some (.pointer (some ⟨m.gx, 0, none⟩)) ∧ w'.cell? ⟨B0, 0, none⟩ = some (.int .i64 T))
      (first
        | exact HE4.out
        | exact HE3.out
        | go_keep
        | fail)
      (first
        | (go_at_call 79
           (with_reducible refine (HOF.out _ (A2.out.keep BB.out)).mono ?_)
           rintro e WO ⟨vO, rfl, rO, bO⟩
           obtain ⟨ao, co, rfl, ruO, owO⟩ := rO.shape
           have hRO := Lib.hid (show ∀ ad, ao = some ad → ¬ Own m P.E ad.block from fun ad e f => by
             have h1 := rO.base (owO ad e)
             have h2 := hOwn.out _ f
             have h3 := BB.out.size
             omega)
           have RO := Lib.hid ruO
           replace BB := Lib.hid (BB.out.trans (bO.mono BB.out.size))
           try replace IT := Lib.hid (IT.out.keep bO)
           have HE3 := Lib.hid (show WO.cell? ⟨x, 2, none⟩ = some (.pointer (some ⟨m.gx, 0, none⟩)) ∧ WO.cell? ⟨B0, 0, none⟩ = some (.int .i64 T) from ⟨(A2.out.keep BB.out).cell.c2, by rw [cell_of ((BB.out.block B0 (heap_lt HX2.out)).trans HX2.out)]; rfl⟩)
           clear rO ruO owO bO)
        | (go_at_call 131
           (with_reducible refine (HTO.out _).mono ?_)
           rintro e WT ⟨vT, rfl, rT, bT⟩
           obtain ⟨ta, tc, rfl, nT⟩ := Nums.of rT HT64.out
           have IT := Lib.hid nT
           replace BB := Lib.hid (BB.out.trans (bT.mono BB.out.size))
           try replace RO := Lib.hid (RO.out.keep bT)
           have HE3 := Lib.hid (show WT.cell? ⟨x, 2, none⟩ = some (.pointer (some ⟨m.gx, 0, none⟩)) ∧ WT.cell? ⟨B0, 0, none⟩ = some (.int .i64 T) from ⟨(A2.out.keep BB.out).cell.c2, by rw [cell_of ((BB.out.block B0 (heap_lt HX2.out)).trans HX2.out)]; rfl⟩)
           clear rT nT bT)
        | (go_at_call 78
           (with_reducible refine (remake_any _ x m { P with S := upd P.S k s' } _ _ _ rs _ _ _ tl (A2.out.keep BB.out) RO.out hRO.out HRS.out HZ2.out IT.out (by omega) HT1.out HT2.out (by have := HOL.out; omega)).mono ?_)
           rintro e W5 ⟨rfl, t5⟩
           have HE4 := Lib.hid (show W5.cell? ⟨x, 2, none⟩ = some (.pointer (some ⟨m.gx, 0, none⟩)) ∧ W5.cell? ⟨B0, 0, none⟩ = some (.int .i64 T) from ⟨t5.sp.cell.c2, by
             rw [cell_of (t5.ts.cells _ _ _ _ (by decide) (by decide) ((BB.out.block B0 (heap_lt HX2.out)).trans HX2.out))]; rfl⟩))
        | fail)
    all_goals
      have T5 := Lib.hid ((T2.out.trans (t5.pre BB.out)).pre (show Below w.heap.size w W1 from by rw [HBB.out]; exact HB1.out))
      clear t5 HE4
      go_wp2
      go_ret
      exact ⟨rfl, T5.out⟩
  · have HD := Lib.hid (show addS5 (P.S k) T V p = P.S k from by unfold addS5; rw [if_neg he])
    rw [if_neg he]
    rw [HD.out] at HAD HST
    clear hx0 h B1 hS hf
    generalize hee : addE (P.S k) T V p = er at *
    clear hee
    have hez : (er == 0) = false := by simpa using he
    generalize hsk : P.S k = s0 at *
    have HSK := Lib.hid hsk
    clear hsk
    generalize s0.mx = mx at *
    go_enter Tryz.func63, Tryz.ntmps63
    go_wp2_with fail
    generalize hBB : w.heap.size = B0 at *
    generalize hW1 : w.alloc (.cells #[.int .i64 T, .int .i64 V] 27) = W1 at *
    have HBB := Lib.hid hBB
    clear hW1 hBB
    have HS1 := Lib.hid (H1.out.ser k hk)
    rw [HSK.out] at HS1
    refine (HMX.out _ HS1.out).mono ?_
    rintro e w' ⟨rfl, rfl⟩
    have x0 : W1.cell? ⟨B0, 0, none⟩ = some (.int .i64 T) := by rw [cell_of HX.out]; rfl
    have x1 : W1.cell? ⟨B0, 1, none⟩ = some (.int .i64 V) := by rw [cell_of HX.out]; rfl
    go_wp2_with fail
    refine (HAD.out _ HS1.out).mono ?_
    rintro e W2 ⟨rfl, s2, g2⟩
    have T2 := Lib.hid (H1.out.serTurn hk g2 s2 HST.out)
    rw [← HSK.out, upd_self] at T2
    have T3 := Lib.hid (T2.out.pre (show Below w.heap.size w W1 from by rw [HBB.out]; exact HB1.out))
    clear s2 g2 x0 x1 T2
    go_wp2
    go_ret
    exact ⟨rfl, T3.out⟩
end Go.Proofs.YtmifpfojhlmbkaaGreat
namespace Go.Proofs.YtmifpfojhlmbkaaGreat
set_option maxRecDepth 100000
set_option maxHeartbeats 16000000
open Go.RowKit
set_option linter.unusedVariables false
set_option linter.unusedSimpArgs false
theorem last64 {s : Ser} (h : Std s) : in64 (lastV s) ∧ 0 ≤ lastT s := by
  unfold lastV lastT
  by_cases e : s.z.length = 0
  · have : s.z = [] := List.eq_nil_of_length_eq_zero e
    rw [this]
    exact ⟨by unfold in64 vOf; simp, by unfold tOf; simp⟩
  · have hm := at_mem (z := s.z) (i := s.z.length - 1) (by omega)
    exact ⟨(h.all _ hm).2, (h.pos _ hm)⟩
def RaiP (r : Int × Int) (w : World) (e : Ending) (w' : World) : Prop := e = .returned (.tuple #[.int .i64 r.1, .int .i64 r.2]) ∧ Below w.heap.size w w'
theorem raised_any (b : Nat) (sz : Int) (s : Ser) (t y : Int) (w : World) (h : SerAt w b sz s) (hS : Std s) (hs : 128 ≤ sz) (hn : s.z.length ≤ 90000) (hy : in64 y) :
    Calls Tryz.prog 75 #[.pointer (some ⟨b, 0, none⟩), .int .i64 t, .int .i64 y] w (RaiP (raiE s t y) w) := by
  have hl := last64 hS
  have HE := Lib.hid (last_ser b sz s w h hs (by omega))
  have HR : Hid (raiE s t y = if t < 0 ∨ 1099511627776 ≤ t then (0, 1) else if t < lastT s then (0, 7) else addS (lastV s) y) := Lib.hid rfl
  have HAD := Lib.hid (fun W => add_any (lastV s) y W hl.1 hy)
  replace HE : Hid (Calls Tryz.prog 49 #[.pointer (some ⟨b, 0, none⟩)] w fun e w' => e = .returned (.tuple #[.agg #[.int .i64 (lastT s), .int .i64 (lastV s)], .bool (decide (0 < s.z.length))]) ∧ Below w.heap.size w w') := HE
  rw [HR.out]
  clear h hS hl HR
  generalize lastT s = T at *
  generalize lastV s = V at *
  generalize decide (0 < s.z.length) = some_ at *
  obtain ⟨a1, a2, ha⟩ : ∃ a1 a2, Hid (addS V y = (a1, a2)) := ⟨_, _, Lib.hid rfl⟩
  rw [ha.out] at HAD
  unfold two at HAD
  rw [ha.out]
  by_cases h0 : t < 0
  · rw [if_pos (.inl h0)]
    go_enter Tryz.func75, Tryz.ntmps75
    go_wp2_with fail
    refine HE.out.mono ?_
    rintro e w1 ⟨rfl, b1⟩
    have HB := Lib.hid (b1.alloc b1.size (.cells #[.int .i64 T, .int .i64 V] 27))
    clear b1
    go_wp2
    go_ret2
    exact ⟨rfl, HB.out⟩
  · by_cases h1 : 1099511627776 ≤ t
    · rw [if_pos (.inr h1)]
      go_enter Tryz.func75, Tryz.ntmps75
      go_wp2_with fail
      refine HE.out.mono ?_
      rintro e w1 ⟨rfl, b1⟩
      have HB := Lib.hid (b1.alloc b1.size (.cells #[.int .i64 T, .int .i64 V] 27))
      clear b1
      go_wp2
      go_ret2
      exact ⟨rfl, HB.out⟩
    · rw [if_neg (by omega)]
      by_cases h2 : t < T
      · rw [if_pos h2]
        go_enter Tryz.func75, Tryz.ntmps75
        go_wp2_with fail
        refine HE.out.mono ?_
        rintro e w1 ⟨rfl, b1⟩
        have HB := Lib.hid (b1.alloc b1.size (.cells #[.int .i64 T, .int .i64 V] 27))
        clear b1
        go_wp2
        go_ret2
        exact ⟨rfl, HB.out⟩
      · rw [if_neg h2]
        go_enter Tryz.func75, Tryz.ntmps75
        go_wp2_with fail
        refine HE.out.mono ?_
        rintro e w1 ⟨rfl, b1⟩
        have HB := Lib.hid (b1.alloc b1.size (.cells #[.int .i64 T, .int .i64 V] 27))
        clear b1
        go_wp2_with fail
        refine (HAD.out _).mono ?_
        rintro e w' ⟨rfl, rfl⟩
        go_wp2
        go_ret2
        exact ⟨rfl, HB.out⟩
theorem hAdd (w : World) (x : Nat) (m : Mem) (P : Spc) (k : Tx) (T V p : Int) (h : SpAt w x m P) (hf : Few 9000 P) (hg : P.G.length ≤ 1000) (hV : in64 V) :
    Calls Tryz.prog 18 #[.pointer (some ⟨x, 0, none⟩), .string (bs k), .agg #[.int .i64 T, .int .i64 V], .int .i64 p] w (WriP x m P (aErr P k T V p) (aSp P k T V p) w) := by
  have B1 := (Below.refl w.heap.size w).alloc (Nat.le_refl _) (.cells #[.int .i64 T, .int .i64 V] 27)
  have H1 := Lib.hid (h.keep B1)
  have HB1 := Lib.hid B1
  have hx0 : (w.alloc (.cells #[.int .i64 T, .int .i64 V] 27)).heap[w.heap.size]? = some (.cells #[.int .i64 T, .int .i64 V] 27 (0, 0)) := heap_new w _
  have HX := Lib.hid hx0
  have HW := Lib.hid (hWr _ x m P k (h.keep B1))
  unfold WrP at HW
  by_cases he : wErr P k = 0
  · have hk : P.has k := Classical.byContradiction fun q => by unfold wErr at he; rw [if_pos q] at he; omega
    have E1 : aErr P k T V p = addE (P.S k) T V p := by unfold aErr; rw [if_neg (by simp [he])]
    have E2 : aSp P k T V p = if addE (P.S k) T V p = 0 then wrote P k T V p else P := by unfold aSp; rw [E1]
    rw [E1, E2]
    rw [he] at HW
    have HK := Lib.hid hk
    clear h B1 he E1 E2 hx0
    have HWW := Lib.hid (fun W (q : SpAt W x m P) => hWrite W x m P k T V p q HK.out hf hg hV)
    clear hk
    generalize addE (P.S k) T V p = er at *
    generalize (if er = 0 then wrote P k T V p else P) = P' at *
    go_enter Tryz.func18, Tryz.ntmps18
    go_wp2_with fail
    generalize hBB : w.heap.size = B0 at *
    generalize hW1 : w.alloc (.cells #[.int .i64 T, .int .i64 V] 27) = W1 at *
    have HBB := Lib.hid hBB
    clear hW1 hBB
    refine HW.out.mono ?_
    rintro e w2 ⟨rfl, b2⟩
    have hX2 := (b2.block B0 (heap_lt HX.out)).trans HX.out
    have x0 : w2.cell? ⟨B0, 0, none⟩ = some (.int .i64 T) := by rw [cell_of hX2]; rfl
    have x1 : w2.cell? ⟨B0, 1, none⟩ = some (.int .i64 V) := by rw [cell_of hX2]; rfl
    have H2 := Lib.hid (H1.out.keep b2)
    have HB2 := Lib.hid (show Below w.heap.size w w2 from by rw [HBB.out]; exact HB1.out.trans (b2.mono (by rw [← HBB.out]; exact HB1.out.size)))
    clear b2 hX2
    go_wp2_with fail
    refine (HWW.out _ H2.out).mono ?_
    rintro e w3 ⟨rfl, t3⟩
    have T3 := Lib.hid (t3.pre HB2.out)
    clear t3 x0 x1
    go_wp2
    go_ret
    exact ⟨rfl, T3.out⟩
  · have E1 : aErr P k T V p = wErr P k := by unfold aErr; rw [if_pos he]
    have E2 : aSp P k T V p = P := by unfold aSp; rw [E1, if_neg he]
    rw [E1, E2]
    rw [if_neg he] at HW
    have hez : (wErr P k == 0) = false := by simpa using he
    have H := Lib.hid h
    clear h B1 he E1 E2 hx0 H1
    generalize wErr P k = er at *
    go_enter Tryz.func18, Tryz.ntmps18
    go_wp2_with fail
    refine HW.out.mono ?_
    rintro e w2 ⟨rfl, b2⟩
    have T2 := Lib.hid (SpTurn.below H.out (HB1.out.trans (b2.mono HB1.out.size)))
    clear b2
    go_wp2
    go_ret
    exact ⟨rfl, T2.out⟩
def IncP (x : Nat) (m : Mem) (P : Spc) (v er : Int) (P' : Spc) (w : World) (e : Ending) (w' : World) : Prop := e = .returned (.tuple #[.int .i64 v, .int .i64 er]) ∧ SpTurn w w' x m m P.E P'
theorem hInc (w : World) (x : Nat) (m : Mem) (P : Spc) (k : Tx) (t y : Int) (h : SpAt w x m P) (hf : Few 9000 P) (hg : P.G.length ≤ 1000) (hy : in64 y) :
    Calls Tryz.prog 29 #[.pointer (some ⟨x, 0, none⟩), .string (bs k), .int .i64 t, .int .i64 y] w (IncP x m P (iVal P k t y) (iErr P k t y) (iSp P k t y) w) := by
  have H := Lib.hid h
  have HW := Lib.hid (hWr _ x m P k h)
  unfold WrP at HW
  by_cases he : wErr P k = 0
  · have hk : P.has k := Classical.byContradiction fun q => by unfold wErr at he; rw [if_pos q] at he; omega
    have hS := h.ok.std k hk
    have hz := h.ok.siz k hk
    have hzl := hf.z k hk
    have HR := Lib.hid (fun W (q : SpAt W x m P) => raised_any (m.B k) (P.Z k) (P.S k) t y W (q.ser k hk) hS hz.1 (by omega) hy)
    unfold RaiP at HR
    have HK := Lib.hid hk
    have HWW := Lib.hid (fun W v (hv : in64 v) (q : SpAt W x m P) => hWrite W x m P k t v 3 q HK.out hf hg hv)
    have E1 : iErr P k t y = if (raiE (P.S k) t y).2 ≠ 0 then (raiE (P.S k) t y).2 else addE (P.S k) t (raiE (P.S k) t y).1 3 := by unfold iErr; rw [if_neg (by simp [he])]
    have hv64 : in64 (raiE (P.S k) t y).1 := by
      unfold raiE
      have := addS_in (lastV (P.S k)) y
      (repeat' split) <;> first | assumption | (unfold in64; simp)
    unfold iVal iSp
    rw [E1]
    rw [he] at HW
    clear h he E1 hk hS hz hzl
    generalize (raiE (P.S k) t y).1 = v at *
    generalize (raiE (P.S k) t y).2 = e1 at *
    by_cases h1 : e1 = 0
    · subst h1
      have HV := Lib.hid hv64
      simp only [ne_eq, not_true_eq_false, if_false]
      by_cases h2 : addE (P.S k) t v 3 = 0
      · replace HWW := Lib.hid (HWW.out · v HV.out)
        rw [h2, if_pos rfl] at HWW
        rw [h2, if_pos rfl, if_pos rfl]
        clear h2 hv64
        generalize wrote P k t v 3 = P' at *
        go_enter Tryz.func29, Tryz.ntmps29
        go_wp2_with fail
        refine HW.out.mono ?_
        rintro e w1 ⟨rfl, b1⟩
        have H1 := Lib.hid (H.out.keep b1)
        have B1 := Lib.hid b1
        clear b1
        go_wp2_with fail
        refine (HR.out _ H1.out).mono ?_
        rintro e w2 ⟨rfl, b2⟩
        have H2 := Lib.hid (H1.out.keep b2)
        have B2 := Lib.hid (B1.out.trans (b2.mono B1.out.size))
        clear b2
        go_wp2_with fail
        refine (HWW.out _ H2.out).mono ?_
        rintro e w3 ⟨rfl, t3⟩
        have T3 := Lib.hid (t3.pre B2.out)
        clear t3
        go_wp2
        go_ret2
        exact ⟨rfl, T3.out⟩
      · replace HWW := Lib.hid (HWW.out · v HV.out)
        rw [if_neg h2] at HWW
        rw [if_neg h2, if_neg h2]
        have hez : (addE (P.S k) t v 3 == 0) = false := by simpa using h2
        clear h2 hv64
        generalize addE (P.S k) t v 3 = er at *
        go_enter Tryz.func29, Tryz.ntmps29
        go_wp2_with fail
        refine HW.out.mono ?_
        rintro e w1 ⟨rfl, b1⟩
        have H1 := Lib.hid (H.out.keep b1)
        have B1 := Lib.hid b1
        clear b1
        go_wp2_with fail
        refine (HR.out _ H1.out).mono ?_
        rintro e w2 ⟨rfl, b2⟩
        have H2 := Lib.hid (H1.out.keep b2)
        have B2 := Lib.hid (B1.out.trans (b2.mono B1.out.size))
        clear b2
        go_wp2_with fail
        refine (HWW.out _ H2.out).mono ?_
        rintro e w3 ⟨rfl, t3⟩
        have T3 := Lib.hid (t3.pre B2.out)
        clear t3
        go_wp2
        go_ret2
        exact ⟨rfl, T3.out⟩
    · rw [if_pos h1, if_neg h1, if_neg h1]
      have hez : (e1 == 0) = false := by simpa using h1
      clear h1 hv64 HWW
      go_enter Tryz.func29, Tryz.ntmps29
      go_wp2_with fail
      refine HW.out.mono ?_
      rintro e w1 ⟨rfl, b1⟩
      have H1 := Lib.hid (H.out.keep b1)
      have B1 := Lib.hid b1
      clear b1
      go_wp2_with fail
      refine (HR.out _ H1.out).mono ?_
      rintro e w2 ⟨rfl, b2⟩
      have T2 := Lib.hid (SpTurn.below H.out (B1.out.trans (b2.mono B1.out.size)))
      clear b2
      go_wp2
      go_ret2
      exact ⟨rfl, T2.out⟩
  · have E1 : iErr P k t y = wErr P k := by unfold iErr; rw [if_pos he]
    unfold iVal iSp
    rw [E1, if_neg he, if_neg he]
    rw [if_neg he] at HW
    have hez : (wErr P k == 0) = false := by simpa using he
    clear h he E1
    generalize wErr P k = er at *
    go_enter Tryz.func29, Tryz.ntmps29
    go_wp2_with fail
    refine HW.out.mono ?_
    rintro e w2 ⟨rfl, b2⟩
    have T2 := Lib.hid (SpTurn.below H.out b2)
    clear b2
    go_wp2
    go_ret2
    exact ⟨rfl, T2.out⟩
theorem times_in {s : Ser} (h : Std s) (a b : Int) : (∀ t ∈ timesL (s.z.filter (inB a b)), 0 ≤ t ∧ t < 1099511627776) ∧ (timesL (s.z.filter (inB a b))).Pairwise (· ≤ ·) ∧ (timesL (s.z.filter (inB a b))).length ≤ s.z.length := by
  refine ⟨fun t ht => ?_, ?_, ?_⟩
  · obtain ⟨u, hu, rfl⟩ := List.mem_map.1 ht
    exact h.time u (List.mem_filter.1 hu).1
  · unfold timesL
    rw [List.pairwise_map]
    exact (List.Pairwise.filter _ ((rising_pw _).1 h.rise)).imp (fun h => by omega)
  · unfold timesL; rw [List.length_map]; exact List.length_filter_le ..
theorem hDel (w : World) (x : Nat) (m : Mem) (P : Spc) (k : Tx) (a b : Int) (h : SpAt w x m P) (hf : Few 9000 P) (hg : P.G.length ≤ 1000) :
    Calls Tryz.prog 30 #[.pointer (some ⟨x, 0, none⟩), .string (bs k), .int .i64 a, .int .i64 b] w (IncP x m P (dNum P k a b) (wErr P k) (dSp P k a b) w) := by
  have H := Lib.hid h
  have HW := Lib.hid (hWr _ x m P k h)
  unfold WrP at HW
  unfold dNum dSp
  by_cases he : wErr P k = 0
  · have hk : P.has k := Classical.byContradiction fun q => by unfold wErr at he; rw [if_pos q] at he; omega
    have hS := h.ok.std k hk
    have hz := h.ok.siz k hk
    have hzl := hf.z k hk
    obtain ⟨t1, t2, t3⟩ := times_in hS a b
    have HT1 := Lib.hid t1
    have HT2 := Lib.hid t2
    have HT3 := Lib.hid t3
    have HRG := Lib.hid (fun W (q : SpAt W x m P) => range_ser (m.B k) (P.Z k) (P.S k) a b W (q.ser k hk) hz.1 hS.rise (by omega))
    have HTM := Lib.hid (fun W ad cp (q : Lst W ad ((P.S k).z.filter (inB a b)).length cp ((P.S k).z.filter (inB a b))) => times_any ad _ cp _ W q (by have := List.length_filter_le (inB a b) (P.S k).z; omega))
    have HDL := Lib.hid (fun W (q : SpAt W x m P) => del_any (m.B k) (P.Z k) (P.S k) a b W (q.ser k hk) hz.1 hz.2 hS.rise (by omega))
    have HK := Lib.hid hk
    have HSD := Lib.hid (hS.del a b)
    have HSL := Lib.hid (show (delS (P.S k) a b).z.length ≤ 9000 from Nat.le_trans (del_len _ _ _) hzl)
    have HF := Lib.hid hf
    have HT64 := Lib.hid (show ∀ t ∈ timesL ((P.S k).z.filter (inB a b)), in64 t from fun t ht => by have := t1 t ht; unfold in64; omega)
    rw [he] at HW
    rw [if_neg (by simp [he]), if_neg (by simp [he]), he]
    clear h he hk hS hz t1 t2 t3 hf
    generalize (P.S k).z.filter (inB a b) = gz at *
    generalize timesL gz = tl at *
    generalize dropN (P.S k).z a b = nn at *
    generalize delS (P.S k) a b = s' at *
    go_enter Tryz.func30, Tryz.ntmps30
    go_wp2_with fail
    refine HW.out.mono ?_
    rintro e w1 ⟨rfl, b1⟩
    have H1 := Lib.hid (H.out.keep b1)
    have B1 := Lib.hid b1
    clear b1
    go_wp2_with fail
    refine (HRG.out _ H1.out).mono ?_
    rintro e w2 ⟨ra, rc, rfl, l2, b2⟩
    have L2 := Lib.hid l2
    have H2 := Lib.hid (H1.out.keep b2)
    have B2 := Lib.hid (B1.out.trans (b2.mono B1.out.size))
    clear l2 b2
    go_wp2_with fail
    refine (HTM.out _ _ _ L2.out).mono ?_
    rintro e w3 ⟨v3, rfl, r3, b3⟩
    obtain ⟨ta, tc, rfl, nT⟩ := Nums.of r3 HT64.out
    have IT := Lib.hid nT
    have H3 := Lib.hid (H2.out.keep b3)
    have B3 := Lib.hid (B2.out.trans (b3.mono B2.out.size))
    clear r3 b3 nT HTM L2
    go_wp2_with fail
    refine (HDL.out _ H3.out).mono ?_
    rintro e w4 ⟨rfl, s4, g4⟩
    have T4 := Lib.hid (H3.out.serTurn HK.out g4 s4 HSD.out)
    have A4 := Lib.hid T4.out.sp
    replace A4 : Hid (SpAt w4 x m { P with S := upd P.S k s' }) := A4
    have IT4 := Lib.hid (IT.out.ts T4.out.ts)
    have c2 := A4.out.cell.c2
    have HRS := Lib.hid ((rset_of A4.out.ok k))
    replace HRS : Hid (Rset { P with S := upd P.S k s' } (ofL P.G k)) := HRS
    have HOL := Lib.hid (show (ofL P.G k).length ≤ 1000 from Nat.le_trans (ofL_le _ _) hg)
    have HOF := Lib.hid (gof_ok w4 m.gx m.bi m.bf m.F (ofL P.G) k A4.out.gr.cell A4.out.gr.from_ HOL.out)
    have HZ2 := Lib.hid (show ∀ j, ({ P with S := upd P.S k s' } : Spc).has j → (({ P with S := upd P.S k s' } : Spc).S j).z.length ≤ 10000 from fun j hj => by
      by_cases e : j = k
      · subst e
        show (upd P.S j s' j).z.length ≤ 10000
        rw [upd_k]; have := HSL.out; omega
      · show (upd P.S k s' j).z.length ≤ 10000
        rw [upd_n _ _ e]; have := HF.out.z j hj; omega)
    generalize ofL P.G k = rs at *
    clear s4 g4 H1 H2 H3 IT HSD
    go_wp2_with fail
    refine HOF.out.mono ?_
    rintro e w5 ⟨vO, rfl, rO, bO⟩
    obtain ⟨ao, co, rfl, ruO, owO⟩ := rO.shape
    have hRO := Lib.hid (show ∀ ad, ao = some ad → ¬ Own m P.E ad.block from fun ad e f => by
      have h1 := rO.base (owO ad e)
      have h2 := A4.out.lt (i := ad.block) f
      omega)
    have RO := Lib.hid ruO
    have A5 := Lib.hid (A4.out.keep bO)
    have IT5 := Lib.hid (IT4.out.keep bO)
    have T5 := Lib.hid (T4.out.thenB bO)
    clear rO ruO owO bO c2 T4 IT4 A4
    go_wp2_with fail
    refine (remake_any _ x m { P with S := upd P.S k s' } _ _ _ rs _ _ _ tl A5.out RO.out hRO.out HRS.out HZ2.out IT5.out (by have := HT3.out; omega) HT1.out HT2.out (by have := HOL.out; omega)).mono ?_
    rintro e w6 ⟨rfl, t6⟩
    have T6 := Lib.hid ((T5.out.trans t6).pre B3.out)
    clear t6
    go_wp2
    go_ret2
    exact ⟨rfl, T6.out⟩
  · rw [if_pos he, if_pos he]
    rw [if_neg he] at HW
    have hez : (wErr P k == 0) = false := by simpa using he
    clear h he
    generalize wErr P k = er at *
    go_enter Tryz.func30, Tryz.ntmps30
    go_wp2_with fail
    refine HW.out.mono ?_
    rintro e w2 ⟨rfl, b2⟩
    have T2 := Lib.hid (SpTurn.below H.out b2)
    clear b2
    go_wp2
    go_ret2
    exact ⟨rfl, T2.out⟩
end Go.Proofs.YtmifpfojhlmbkaaGreat
