/-
  Contracts.
-/
import Derived.Test.YtmifpfojhlmbkaaGreatJ20
import Derived.Test.YtmifpfojhlmbkaaGreatJ22
import Derived.Test.YtmifpfojhlmbkaaGreatJ25
import Derived.Test.YtmifpfojhlmbkaaGreatJ26
import Derived.Test.YtmifpfojhlmbkaaGreatJ27
import Derived.Test.YtmifpfojhlmbkaaGreatJ33
import Derived.Test.YtmifpfojhlmbkaaGreatJ34
import Derived.Test.YtmifpfojhlmbkaaGreatJ36
import Derived.Test.YtmifpfojhlmbkaaGreatJ38
namespace Go.Proofs.YtmifpfojhlmbkaaGreat
open Lib (hid)
set_option maxRecDepth 100000
set_option maxHeartbeats 16000000
open Go.RowKit
set_option linter.unusedVariables false
set_option linter.unusedSimpArgs false
theorem upd_self12 {β : Type} (f : Tx → β) (k : Tx) : upd f k (f k) = f := funext fun x => by
  unfold upd
  split
  · rename_i e; rw [e]
  · rfl
theorem LbAt.serTurn {w w' : World} {b : Nat} {sz : Int} {s : Ser} {a : Option Addr} {n c : Nat} {l : List Lb} (h : LbAt w a n c l) (k : SerAt w b sz s) (g : w.grownBy w' (some b)) : LbAt w' a n c l := by
  obtain ⟨h1, h2, h3, h5⟩ := h
  refine ⟨h1, h2, h3, ?_⟩
  rcases h5 with h0 | ⟨p, off, rfl, hlt, hc⟩
  · exact .inl h0
  · by_cases hn : n = 0
    · exact .inl hn
    · have hne : p ≠ b := fun e => by
        subst e
        obtain ⟨L, ⟨a', cap, hs, _⟩, _⟩ := k
        have h0 := (hc 0 (by omega)).1
        rw [cell_of hs] at h0
        match off, h0 with
        | 0, h0 => simp at h0
        | 1, h0 => simp at h0
        | 2, h0 => simp at h0
        | 3, h0 => simp at h0
        | 4, h0 => simp at h0
        | 5, h0 => simp at h0
        | o + 6, h0 => simp at h0
      have t : Tu (fun i => i = b) w w' := .gb g rfl
      exact .inr ⟨p, off, rfl, Nat.lt_of_lt_of_le hlt t.size, fun i hi => ⟨t.cell (hc i hi).1 hne, t.cell (hc i hi).2 hne⟩⟩
theorem hAlter (w : World) (x : Nat) (m : Mem) (P : Spc) (k : Tx) (ret pol : Int) (a : Option Addr) (n c : Nat) (l : List Lb) (h : SpAt w x m P) (hl : LbAt w a n c l) (hf : Few 9000 P) :
    Calls Tryz.prog 34 #[.pointer (some ⟨x, 0, none⟩), .string (bs k), .int .i64 ret, .int .i64 pol, .slice a n c] w
      fun e w' => e = .returned (.int .i64 (lErr P k ret pol l)) ∧ ∃ m', SpTurn w w' x m m' P.E (lSp P k ret pol l) := by
  have H := hid h
  have L0 := hid hl
  have HR := hid (fun W (q : LbAt W a n c l) => right9_any a n c l W q)
  by_cases hk : P.has k
  · have HF := hid (hFind_ok w x m P k h hk)
    have hz := h.ok.siz k hk
    have hzl := hf.z k hk
    have hS := h.ok.std k hk
    have HK := hid hk
    have HA := hid (fun W (q : SpAt W x m P) => alter_any (m.B k) (P.Z k) (P.S k) ret pol W (q.ser k hk) hS hz.1 hz.2 (by omega))
    have HST := hid (hS.alt ret pol)
    have HKB := hid (show keyB k from by
      obtain ⟨p, hp, e⟩ := List.mem_map.1 hk
      rw [← e]; exact h.ok.gE.key p hp)
    by_cases h3 : rightL l
    · rw [decide_eq_true h3] at HR
      by_cases h4 : keepB ret pol
      · have e1 : lErr P k ret pol l = 0 := by unfold lErr; rw [if_neg (by simpa using hk), if_neg (by simp [h3, h4])]
        have e2 : lSp P k ret pol l = ⟨setE k l P.E, P.Z, upd P.S k (altS (P.S k) ret pol), P.G⟩ := by unfold lSp; rw [if_pos e1]
        rw [e1, e2]
        rw [show altE ret pol = 0 from if_pos h4] at HA
        have HOK := hid (show okE k l from ⟨HKB.out, h3⟩)
        clear h hl hk h3 h4 e1 e2 hS
        generalize altS (P.S k) ret pol = s' at *
        go_enter Tryz.func34, Tryz.ntmps34
        go_wp2_with fail
        refine HF.out.mono ?_
        rintro e w1 ⟨rfl, b1⟩
        have H1 := hid (H.out.keep b1)
        have L1 := hid (L0.out.keep b1)
        have B1 := hid b1
        clear b1
        go_wp2_with fail
        refine (HR.out _ L1.out).mono ?_
        rintro e w2 ⟨rfl, b2⟩
        have H2 := hid (H1.out.keep b2)
        have L2 := hid (L1.out.keep b2)
        have B2 := hid (B1.out.trans (b2.mono B1.out.size))
        clear b2
        go_wp2_with fail
        refine (HA.out _ H2.out).mono ?_
        rintro e w3 ⟨rfl, s3, g3⟩
        have L3 := hid (L2.out.serTurn (H2.out.ser k HK.out) g3)
        have T3 := hid (H2.out.serTurn HK.out g3 s3 HST.out)
        have A3 := hid T3.out.sp
        replace A3 : Hid (SpAt w3 x m { P with S := upd P.S k s' }) := A3
        have c1 := A3.out.cell.c1
        clear s3 g3
        go_wp2_with fail
        refine (iset_ok w3 m.ix m.bl m.bn m.ρ P.E k a n c l A3.out.ix L3.out).mono ?_
        rintro e w4 ⟨rfl, ρ', t4⟩
        have T4 := hid (A3.out.ixTurn t4 (fun j => by rw [show stepE k l P.E = setE k l P.E from if_pos HOK.out, keys_set12]; exact ⟨fun q => q.elim (fun e => by rw [e]; exact HK.out) id, .inr⟩))
        rw [show stepE k l P.E = setE k l P.E from if_pos HOK.out] at T4
        have T5 := hid ((T3.out.trans T4.out).pre B2.out)
        rw [if_pos HOK.out]
        clear t4 T4 c1
        go_wp2
        go_ret
        exact ⟨rfl, _, T5.out⟩
      · have e1 : lErr P k ret pol l = 1 := by unfold lErr; rw [if_neg (by simpa using hk), if_pos (.inr h4)]
        have e2 : lSp P k ret pol l = P := by unfold lSp; rw [if_neg (by omega)]
        rw [e1, e2]
        rw [show altE ret pol = 1 from if_neg h4, show altS (P.S k) ret pol = P.S k from if_neg h4] at HA
        have HSt := hid hS
        clear h hl hk h3 h4 e1 e2 hS
        go_enter Tryz.func34, Tryz.ntmps34
        go_wp2_with fail
        refine HF.out.mono ?_
        rintro e w1 ⟨rfl, b1⟩
        have H1 := hid (H.out.keep b1)
        have L1 := hid (L0.out.keep b1)
        have B1 := hid b1
        clear b1
        go_wp2_with fail
        refine (HR.out _ L1.out).mono ?_
        rintro e w2 ⟨rfl, b2⟩
        have H2 := hid (H1.out.keep b2)
        have B2 := hid (B1.out.trans (b2.mono B1.out.size))
        clear b2
        go_wp2_with fail
        refine (HA.out _ H2.out).mono ?_
        rintro e w3 ⟨rfl, s3, g3⟩
        have T3 := hid (H2.out.serTurn HK.out g3 s3 HSt.out)
        rw [upd_self12] at T3
        have T4 := hid (T3.out.pre B2.out)
        clear s3 g3 T3
        go_wp2
        go_ret
        exact ⟨rfl, _, T4.out⟩
    · rw [decide_eq_false h3] at HR
      have e1 : lErr P k ret pol l = 1 := by unfold lErr; rw [if_neg (by simpa using hk), if_pos (.inl h3)]
      have e2 : lSp P k ret pol l = P := by unfold lSp; rw [if_neg (by omega)]
      rw [e1, e2]
      clear h hl hk h3 e1 e2 hS
      go_enter Tryz.func34, Tryz.ntmps34
      go_wp2_with fail
      refine HF.out.mono ?_
      rintro e w1 ⟨rfl, b1⟩
      have L1 := hid (L0.out.keep b1)
      have B1 := hid b1
      clear b1
      go_wp2_with fail
      refine (HR.out _ L1.out).mono ?_
      rintro e w2 ⟨rfl, b2⟩
      have T2 := hid (SpTurn.below H.out (B1.out.trans (b2.mono B1.out.size)))
      clear b2
      go_wp2
      go_ret
      exact ⟨rfl, _, T2.out⟩
  · have HF := hid (hFind_no w x m P k h hk)
    have e1 : lErr P k ret pol l = 5 := by unfold lErr; rw [if_pos hk]
    have e2 : lSp P k ret pol l = P := by unfold lSp; rw [if_neg (by omega)]
    rw [e1, e2]
    clear h hl hk e1 e2
    go_enter Tryz.func34, Tryz.ntmps34
    go_wp2_with fail
    refine HF.out.mono ?_
    rintro e w1 ⟨rfl, b1⟩
    have T1 := hid (SpTurn.below H.out b1)
    clear b1
    go_wp2
    go_ret
    exact ⟨rfl, _, T1.out⟩
theorem dropU_sub {L : List Ru} {s d : Tx} {r : Ru} (h : r ∈ dropU L s d) : r ∈ L := by
  unfold dropU at h
  split at h
  · split at h
    · exact (mem_outU.1 h).1
    · exact h
  · exact h
theorem SpAt.dropTurn {w w1 w2 w3 : World} {x : Nat} {m : Mem} {P : Spc} {k : Tx} {L : List (Tx × Value)} {F' : Nat → Prop} (h : SpAt w x m P)
    (hl2 : ∀ j, look L j = if j ∈ keysL P.E then some (heldV (P.Z j) (m.B j)) else none) (hL : MapAt w m.mb L) (hm : MapAt w1 m.mb (dels L k)) (g : w.grownBy w1 (some m.mb))
    (t2 : GrTurn w1 w2 m.gx m.bi m.bf m.F F' (goneL P.G k)) (t3 : IxTurn w2 w3 m.ix m.bl m.bn m.ρ m.ρ (dels P.E k)) (hg1 : GrAt w1 m.gx m.bi m.bf m.F P.G) :
    SpTurn w w3 x m { m with F := F' } P.E (goSp P k) := by
  have s1 : Ts (fun i => i = m.mb) w w1 := .trn (.map g rfl hL.isMap)
  have s2 : Ts m.F w1 w2 := .gr hg1 t2
  have s3 : Ts (FA m.ρ) w2 w3 := .ix t3
  have hO : ∀ i, (i = m.mb ∨ m.F i ∨ FA m.ρ i) → Own m P.E i := fun i q => by
    rcases q with q | q | q
    · exact .inl q
    · exact .inr (.inr (.inl q))
    · exact .inr (.inl q)
  have ts : Ts (fun i => i = m.mb ∨ m.F i ∨ FA m.ρ i) w w3 := ((s1.mono (G := fun i => i = m.mb ∨ m.F i ∨ FA m.ρ i) (fun i _ e => .inl e)).trans s2 (fun i _ f => .inr (.inl f))).trans s3 (fun i _ f => .inr (.inr f))
  have hw1 : w.heap.size ≤ w1.heap.size := g.size
  have hkeys : ∀ j, (goSp P k).has j ↔ P.has j ∧ j ≠ k := fun j => keys_dels
  have hext : ∀ i, F' i → m.F i ∨ w.heap.size ≤ i := fun i f => (t2.ext i f).imp id (fun q => Nat.le_trans hw1 q)
  have hgr2 : GrAt w2 m.gx m.bi m.bf F' (goneL P.G k) := t2.gr
  refine ⟨⟨ts.cells _ _ _ _ (by decide) (by decide) h.cell, ?_, t3.ix, hgr2.ts s3 (fun i f q => ?_), fun j hj => ?_, fun i j hi hj e => h.inj i j ((hkeys i).1 hi).1 ((hkeys j).1 hj).1 e, h.ma, fun f => ?_, fun i f a => ?_, ⟨t3.ix.good, t2.gr.good, fun r hr => ?_, fun j hj => h.ok.std j ((hkeys j).1 hj).1, fun j hj => h.ok.siz j ((hkeys j).1 hj).1⟩⟩, fun i f => ?_, ts.mono (fun i _ q => hO i q)⟩
  · refine ⟨_, (hm.same (s2.block hm.lt h.mf)).same (s3.block (Nat.lt_of_lt_of_le hm.lt s2.size) h.ma), fun j => ?_⟩
    show look (dels L k) j = if j ∈ keysL (dels P.E k) then some (heldV (P.Z j) (m.B j)) else none
    by_cases e : j = k
    · subst e
      rw [look_dels_same, if_neg (fun q => (keys_dels.1 q).2 rfl)]
    · rw [look_dels_ne e, hl2]
      by_cases hj : j ∈ keysL P.E
      · rw [if_pos hj, if_pos (keys_dels.2 ⟨hj, e⟩)]
      · rw [if_neg hj, if_neg (fun q => hj (keys_dels.1 q).1)]
  · rcases hext i f with p | p
    · exact h.fa i p q
    · have := h.ix.lt q; omega
  · have hj' := ((hkeys j).1 hj).1
    obtain ⟨n1, n2, n3⟩ := h.bNe hj'
    exact (h.ser j hj').ts ts (fun q => by
      rcases q with q | q | q
      · exact n1 q
      · exact n3 q
      · exact n2 q)
  · rcases hext _ f with q | q
    · exact h.mf q
    · exact absurd (show w.heap.size ≤ m.mb from q) (by have := hL.lt; omega)
  · rcases hext i f with p | p
    · exact h.fa i p a
    · have := h.ix.lt a; omega
  · obtain ⟨r1, r2, r3⟩ := mem_goneL.1 hr
    exact ⟨(hkeys _).2 ⟨(h.ok.ends r r1).1, r2⟩, (hkeys _).2 ⟨(h.ok.ends r r1).2, r3⟩⟩
  · rcases f with e | f | f | ⟨j, hj, e⟩
    · exact .inl (.inl e)
    · exact .inl (.inr (.inl f))
    · rcases hext i f with q | q
      · exact .inl (.inr (.inr (.inl q)))
      · exact .inr q
    · exact .inl (.inr (.inr (.inr ⟨j, ((hkeys j).1 hj).1, e⟩)))
theorem hDrop (w : World) (x : Nat) (m : Mem) (P : Spc) (k : Tx) (h : SpAt w x m P) (hg : P.G.length ≤ 1000) :
    Calls Tryz.prog 25 #[.pointer (some ⟨x, 0, none⟩), .string (bs k)] w fun e w' => e = .returned (.bool (decide (P.has k))) ∧ ∃ m', SpTurn w w' x m m' P.E (goSp P k) := by
  have H := hid h
  have c0 := h.cell.c0
  have c1 := h.cell.c1
  have c2 := h.cell.c2
  obtain ⟨L, l1, l2⟩ := h.map
  have HL1 := hid l1
  have HL2 := hid l2
  clear h l1 l2
  go_enter Tryz.func25, Tryz.ntmps25
  go_wp2_with fail
  refine (hNone_no w x m H.out.cell).mono ?_
  rintro e w' ⟨rfl, rfl⟩
  go_wp2_with (first
    | (at_delete; refine wpList_delete_m _ rfl _ _ 92 9 rfl 105 Tryz.underlying92 Tryz.underlying9 m.mb _ rfl HL1.out k _ rfl rfl ?_; intro w1 hm1 g1 hs1
       have t1 : Ts (fun i => i = m.mb) w w1 := .trn (.map g1 rfl HL1.out.isMap)
       have HM1 := hid hm1
       have G1 := hid g1
       have R1 := hid (H.out.gr.ts t1 (fun i f e => H.out.mf (by have e' : i = m.mb := e; rw [← e']; exact f)))
       have I1 := hid (H.out.ix.ts t1 (fun i _ f e => H.out.ma (by have e' : i = m.mb := e; rw [← e']; exact f)))
       have C1 := hid (show SpCell w1 x m from t1.cells _ _ _ _ (by decide) (by decide) H.out.cell)
       clear t1 hm1 g1 hs1 c0 c1 c2
       have c2 := C1.out.c2))
  refine (gone_ok w1 m.gx m.bi m.bf m.F P.G k R1.out hg).mono ?_
  rintro e w2 ⟨rfl, F', t2⟩
  have s2 : Ts m.F w1 w2 := .gr R1.out t2
  have T2 := hid t2
  have I2 := hid (I1.out.ts s2 (fun i _ a f => H.out.fa i f a))
  have c1 := (show SpCell w2 x m from s2.cells _ _ _ _ (by decide) (by decide) C1.out).c1
  clear t2 s2 c2
  go_wp2_with fail
  refine (idrop_ok w2 m.ix m.bl m.bn m.ρ P.E k I2.out).mono ?_
  rintro e w3 ⟨rfl, t3⟩
  have T3 := hid (H.out.dropTurn HL2.out HL1.out HM1.out G1.out T2.out t3 R1.out)
  clear t3 c1
  go_wp2
  go_ret
  exact ⟨rfl, _, T3.out⟩
theorem hUnlink (w : World) (x : Nat) (m : Mem) (P : Spc) (s d : Tx) (h : SpAt w x m P) (hg : P.G.length ≤ 1000) :
    Calls Tryz.prog 36 #[.pointer (some ⟨x, 0, none⟩), .string (bs s), .string (bs d)] w fun e w' => e = .returned (.int .i64 (dropE P.G s d)) ∧ ∃ m', SpTurn w w' x m m' P.E (uSp P s d) := by
  have H := hid h
  have c2 := h.cell.c2
  have HD := hid (gdrop_ok w m.gx m.bi m.bf m.F P.G s d h.gr hg)
  unfold DropP ruV at HD
  clear h
  generalize hr0 : dropR P.G s d = r0 at *
  clear hr0
  generalize bs r0.src = u0 at *
  generalize bs r0.dst = u1 at *
  generalize r0.kind = u2 at *
  generalize r0.size = u3 at *
  generalize r0.align = u4 at *
  go_enter Tryz.func36, Tryz.ntmps36
  go_wp2_with fail
  refine (hNone_no w x m H.out.cell).mono ?_
  rintro e w' ⟨rfl, rfl⟩
  go_wp2_with fail
  refine HD.out.mono ?_
  rintro e w1 ⟨rfl, F', t1⟩
  have T1 := hid (H.out.grTurn t1 (fun r hr => H.out.ok.ends r (dropU_sub hr)))
  have T2 := hid (T1.out.thenB ((Below.refl w1.heap.size w1).alloc (Nat.le_refl _) (.cells #[.string u0, .string u1, .int .i64 u2, .int .i64 u3, .int .i64 u4] 32)))
  clear t1 T1 c2
  go_wp2
  go_ret
  exact ⟨rfl, _, T2.out⟩
def CreP (x : Nat) (m : Mem) (E : List Ent) (er : Int) (P' : Spc) (w : World) (e : Ending) (w' : World) : Prop := e = .returned (.int .i64 er) ∧ ∃ m', SpTurn w w' x m m' E P'
theorem hCreate (w : World) (x : Nat) (m : Mem) (P : Spc) (k : Tx) (sz ret pol : Int) (a : Option Addr) (n c : Nat) (l : List Lb) (h : SpAt w x m P) (hl : LbAt w a n c l) :
    Calls Tryz.prog 33 #[.pointer (some ⟨x, 0, none⟩), .string (bs k), .agg #[.int .i64 sz, .int .i64 ret, .int .i64 pol, .slice a n c]] w (CreP x m P.E (bErr P k sz ret pol l) (cSp P k sz ret pol l) w) := by
  have B1 := (Below.refl w.heap.size w).alloc (Nat.le_refl _) (.cells #[.int .i64 sz, .int .i64 ret, .int .i64 pol, .slice a n c] 30)
  have HX := hid (show BoxN (w.alloc (.cells #[.int .i64 sz, .int .i64 ret, .int .i64 pol, .slice a n c] 30)) w.heap.size sz ret pol (.slice a n c) from heap_new w _)
  have H1 := hid (h.keep B1)
  have L1 := hid (hl.keep B1)
  have HB1 := hid B1
  have HBG := hid (hBegun _ x m P k sz ret pol a n c l (h.keep B1) (hl.keep B1))
  have H0 := hid h
  unfold BegP at HBG
  by_cases he : bErr P k sz ret pol l = 0
  · have hc : cSp P k sz ret pol l = putSp P k sz ⟨ret, pol, -1, 0, []⟩ l := if_pos he
    obtain ⟨q1, q2, q3, q4, q5⟩ : ¬ P.has k ∧ okE k l ∧ (128 ≤ sz ∧ sz ≤ 4096) ∧ keepB ret pol ∧ True := by
      unfold bErr at he
      by_cases h1 : ¬ ((128 ≤ sz ∧ sz ≤ 4096) ∧ keepB ret pol) ∨ ¬ keyB k ∨ ¬ rightL l
      · rw [if_pos h1] at he; omega
      · rw [if_neg h1] at he
        by_cases h2 : P.has k
        · rw [if_pos h2] at he; omega
        · have h3 : (128 ≤ sz ∧ sz ≤ 4096) ∧ keepB ret pol := Classical.byContradiction fun q => h1 (.inl q)
          have h4 : keyB k := Classical.byContradiction fun q => h1 (.inr (.inl q))
          have h5 : rightL l := Classical.byContradiction fun q => h1 (.inr (.inr q))
          exact ⟨h2, ⟨h4, h5⟩, h3.1, h3.2, trivial⟩
    rw [he, hc]
    rw [he] at HBG
    have HQ1 := hid q1
    have HQ2 := hid q2
    have HQ4 := hid (Std.new q4)
    clear h hl B1 he hc q1 q2 q4
    go_enter Tryz.func33, Tryz.ntmps33
    go_wp2_with fail
    generalize hBB : w.heap.size = B0 at *
    have HBB := hid hBB
    generalize w.alloc (.cells #[.int .i64 sz, .int .i64 ret, .int .i64 pol, .slice a n c] 30) = w1 at *
    clear hBB
    have x0 := HX.out.x0
    have x1 := HX.out.x1
    have x2 := HX.out.x2
    have x3 := HX.out.x3
    first
      | refine HBG.out.mono ?_
      | (go_wp2_with fail; refine HBG.out.mono ?_)
    rintro e w2 ⟨p, rfl, ho, b2⟩
    obtain ⟨o, rfl, hoo, s2⟩ := ho trivial
    have X2 := HX.out.keep b2
    have x0 := X2.x0
    have x1 := X2.x1
    have x2 := X2.x2
    have x3 := X2.x3
    have H2 := hid (H1.out.keep b2)
    have L2 := hid (L1.out.keep b2)
    have S2 := hid s2
    have HOO := hid (show ¬ Own m P.E o from fun f => by have := H1.out.lt f; omega)
    have HO2 := hid (show w.heap.size ≤ o from by rw [HBB.out]; exact Nat.le_trans (Nat.le_of_lt (heap_lt HX.out)) hoo)
    have HB2 := hid (show Below w.heap.size w w2 from by rw [HBB.out]; exact HB1.out.trans (b2.mono (Nat.le_of_lt (heap_lt HX.out))))
    clear b2 s2 hoo X2 ho
    go_wp2_with fail
    refine (hPut w2 x m P k sz ret pol a n c l o (newSer ret pol) H2.out L2.out HQ1.out HQ2.out S2.out HQ4.out q3 HOO.out).mono ?_
    rintro e w4 ⟨rfl, m', w3, t4, b3⟩
    have T4 := hid (t4.pre (HB2.out.trans (b3.mono HB2.out.size)) HO2.out)
    clear t4 b3 x0 x1 x2 x3
    go_wp2
    go_ret
    exact ⟨rfl, m', T4.out⟩
  · have hc : cSp P k sz ret pol l = P := if_neg he
    rw [hc]
    generalize bErr P k sz ret pol l = er at *
    have hez : (er == 0) = false := by simpa using he
    clear h hl B1 he hc
    go_enter Tryz.func33, Tryz.ntmps33
    go_wp2_with fail
    generalize hBB : w.heap.size = B0 at *
    have HBB := hid hBB
    generalize w.alloc (.cells #[.int .i64 sz, .int .i64 ret, .int .i64 pol, .slice a n c] 30) = w1 at *
    clear hBB
    have x0 := HX.out.x0
    have x1 := HX.out.x1
    have x2 := HX.out.x2
    have x3 := HX.out.x3
    first
      | refine HBG.out.mono ?_
      | (go_wp2_with fail; refine HBG.out.mono ?_)
    rintro e w2 ⟨p, rfl, ho, b2⟩
    have T2 := hid (SpTurn.below H0.out (show Below w.heap.size w w2 from by rw [HBB.out]; exact HB1.out.trans (b2.mono (Nat.le_of_lt (heap_lt HX.out)))))
    clear b2 ho x0 x1 x2 x3
    go_wp2
    go_ret
    exact ⟨rfl, m, T2.out⟩
def Nums (w : World) (a : Option Addr) (n c : Nat) (l : List Int) : Prop := IntAt w a n c l ∧ (n = 0 ∨ ∃ x cs f, a = some x ∧ w.heap[x.block]? = some (.cells cs 3 f))
theorem Nums.nil (w : World) : Nums w none 0 0 [] := ⟨⟨rfl, Nat.le_refl _, by omega, by simp, .inl rfl⟩, .inl rfl⟩
theorem Nums.ts {F : Nat → Prop} {w w' : World} {a : Option Addr} {n c : Nat} {l : List Int} (h : Nums w a n c l) (t : Ts F w w') : Nums w' a n c l := by
  obtain ⟨⟨a1, a2, a3, a4, a5⟩, h2⟩ := h
  rcases h2 with h0 | ⟨x, cs, f, rfl, hx⟩
  · exact ⟨⟨a1, a2, a3, a4, .inl h0⟩, .inl h0⟩
  · have e := t.cells _ _ _ _ (by decide) (by decide) hx
    refine ⟨⟨a1, a2, a3, a4, ?_⟩, .inr ⟨x, cs, f, rfl, e⟩⟩
    rcases a5 with h0 | ⟨b, off, e5, hb, hc⟩
    · exact .inl h0
    · simp only [Option.some.injEq] at e5
      subst e5
      refine .inr ⟨b, off, rfl, Nat.lt_of_lt_of_le hb t.size, fun i hi => ?_⟩
      have hcell : ∀ p : Addr, p.block = b → w'.cell? p = w.cell? p := fun p hp => by
        refine World.cell?_of_block ?_
        rw [hp]; exact e.trans hx.symm
      rw [hcell _ rfl]; exact hc i hi
theorem Nums.keep {w w' : World} {a : Option Addr} {n c : Nat} {l : List Int} (h : Nums w a n c l) (b : Below w.heap.size w w') : Nums w' a n c l := h.ts (F := fun _ => False) (.of b)
theorem Nums.len {w : World} {a : Option Addr} {n c : Nat} {l : List Int} (h : Nums w a n c l) : l.length = n := h.1.1
theorem Nums.at_ {w : World} {a : Option Addr} {n c : Nat} {l : List Int} (h : Nums w a n c l) (i : Nat) (hi : i < n) :
    ∃ b off, a = some ⟨b, off, none⟩ ∧ b < w.heap.size ∧ w.cell? ⟨b, off + i, none⟩ = some (.int .i64 (l.getD i 0)) := h.1.at_ i hi
theorem Nums.of {w : World} {base : Nat} {v : Value} {l : List Int} (h : IRow w base v l) (h64 : ∀ x ∈ l, in64 x) : ∃ a c, v = .slice a l.length c ∧ Nums w a l.length c l := by
  rcases h.2 with ⟨rfl, e⟩ | ⟨g, cap, cur, rfl, hb, hg, hle, hmx, hsz, htk⟩
  · have : l = [] := List.eq_nil_of_length_eq_zero e
    subst this
    exact ⟨none, 0, rfl, Nums.nil w⟩
  · refine ⟨_, cap, rfl, ⟨rfl, hle, by unfold maxLen at hmx; omega, h64, .inr ⟨g, 0, rfl, heap_lt hg, fun i hi => ?_⟩⟩, .inr ⟨_, _, _, rfl, hg⟩⟩
    have e : (cur.toList.take (l.length * 1))[i]? = (l.map fun n => Value.int .i64 n)[i]? := by rw [htk]
    rw [List.getElem?_take, if_pos (by omega), Array.getElem?_toList, List.getElem?_map, List.getElem?_eq_getElem hi] at e
    rw [Nat.zero_add, cell_of hg, e, List.getD_eq_getElem?_getD, List.getElem?_eq_getElem hi]; rfl
def SeaP12 (k : Nat) (w : World) (e : Ending) (w' : World) : Prop := ∃ b, e = .returned (.tuple #[.int .i64 (k : Int), .bool b]) ∧ Below w.heap.size w w'
theorem byTime_any (T V t : Int) (w : World) (h1 : -4611686018427387904 ≤ T - t) (h2 : T - t ≤ 4611686018427387904) :
    Calls Tryz.prog 272 #[.agg #[.int .i64 T, .int .i64 V], .int .i64 t] w fun e w' => e = .returned (.int .i64 (T - t)) ∧ Below w.heap.size w w' := by
  have HB := hid ((Below.refl w.heap.size w).alloc (Nat.le_refl _) (.cells #[.int .i64 T, .int .i64 V] 27))
  go_enter Tryz.func272, Tryz.ntmps272
  go_wp2
  go_ret
  exact ⟨ret_int (by first | rfl | (unfold wrap64; omega)), HB.out⟩
theorem bef_at {z : List (Int × Int)} {t : Int} {k : Nat} (hk : k ≤ z.length) (h1 : ∀ i, i < k → tOf z i < t) (h2 : ∀ i, k ≤ i → i < z.length → ¬ tOf z i < t) : bef z t = k :=
  cnt_is _ _ k hk (fun i hi => decide_eq_true (h1 i hi)) (fun i hi hl => decide_eq_false (h2 i hi hl))
theorem ssearch_any (a : Option Addr) (n c : Nat) (z : List (Int × Int)) (t : Int) (w : World) (h : Lst w a n c z) (hn : n ≤ 1000000) (hr : Rising z) (h0 : ∀ x ∈ z, 0 ≤ x.1 ∧ x.1 < 1099511627776) (ht0 : 0 ≤ t) (ht1 : t ≤ 4398046511104) :
    Calls Tryz.prog 271 #[.slice a n c, .int .i64 t, .func (.func 272) #[] #[]] w (SeaP12 (bef z t) w) := by
  have eg : ∀ args w, (callFunc 272 args).run Tryz.prog w = .ok (.enter 272 args) w := enters_of Tryz.func272 (by kernel_rfl) rfl
  have hl := h.len
  have H := hid h
  have HL := hid hl
  have HS := hid hr
  have HT := hid (show ∀ i, i < n → 0 ≤ tOf z i ∧ tOf z i < 1099511627776 from fun i hi => h0 _ (at_mem (by omega)))
  clear h hr hl h0
  go_enter Tryz.func271, Tryz.ntmps271
  go_wp2
  go_loopw [9, 10] (fun i j wr => ∃ lo hi : Nat, lo ≤ hi ∧ hi ≤ n ∧ i = .int .i64 (lo : Int) ∧ j = .int .i64 (hi : Int) ∧ Hid (∀ q, q < lo → tOf z q < t) ∧ Hid (∀ q, hi ≤ q → q < n → t ≤ tOf z q) ∧ Below w.heap.size w wr) (fun i j _ => (intOf j).toNat - (intOf i).toNat)
  case atStart => exact ⟨0, n, Nat.zero_le _, Nat.le_refl _, rfl, rfl, hid (fun t ht => absurd ht (Nat.not_lt_zero _)), hid (fun t h1 h2 => by omega), Below.refl _ _⟩
  case round =>
    obtain ⟨lo, hi, hlh, hin, rfl, rfl, I1, I2, B⟩ := hrel
    by_cases hab : lo < hi
    · have hm1 : lo ≤ (lo + hi) / 2 := by omega
      have hm2 : (lo + hi) / 2 < hi := by omega
      have HM : (((lo : Int) + (hi : Int)) / 2) = (((lo + hi) / 2 : Nat) : Int) := by omega
      generalize (lo + hi) / 2 = m at *
      obtain ⟨b, off, rfl, hb, x0, x1⟩ := (H.out.keepB B).1.at_ m (by omega)
      have hm3 : (m : Int) < (n : Int) := by omega
      have hT := HT.out m (by omega)
      have HV := hid (fun W => byTime_any (tOf z m) (vOf z m) t W (by omega) (by omega))
      have HLO := hid (show tOf z m - t < 0 → ∀ q, q < m + 1 → tOf z q < t from fun e q hq => by
        by_cases k : q = m
        · subst k; omega
        · have := HS.out q m (by omega) (by rw [HL.out]; omega); omega)
      have HHI := hid (show ¬ tOf z m - t < 0 → ∀ q, m ≤ q → q < n → t ≤ tOf z q from fun e q h1 h2 => by
        by_cases k : q = m
        · subst k; omega
        · have := HS.out m q (by omega) (by rw [HL.out]; omega); omega)
      clear hT
      generalize tOf z m = T at *
      generalize vOf z m = V at *
      have hm0 : (0 : Int) ≤ (m : Int) := by omega
      generalize T - t = cm at *
      by_cases hc : cm < 0
      · have J1 := hid (HLO.out hc)
        clear HLO HHI
        go_wp2_with fail
        refine (HV.out _).mono ?_
        rintro e w2 ⟨rfl, b2⟩
        have B2 := bel_gbn B B.size (gb_below b2)
        clear b2 B HV x0 x1
        go_wp2
        go_roundw
        case rel => exact ⟨m + 1, hi, by omega, hin, by go_num, rfl, J1, I2, B2⟩
        case measure => simp [intOf]; omega
      · have J2 := hid (HHI.out hc)
        clear HLO HHI
        go_wp2_with fail
        refine (HV.out _).mono ?_
        rintro e w2 ⟨rfl, b2⟩
        have B2 := bel_gbn B B.size (gb_below b2)
        clear b2 B HV x0 x1
        go_wp2
        go_roundw
        case rel => exact ⟨lo, m, by omega, by omega, rfl, rfl, I1, J2, B2⟩
        case measure => simp [intOf]; omega
    · obtain rfl : lo = hi := by omega
      have HK := hid (show bef z t = lo from bef_at (by rw [HL.out]; exact hin) I1.out (fun q h1 h2 => by have := I2.out q h1 (by rw [← HL.out]; exact h2); omega))
      clear I1 I2
      by_cases hln : lo < n
      · obtain ⟨b, off, rfl, hb, x0, x1⟩ := (H.out.keepB B).1.at_ lo (by omega)
        have hm3 : (lo : Int) < (n : Int) := by omega
        have hm0 : (0 : Int) ≤ (lo : Int) := by omega
        have hT := HT.out lo (by omega)
        have HV := hid (fun W => byTime_any (tOf z lo) (vOf z lo) t W (by omega) (by omega))
        clear hT
        generalize tOf z lo = T at *
        generalize vOf z lo = V at *
        generalize T - t = cm at *
        go_wp2_with fail
        refine (HV.out _).mono ?_
        rintro e w2 ⟨rfl, b2⟩
        have B2 := bel_gbn B B.size (gb_below b2)
        clear b2 B HV x0 x1
        go_wp2
        go_ret2
        unfold SeaP12; rw [HK.out]; exact ⟨_, rfl, B2⟩
      · have hm3 : ¬ (lo : Int) < (n : Int) := by omega
        go_wp2
        go_ret2
        unfold SeaP12; rw [HK.out]; exact ⟨_, rfl, B⟩
theorem lst_lh {w : World} {a : Option Addr} {len cap : Nat} {z : List (Int × Int)} (h : Lst w a len cap z) (k m : Nat) (hk : k ≤ m) (hm : m ≤ len) :
    ∃ a', (∀ W : World, (Instr.slice 52 (.slice a len cap) (some (.int .i64 (k : Int))) (some (.int .i64 (m : Int))) none).run Tryz.prog W = .ok (.slice a' (m - k) (cap - k)) W) ∧ Lst w a' (m - k) (cap - k) ((z.drop k).take (m - k)) := by
  obtain ⟨⟨h1, h2, h3, h4, h5⟩, h6⟩ := h
  refine ⟨if cap = k then a else a.map (·.add (k * 2)), fun W => ?_, ⟨⟨by simp; omega, by omega, by omega, all64_take (all64_drop h4 k) _, ?_⟩, ?_⟩⟩
  · rw [run_slice_lh W 52 _ _ _ (by kernel_rfl) .i64 .i64 (k : Int) (m : Int) (by omega) (by omega) (by omega), size_samp]
    simp [Result.andThen, sliced]
  · by_cases hz : m - k = 0
    · exact .inl hz
    · rcases h5 with h0 | ⟨b, off, rfl, hb, hc⟩
      · omega
      · rw [if_neg (by omega)]
        refine .inr ⟨b, off + k * 2, by simp [Addr.add], hb, fun i hi => ?_⟩
        simp at hi
        have := hc (k + i) (by omega)
        simp only [List.getElem_take, List.getElem_drop]
        rw [show off + k * 2 + i * 2 = off + (k + i) * 2 from by omega]
        exact this
  · by_cases hz : m - k = 0
    · exact .inl hz
    · rcases h6 with h0 | ⟨x, cs, f, rfl, hx⟩
      · omega
      · rw [if_neg (by omega)]
        refine .inr ⟨x.add (k * 2), cs, f, by simp, ?_⟩
        rw [show (x.add (k * 2)).block = x.block from by unfold Addr.add; split <;> rfl]; exact hx
def midZ (z : List (Int × Int)) (b e : Int) : List (Int × Int) := (z.drop (bef z b)).take (bef z e - bef z b)
theorem bef_mono {z : List (Int × Int)} {b e : Int} (h : b ≤ e) (hr : Rising z) : bef z b ≤ bef z e := by
  refine Classical.byContradiction fun k => ?_
  have h1 := bef_le z b
  have h2 := (bef_iff hr b (bef z e) (by omega)).2 (by omega)
  have h3 : ¬ tOf z (bef z e) < e := fun q => by have := (bef_iff hr e (bef z e) (by omega)).1 q; omega
  omega
theorem midZ_is {z : List (Int × Int)} (hr : Rising z) (b e : Int) : midZ z b e = z.filter (inB b (e - 1)) := by
  have hpw := (rising_pw z).1 hr
  refine pw_ext (R := fun a b : Int × Int => a.1 < b.1) (fun _ => by omega) (fun _ _ _ => by omega) (List.Pairwise.sublist (List.Sublist.trans (List.take_sublist _ _) (List.drop_sublist _ _)) hpw) (List.Pairwise.filter _ hpw) (fun p => ?_)
  rw [List.mem_filter]
  unfold midZ inB
  simp only [Bool.and_eq_true, decide_eq_true_eq]
  constructor
  · intro hp
    obtain ⟨i, hi, rfl⟩ := List.getElem_of_mem hp
    have hl1 : i < bef z e - bef z b ∧ i < z.length - bef z b := by simp at hi; omega
    rw [List.getElem_take, List.getElem_drop]
    have e1 : z[bef z b + i] = (tOf z (bef z b + i), vOf z (bef z b + i)) := by unfold tOf vOf; rw [List.getD_eq_getElem?_getD, List.getElem?_eq_getElem (by omega)]; rfl
    refine ⟨List.getElem_mem _, ?_⟩
    rw [e1]
    have h1 : ¬ tOf z (bef z b + i) < b := fun q => by have := (bef_iff hr b (bef z b + i) (by omega)).1 q; omega
    have h2 := (bef_iff hr e (bef z b + i) (by omega)).2 (by omega)
    simp only; omega
  · rintro ⟨hm, h1, h2⟩
    obtain ⟨i, hi, ht, hv⟩ := mem_at hm
    have k1 : ¬ i < bef z b := fun q => by have := (bef_iff hr b i hi).2 q; omega
    have k2 : i < bef z e := (bef_iff hr e i hi).1 (by omega)
    have e1 : p = (z.drop (bef z b))[i - bef z b]'(by simp; omega) := by
      rw [List.getElem_drop]
      have e2 : z[bef z b + (i - bef z b)]'(by omega) = (tOf z i, vOf z i) := by
        have e3 : bef z b + (i - bef z b) = i := by omega
        unfold tOf vOf; rw [List.getD_eq_getElem?_getD, List.getElem?_eq_getElem hi]
        simp [e3]
      rw [e2, ht, hv]
    rw [e1, List.mem_take_iff_getElem]
    exact ⟨i - bef z b, by simp; omega, rfl⟩
theorem hWithin (a : Option Addr) (n c : Nat) (z : List (Int × Int)) (b e : Int) (w : World) (h : Lst w a n c z) (hn : n ≤ 1000000) (hr : Rising z) (h0 : ∀ x ∈ z, 0 ≤ x.1 ∧ x.1 < 1099511627776) (hb0 : 0 ≤ b) (hbe : b ≤ e) (he1 : e ≤ 4398046511104) :
    Calls Tryz.prog 217 #[.slice a n c, .int .i64 b, .int .i64 e] w (LaidP (z.filter (inB b (e - 1))) w) := by
  have hl := h.len
  have hm := bef_mono hbe hr
  have h2 := bef_le z e
  rw [← midZ_is hr]
  have H1 := hid (ssearch_any a n c z b w h hn hr h0 hb0 (by omega))
  have H2 := hid (fun W (k : Lst W a n c z) => ssearch_any a n c z e W k hn hr h0 (by omega) he1)
  have H := hid h
  have hlen : (midZ z b e).length = bef z e - bef z b := by unfold midZ; simp; omega
  have HC := hid (fun W (k : Lst W a n c z) => lst_lh k (bef z b) (bef z e) hm (by omega))
  have HD : Hid ((z.drop (bef z b)).take (bef z e - bef z b) = midZ z b e) := hid rfl
  rw [hl] at h2
  generalize bef z b = p at *
  generalize bef z e = q at *
  clear h hl hr h0
  go_enter Tryz.func217, Tryz.ntmps217
  go_wp2_with fail
  refine H1.out.mono ?_
  rintro r w1 ⟨f1, rfl, b1⟩
  have L1 := hid (H.out.keepB b1)
  have B1 := hid b1
  clear b1 H1
  go_wp2_with fail
  refine (H2.out _ L1.out).mono ?_
  rintro r w2 ⟨f2, rfl, b2⟩
  have L2 := hid (L1.out.keepB b2)
  have B2 := hid (B1.out.trans (b2.mono B1.out.size))
  obtain ⟨a', hs, hL⟩ := HC.out _ L2.out
  have HL := hid hL
  clear b2 H2 hL HC L1 B1
  go_wp2
  go_ret
  exact ⟨a', c - p, (by rw [show (midZ z b e).length = q - p from hlen]; first | done | rfl), (by rw [hlen, ← HD.out]; exact HL.out), B2.out⟩
end Go.Proofs.YtmifpfojhlmbkaaGreat
