/-
  Contracts.
-/
import Derived.Test.YtmifpfojhlmbkaaGreatJ21
import Derived.Test.YtmifpfojhlmbkaaGreatJ38
import Derived.Test.YtmifpfojhlmbkaaGreatJ40
namespace Go.Proofs.YtmifpfojhlmbkaaGreat
open Lib (hid)
set_option maxRecDepth 100000
set_option maxHeartbeats 16000000
open Go.RowKit
set_option linter.unusedVariables false
set_option linter.unusedSimpArgs false
def ClosP (k : Int) (d : Nat) (w : World) (e : Ending) (w' : World) : Prop :=
  e = .returned (.func (.func 218) #[] #[.pointer (some ⟨w.heap.size, 0, none⟩), .pointer (some ⟨w.heap.size + 1, 0, none⟩)]) ∧
  w'.cell? ⟨w.heap.size, 0, none⟩ = some (.int .i64 k) ∧ w'.cell? ⟨w.heap.size + 1, 0, none⟩ = some (.pointer (some ⟨d, 0, none⟩)) ∧ Below w.heap.size w w'
theorem laying_any (k : Int) (d : Nat) (w : World) : Calls Tryz.prog 146 #[.int .i64 k, .pointer (some ⟨d, 0, none⟩)] w (ClosP k d w) := by
  have s1 : (w.alloc (.cells #[.int .i64 k] 3)).heap.size = w.heap.size + 1 := by simp
  have B1 := (Below.refl w.heap.size w).alloc (Nat.le_refl _) (.cells #[.int .i64 k] 3)
  have B2 := B1.alloc B1.size (.cells #[.pointer (some ⟨d, 0, none⟩)] 47)
  have c1 : ((w.alloc (.cells #[.int .i64 k] 3)).alloc (.cells #[.pointer (some ⟨d, 0, none⟩)] 47)).cell? ⟨w.heap.size, 0, none⟩ = some (.int .i64 k) := by
    rw [cell_of (heap_old (heap_new w _))]; rfl
  have c2 : ((w.alloc (.cells #[.int .i64 k] 3)).alloc (.cells #[.pointer (some ⟨d, 0, none⟩)] 47)).cell? ⟨w.heap.size + 1, 0, none⟩ = some (.pointer (some ⟨d, 0, none⟩)) := by
    rw [← s1, cell_of (heap_new _ _)]; rfl
  have C1 := hid c1
  have C2 := hid c2
  have HB := hid B2
  clear s1 B1 B2 c1 c2
  go_enter Tryz.func146, Tryz.ntmps146
  go_wp2
  go_ret
  exact ⟨rfl, C1.out, C2.out, HB.out⟩
theorem remK_snoc (S : Tx → Ser) (rs : List Ru) (r : Ru) (ts : List Int) : remK S (rs ++ [r]) ts = upd (remK S rs ts) r.dst (remS r (remK S rs ts r.src) (remK S rs ts r.dst) ts) := by
  unfold remK; rw [List.foldl_append]; rfl
theorem remK_no {ts : List Int} {y : Tx} : ∀ (rs : List Ru) (S : Tx → Ser), (∀ r ∈ rs, r.dst ≠ y) → remK S rs ts y = S y
  | [], S, _ => rfl
  | r :: rs, S, h => by
    show remK (upd S r.dst _) rs ts y = S y
    rw [remK_no rs _ (fun q hq => h q (List.mem_cons_of_mem _ hq)), upd_n]
    exact fun e => h r (by simp) e.symm
structure Rset (P : Spc) (rs : List Ru) : Prop where
  right : ∀ r ∈ rs, rightU r ∧ P.has r.src ∧ P.has r.dst
  apart : ∀ r ∈ rs, ∀ q ∈ rs, r.src ≠ q.dst
  one : rs.Pairwise (fun a b => a.dst ≠ b.dst)
theorem remK_yes {ts : List Int} : ∀ (rs : List Ru) (S : Tx → Ser), (∀ r ∈ rs, ∀ q ∈ rs, r.src ≠ q.dst) → rs.Pairwise (fun a b => a.dst ≠ b.dst) → ∀ r ∈ rs, remK S rs ts r.dst = remS r (S r.src) (S r.dst) ts
  | [], S, _, _, r, hr => by cases hr
  | q :: rs, S, ha, hp, r, hr => by
    obtain ⟨p1, p2⟩ := List.pairwise_cons.1 hp
    show remK (upd S q.dst _) rs ts r.dst = _
    rcases List.mem_cons.1 hr with e | e
    · subst e
      rw [remK_no rs _ (fun u hu e => p1 u hu e.symm), upd_k]
    · rw [remK_yes rs _ (fun a h1 b h2 => ha a (List.mem_cons_of_mem _ h1) b (List.mem_cons_of_mem _ h2)) p2 r e, upd_n _ _ (ha r hr q (by simp)), upd_n _ _ (fun k => p1 r e k.symm)]
theorem each_x (r : Ru) (sb d kb db : Nat) (ssz dsz : Int) (ss ds : Ser) (pa : Option Addr) (pn pc : Nat) (ts : List Int) (w : World) (hr : rightB r.size r.align)
    (hss : SerAt w sb ssz ss) (hSs : Std ss) (hs1 : 128 ≤ ssz) (hsn : ss.z.length ≤ 40000) (hds : SerAt w d dsz ds) (hSd : Std ds) (hd1 : 128 ≤ dsz) (hd2 : dsz ≤ 4096) (hdn : ds.z.length ≤ 40000) (hne : sb ≠ d)
    (h1 : w.cell? ⟨kb, 0, none⟩ = some (.int .i64 r.kind)) (h2 : w.cell? ⟨db, 0, none⟩ = some (.pointer (some ⟨d, 0, none⟩))) (hkd : kb ≠ d) (hdd : db ≠ d)
    (h : Nums w pa pn pc ts) (hn : pn ≤ 40000) (ht : ∀ t ∈ ts, 0 ≤ t ∧ t < 1099511627776) (hup : ts.Pairwise (· ≤ ·)) :
    Calls Tryz.prog 145 #[.agg #[.string (bs r.src), .string (bs r.dst), .int .i64 r.kind, .int .i64 r.size, .int .i64 r.align], .pointer (some ⟨sb, 0, none⟩), .slice pa pn pc, .func (.func 218) #[] #[.pointer (some ⟨kb, 0, none⟩), .pointer (some ⟨db, 0, none⟩)]] w (LayP d dsz (remS r ss ds ts) w) :=
  each_any r sb d kb db ssz dsz ss ds pa pn pc ts w hr hss hSs hs1 hsn hds hSd hd1 hd2 hdn hne h1 h2 hkd hdd h hn ht hup
theorem remStd12 {r : Ru} {s d : Ser} {ts : List Int} (hr : rightB r.size r.align) (hs : Std s) (hd : Std d) (hn : s.z.length < 1000000) (ht : ∀ t ∈ ts, 0 ≤ t ∧ t < 1099511627776) : Std (remS r s d ts) := by
  have hbs := starts_in (mx := s.mx) hr ht
  exact (rem_spec (vBk_in (r := r) hs.all (by omega)) (startsL r s.mx ts) d (fun b hb => ⟨(hbs b hb).1, (hbs b hb).2.1⟩) hd).1
theorem SpCell.keepB {w w' : World} {x : Nat} {m : Mem} (h : SpCell w x m) (b : Below w.heap.size w w') : SpCell w' x m := (b.block x (heap_lt h)).trans h
theorem remake_any (w : World) (x : Nat) (m : Mem) (P : Spc) (a : Option Addr) (n c : Nat) (rs : List Ru) (pa : Option Addr) (pn pc : Nat) (ts : List Int) (h : SpAt w x m P)
    (hr : RuAt w a n c rs) (hro : ∀ ad, a = some ad → ¬ Own m P.E ad.block) (hs : Rset P rs) (hz : ∀ k, P.has k → (P.S k).z.length ≤ 10000) (hp : Nums w pa pn pc ts) (hpn : pn ≤ 10000) (ht : ∀ t ∈ ts, 0 ≤ t ∧ t < 1099511627776) (hup : ts.Pairwise (· ≤ ·)) (hn : n ≤ 1000000) :
    Calls Tryz.prog 78 #[.pointer (some ⟨x, 0, none⟩), .slice a n c, .slice pa pn pc] w fun e w' => e = .returned (.tuple #[]) ∧ SpTurn w w' x m m P.E { P with S := remK P.S rs ts } := by
  have hf : ∀ (W : World) (n : Int) (b : Nat), (Instr.field 105 (.agg #[.int .i64 n, .pointer (some ⟨b, 0, none⟩)]) 1).run Tryz.prog W = .ok (.pointer (some ⟨b, 0, none⟩)) W := fun W n b => by kernel_rfl
  have HL := hid hr.1
  have H := hid h
  have HR := hid hr
  have HRO := hid hro
  have HS := hid hs
  have HZ := hid hz
  have HP := hid hp
  have HT := hid ht
  have HUP := hid hup
  clear h hr hro hs hz hp ht hup
  go_enter Tryz.func78, Tryz.ntmps78
  go_wp2_with fail
  go_loopw [10] (fun i wr => ∃ j : Nat, j ≤ n ∧ i = .int .i64 (j : Int) ∧ Hid (SpTurn w wr x m m P.E { P with S := remK P.S (rs.take j) ts })) (fun i _ => n - (intOf i).toNat)
  case atStart => exact ⟨0, Nat.zero_le _, rfl, hid (.refl H.out)⟩
  case round =>
    obtain ⟨j, hj, rfl, T⟩ := hrel
    by_cases hjn : j < n
    · have R1 := HR.out.tu T.out.ts.tu HRO.out
      obtain ⟨pb, po, rfl, hpb, z0, z1, z2, z3, z4⟩ := R1.at_ j hjn
      clear R1
      have hjl : j < rs.length := by rw [HL.out]; exact hjn
      have hmem := uA_mem hjl
      obtain ⟨hrr, hsrc, hdst⟩ := HS.out.right _ hmem
      have hne := HS.out.apart _ hmem _ hmem
      have htk : rs.take (j + 1) = rs.take j ++ [uA rs j] := by rw [List.take_succ_eq_append_getElem hjl, uA_get hjl]
      have HRK := hid (show remK P.S (rs.take (j + 1)) ts = upd (remK P.S (rs.take j) ts) (uA rs j).dst (remS (uA rs j) (remK P.S (rs.take j) ts (uA rs j).src) (remK P.S (rs.take j) ts (uA rs j).dst) ts) from by rw [htk, remK_snoc])
      have hSs : remK P.S (rs.take j) ts (uA rs j).src = P.S (uA rs j).src := remK_no _ _ (fun q hq => fun e => HS.out.apart _ hmem q (List.mem_of_mem_take hq) e.symm)
      have hSd : remK P.S (rs.take j) ts (uA rs j).dst = P.S (uA rs j).dst := remK_no _ _ (fun q hq => by
        obtain ⟨i, hi, e⟩ := List.getElem_of_mem hq
        rw [List.length_take] at hi
        rw [List.getElem_take] at e
        have := List.pairwise_iff_getElem.1 HS.out.one i j (by omega) hjl (by omega)
        rw [uA_get hjl, ← e]; exact this)
      have hzs := HZ.out _ hsrc
      have hzd := HZ.out _ hdst
      rw [← hSs] at hzs
      rw [← hSd] at hzd
      clear hSs hSd htk hmem hjl
      have HA := hid T.out.sp
      generalize hSj : remK P.S (rs.take j) ts = Sj at *
      clear hSj
      generalize uA rs j = r at *
      have hj0 : (0 : Int) ≤ (j : Int) := by omega
      have hj1 : (j : Int) < (n : Int) := by omega
      have B1 := (Below.refl wr.heap.size wr).alloc (Nat.le_refl _) (.cells #[.string (bs r.src), .string (bs r.dst), .int .i64 r.kind, .int .i64 r.size, .int .i64 r.align] 32)
      have X1 := hid (BoxU.new 32 wr r)
      have HB1 := hid B1
      clear B1
      go_wp2_with fail
      have A1 := hid (HA.out.keep HB1.out)
      have HPw := hid ((HP.out.ts T.out.ts).keep HB1.out)
      have hBs : m.B r.src < wr.heap.size := (HA.out.ser _ hsrc).lt
      have hBd : m.B r.dst < wr.heap.size := (HA.out.ser _ hdst).lt
      have hBx : x ≠ m.B r.dst := fun e => by
        obtain ⟨cs, hc⟩ := (HA.out.ser _ hdst).cellS
        have := HA.out.cell
        unfold SpCell at this
        rw [e, hc] at this
        cases this
      have hBne : m.B r.src ≠ m.B r.dst := fun e => hne (HA.out.inj _ _ hsrc hdst e)
      clear z0 z1 z2 z3 z4 hpb
      generalize hBB : wr.heap.size = B0 at *
      generalize hW1 : wr.alloc (.cells #[.string (bs r.src), .string (bs r.dst), .int .i64 r.kind, .int .i64 r.size, .int .i64 r.align] 32) = W1 at *
      have HBB := hid hBB
      have hB0 : B0 < W1.heap.size := X1.out.lt
      clear hW1 hBB
      obtain ⟨L, l1, l2⟩ := A1.out.map
      have hlS : ∀ W, W.heap[m.mb]? = W1.heap[m.mb]? → (Instr.lookup 92 (.map (some m.mb)) (.string (bs r.src)) false).run Tryz.prog W = .ok (.agg #[.int .i64 (P.Z r.src), .pointer (some ⟨m.B r.src, 0, none⟩)]) W := fun W e => by
        have h := (l1.same (w' := W) e).lookup Tryz.underlying92 Tryz.underlying9 (Tryz.zeroValue105 _) r.src false
        rw [h, l2, if_pos (show r.src ∈ keysL P.E from hsrc)]; rfl
      have hlD : ∀ W, W.heap[m.mb]? = W1.heap[m.mb]? → (Instr.lookup 92 (.map (some m.mb)) (.string (bs r.dst)) false).run Tryz.prog W = .ok (.agg #[.int .i64 (P.Z r.dst), .pointer (some ⟨m.B r.dst, 0, none⟩)]) W := fun W e => by
        have h := (l1.same (w' := W) e).lookup Tryz.underlying92 Tryz.underlying9 (Tryz.zeroValue105 _) r.dst false
        rw [h, l2, if_pos (show r.dst ∈ keysL P.E from hdst)]; rfl
      have hmb : m.mb < W1.heap.size := l1.lt
      have HLS := hid hlS
      have HLD := hid hlD
      have lS1 := hlS W1.drew rfl
      have lD1 := hlD W1.drew rfl
      clear l1 l2 hlS hlD
      obtain ⟨y0, y1, y2, y3, y4⟩ := X1.out.five
      have c0 := A1.out.cell.c0
      have hsz := A1.out.ok.siz r.src hsrc
      have hdz := A1.out.ok.siz r.dst hdst
      have HSS := hid (A1.out.ok.std r.src hsrc)
      have HSD := hid (A1.out.ok.std r.dst hdst)
      have HAS := hid (A1.out.ser r.src hsrc)
      have HAD := hid (A1.out.ser r.dst hdst)
      replace HSS : Hid (Std (Sj r.src)) := HSS
      replace HSD : Hid (Std (Sj r.dst)) := HSD
      replace HAS : Hid (SerAt W1 (m.B r.src) (P.Z r.src) (Sj r.src)) := HAS
      replace HAD : Hid (SerAt W1 (m.B r.dst) (P.Z r.dst) (Sj r.dst)) := HAD
      replace hsz : 128 ≤ P.Z r.src ∧ P.Z r.src ≤ 4096 := hsz
      replace hdz : 128 ≤ P.Z r.dst ∧ P.Z r.dst ≤ 4096 := hdz
      have HRB := hid hrr.2.2.2.2
      have HLAY := hid (fun W => laying_any r.kind (m.B r.dst) W)
      go_region_held3 (fun w' => w'.cell? ⟨B0, 0, none⟩ = some (.string (bs r.src)) ∧ w'.cell? ⟨B0, 1, none⟩ = some (.string (bs r.dst)) ∧ w'.cell? ⟨B0, 2, none⟩ = some (.int .i64 r.kind) ∧ w'.cell? ⟨B0, 3, none⟩ = some (.int .i64 r.size) ∧ w'.cell? ⟨B0, 4, none⟩ = some (.int .i64 r.align) ∧ w'.cell? ⟨x, 0, none⟩ = some (mp m.mb))
        (first
          | exact HE3.out
          | exact HE2.out
          | go_keep
          | fail)
        (first
          | (go_at_call 146
             (with_reducible refine (HLAY.out _).mono ?_)
             rintro e W2 ⟨rfl, q1, q2, b2⟩
             have B2 := hid (show Below W1.heap.size W1 W2 from (Below.refl _ W1).drew.trans b2)
             have HE2 := hid (show W2.cell? ⟨B0, 0, none⟩ = some (.string (bs r.src)) ∧ W2.cell? ⟨B0, 1, none⟩ = some (.string (bs r.dst)) ∧ W2.cell? ⟨B0, 2, none⟩ = some (.int .i64 r.kind) ∧ W2.cell? ⟨B0, 3, none⟩ = some (.int .i64 r.size) ∧ W2.cell? ⟨B0, 4, none⟩ = some (.int .i64 r.align) ∧ W2.cell? ⟨x, 0, none⟩ = some (mp m.mb) from by
               obtain ⟨a0, a1, a2, a3, a4⟩ := (X1.out.keep B2.out).five
               exact ⟨a0, a1, a2, a3, a4, (A1.out.cell.keepB B2.out).c0⟩)
             have lS2 := HLS.out W2 (B2.out.block _ hmb)
             have lD2 := HLD.out W2 (B2.out.block _ hmb)
             have HEACH := hid (each_x r (m.B r.src) (m.B r.dst) W1.heap.size (W1.heap.size + 1) (P.Z r.src) (P.Z r.dst) (Sj r.src) (Sj r.dst) pa pn pc ts W2 HRB.out (HAS.out.keepB B2.out) HSS.out hsz.1 (by omega) (HAD.out.keepB B2.out) HSD.out hdz.1 hdz.2 (by omega) hBne q1 q2
               (show W1.heap.size ≠ m.B r.dst by omega) (show W1.heap.size + 1 ≠ m.B r.dst by omega) (HPw.out.keep B2.out) (by omega) HT.out HUP.out))
          | (go_at_call 145
             (with_reducible refine HEACH.out.mono ?_)
             rintro e W3 ⟨rfl, s3, g3⟩
             have HE3 := hid (show W3.cell? ⟨B0, 0, none⟩ = some (.string (bs r.src)) ∧ W3.cell? ⟨B0, 1, none⟩ = some (.string (bs r.dst)) ∧ W3.cell? ⟨B0, 2, none⟩ = some (.int .i64 r.kind) ∧ W3.cell? ⟨B0, 3, none⟩ = some (.int .i64 r.size) ∧ W3.cell? ⟨B0, 4, none⟩ = some (.int .i64 r.align) ∧ W3.cell? ⟨x, 0, none⟩ = some (mp m.mb) from by
               have t3 : Tu (fun i => i = m.B r.dst) W2 W3 := .gb g3 rfl
               obtain ⟨a0, a1, a2, a3, a4, a5⟩ := HE2.out
               have h0 : B0 ≠ m.B r.dst := by omega
               exact ⟨t3.cell a0 h0, t3.cell a1 h0, t3.cell a2 h0, t3.cell a3 h0, t3.cell a4 h0, t3.cell a5 hBx⟩))
          | fail)
      all_goals
        have A2 := A1.out.keep B2.out
        have SR := remStd12 (r := r) (s := Sj r.src) (d := Sj r.dst) (ts := ts) HRB.out HSS.out HSD.out (by omega) HT.out
        have T3 := A2.serTurn hdst g3 s3 SR
        have T4 := hid (T.out.trans (T3.pre (show Below wr.heap.size wr W2 from by rw [HBB.out]; exact HB1.out.trans (B2.out.mono (Nat.le_of_lt hB0)))))
        have HQ : Hid (({ ({ P with S := Sj } : Spc) with S := upd ({ P with S := Sj } : Spc).S r.dst (remS r (Sj r.src) (Sj r.dst) ts) } : Spc) = { P with S := remK P.S (rs.take (j + 1)) ts }) := hid (by rw [HRK.out])
        rw [HQ.out] at T4
        clear A2 SR T3 HQ HE3 HE2 HEACH B2 s3 g3 q1 q2 b2 lS1 lD1 lS2 lD2 y0 y1 y2 y3 y4 c0 T HA
        go_wp2
        go_roundw
        case rel => exact ⟨j + 1, by omega, by go_num, T4⟩
        case measure => simp [intOf]; omega
    · obtain rfl : n = j := by omega
      rw [show rs.take n = rs from List.take_of_length_le (by rw [HL.out]; exact Nat.le_refl _)] at T
      go_wp2
      go_end0
      exact ⟨rfl, T.out⟩
theorem rset_of {P : Spc} (h : Ok12 P) (k : Tx) : Rset P (ofL P.G k) where
  right := fun r hr => by
    obtain ⟨h1, _⟩ := mem_ofL.1 hr
    exact ⟨h.gG.right r h1, (h.ends r h1).1, (h.ends r h1).2⟩
  apart := fun r hr q hq e => h.gG.flat q (mem_ofL.1 hq).1 r (mem_ofL.1 hr).1 e.symm
  one := (of_dst h.gG k).imp (fun h => lt_ne h)
theorem Rset.same {P Q : Spc} {rs : List Ru} (h : Rset P rs) (e : ∀ k, P.has k → Q.has k) : Rset Q rs := ⟨fun r hr => ⟨(h.right r hr).1, e _ (h.right r hr).2.1, e _ (h.right r hr).2.2⟩, h.apart, h.one⟩
theorem touch_in {s : Ser} (h : Std s) {T : Int} (h0 : 0 ≤ T) (h1 : T < 1099511627776) : (∀ t ∈ touchL s.mx T, 0 ≤ t ∧ t < 1099511627776) ∧ (touchL s.mx T).Pairwise (· ≤ ·) ∧ (touchL s.mx T).length ≤ 2 := by
  have := h.m1
  unfold touchL
  split
  · refine ⟨fun t ht => ?_, by simp; omega, by simp⟩
    rcases List.mem_cons.1 ht with e | e
    · omega
    · have := List.mem_singleton.1 e; omega
  · refine ⟨fun t ht => ?_, by simp, by simp⟩
    have := List.mem_singleton.1 ht; omega
def WrP (m : Mem) (P : Spc) (k : Tx) (w : World) (e : Ending) (w' : World) : Prop := e = .returned (.tuple #[.pointer (if wErr P k = 0 then some ⟨m.B k, 0, none⟩ else none), .int .i64 (wErr P k)]) ∧ Below w.heap.size w w'
theorem hWr (w : World) (x : Nat) (m : Mem) (P : Spc) (k : Tx) (h : SpAt w x m P) :
    Calls Tryz.prog 62 #[.pointer (some ⟨x, 0, none⟩), .string (bs k)] w (WrP m P k w) := by
  by_cases hk : P.has k
  · have HF := hid (hFind_ok w x m P k h hk)
    have H := hid h
    have HI := hid (fun W (h : SpAt W x m P) => ginto_ok W m.gx m.bi m.bf (intoL P.G) k h.gr.cell h.gr.into)
    cases hi : intoL P.G k with
    | none =>
      have HW := hid (show WrP m P k w = fun e w' => e = .returned (.tuple #[.pointer (some ⟨m.B k, 0, none⟩), .int .i64 0]) ∧ Below w.heap.size w w' from by
        have e : wErr P k = 0 := by unfold wErr; rw [if_neg (by simpa using hk), hi]; rfl
        funext e' w'; unfold WrP; rw [e]; rfl)
      rw [HW.out]
      rw [hi] at HI
      replace HI : Hid (∀ W, SpAt W x m P → Calls Tryz.prog 129 #[.pointer (some ⟨m.gx, 0, none⟩), .string (bs k)] W fun e w' => e = .returned (.tuple #[.agg #[.string (bs zeroU.src), .string (bs zeroU.dst), .int .i64 zeroU.kind, .int .i64 zeroU.size, .int .i64 zeroU.align], .bool false]) ∧ Below W.heap.size W w') := HI
      clear h hk hi
      generalize bs zeroU.src = u0 at *
      generalize bs zeroU.dst = u1 at *
      generalize zeroU.kind = u2 at *
      generalize zeroU.size = u3 at *
      generalize zeroU.align = u4 at *
      go_enter Tryz.func62, Tryz.ntmps62
      go_wp2_with fail
      refine HF.out.mono ?_
      rintro e w1 ⟨rfl, b1⟩
      have H1 := hid (H.out.keep b1)
      have B1 := hid b1
      have c2 := H1.out.cell.c2
      clear b1
      go_wp2_with fail
      refine (HI.out _ H1.out).mono ?_
      rintro e w2 ⟨rfl, b2⟩
      have B2 := hid (B1.out.trans (b2.mono B1.out.size))
      have HB := hid (B2.out.alloc B2.out.size (.cells #[.string u0, .string u1, .int .i64 u2, .int .i64 u3, .int .i64 u4] 32))
      clear b2 c2
      go_wp2
      go_ret2
      exact ⟨rfl, HB.out⟩
    | some r0 =>
      have HW := hid (show WrP m P k w = fun e w' => e = .returned (.tuple #[.pointer none, .int .i64 10]) ∧ Below w.heap.size w w' from by
        have e : wErr P k = 10 := by unfold wErr; rw [if_neg (by simpa using hk), hi]; rfl
        funext e' w'; unfold WrP; rw [e]; rfl)
      rw [HW.out]
      rw [hi] at HI
      replace HI : Hid (∀ W, SpAt W x m P → Calls Tryz.prog 129 #[.pointer (some ⟨m.gx, 0, none⟩), .string (bs k)] W fun e w' => e = .returned (.tuple #[.agg #[.string (bs r0.src), .string (bs r0.dst), .int .i64 r0.kind, .int .i64 r0.size, .int .i64 r0.align], .bool true]) ∧ Below W.heap.size W w') := HI
      clear h hk hi
      generalize bs r0.src = u0 at *
      generalize bs r0.dst = u1 at *
      generalize r0.kind = u2 at *
      generalize r0.size = u3 at *
      generalize r0.align = u4 at *
      go_enter Tryz.func62, Tryz.ntmps62
      go_wp2_with fail
      refine HF.out.mono ?_
      rintro e w1 ⟨rfl, b1⟩
      have H1 := hid (H.out.keep b1)
      have B1 := hid b1
      have c2 := H1.out.cell.c2
      clear b1
      go_wp2_with fail
      refine (HI.out _ H1.out).mono ?_
      rintro e w2 ⟨rfl, b2⟩
      have B2 := hid (B1.out.trans (b2.mono B1.out.size))
      have HB := hid (B2.out.alloc B2.out.size (.cells #[.string u0, .string u1, .int .i64 u2, .int .i64 u3, .int .i64 u4] 32))
      clear b2 c2
      go_wp2
      go_ret2
      exact ⟨rfl, HB.out⟩
  · have HW := hid (show WrP m P k w = fun e w' => e = .returned (.tuple #[.pointer none, .int .i64 5]) ∧ Below w.heap.size w w' from by
      have e : wErr P k = 5 := by unfold wErr; rw [if_pos hk]
      funext e' w'; unfold WrP; rw [e]; rfl)
    rw [HW.out]
    have HF := hid (hFind_no w x m P k h hk)
    clear h hk
    go_enter Tryz.func62, Tryz.ntmps62
    go_wp2_with fail
    refine HF.out.mono ?_
    rintro e w1 ⟨rfl, b1⟩
    have B1 := hid b1
    clear b1
    go_wp2
    go_ret2
    exact ⟨rfl, B1.out⟩
def WriP (x : Nat) (m : Mem) (P : Spc) (er : Int) (P' : Spc) (w : World) (e : Ending) (w' : World) : Prop := e = .returned (.int .i64 er) ∧ SpTurn w w' x m m P.E P'
theorem upd_self {β : Type} (f : Tx → β) (k : Tx) : upd f k (f k) = f := funext fun x => by
  unfold upd
  split
  · rename_i e; rw [e]
  · rfl
theorem hWrite (w : World) (x : Nat) (m : Mem) (P : Spc) (k : Tx) (T V p : Int) (h : SpAt w x m P) (hk : P.has k) (hf : Few 9000 P) (hg : P.G.length ≤ 1000) (hV : in64 V) :
    Calls Tryz.prog 63 #[.pointer (some ⟨x, 0, none⟩), .string (bs k), .pointer (some ⟨m.B k, 0, none⟩), .agg #[.int .i64 T, .int .i64 V], .int .i64 p] w
      (WriP x m P (addE (P.S k) T V p) (if addE (P.S k) T V p = 0 then wrote P k T V p else P) w) := by
  have hS := h.ok.std k hk
  have hz := h.ok.siz k hk
  have B1 := (Below.refl w.heap.size w).alloc (Nat.le_refl _) (.cells #[.int .i64 T, .int .i64 V] 27)
  have H1 := hid (h.keep B1)
  have HB1 := hid B1
  have hx0 : (w.alloc (.cells #[.int .i64 T, .int .i64 V] 27)).heap[w.heap.size]? = some (.cells #[.int .i64 T, .int .i64 V] 27 (0, 0)) := heap_new w _
  have HX := hid hx0
  have hBk : m.B k < w.heap.size := (h.ser k hk).lt
  have HMX := hid (fun W (q : SerAt W (m.B k) (P.Z k) (P.S k)) => smax_ok (m.B k) (P.Z k) (P.S k) W q (by omega))
  have hzk := hf.z k hk
  have HAD := hid (fun W (q : SerAt W (m.B k) (P.Z k) (P.S k)) => add_ser (m.B k) (P.Z k) (P.S k) T V p W q hS hz.1 hz.2 (by omega) hV)
  have HST := hid (hS.add T V p hV)
  have HSL := hid (add_len hS.rise T V p)
  have HS := hid hS
  have HF := hid hf
  by_cases he : addE (P.S k) T V p = 0
  · have hT : 0 ≤ T ∧ T < 1099511627776 := by
      unfold addE at he
      by_cases hb : badS (P.S k) T p
      · rw [if_pos hb] at he; omega
      · unfold badS at hb; omega
    obtain ⟨t1, t2, t3⟩ := touch_in hS hT.1 hT.2
    have HT1 := hid t1
    have HT2 := hid t2
    have HTG := hid (show wrote P k T V p = { P with S := remK (upd P.S k (addS5 (P.S k) T V p)) (ofL P.G k) (touchL (P.S k).mx T) } from rfl)
    rw [if_pos he, he]
    rw [he] at HAD
    rw [HTG.out]
    have HTO := hid (fun W => touched_any (P.S k).mx T W)
    have HT64 := hid (show ∀ t ∈ touchL (P.S k).mx T, in64 t from fun t ht => by have := t1 t ht; unfold in64; omega)
    clear hx0 h B1 hS t1 t2 he hT HTG hf
    generalize touchL (P.S k).mx T = tl at *
    generalize addS5 (P.S k) T V p = s' at *
    generalize (P.S k).mx = mx at *
    go_enter Tryz.func63, Tryz.ntmps63
    go_wp2_with fail
    generalize hBB : w.heap.size = B0 at *
    generalize hW1 : w.alloc (.cells #[.int .i64 T, .int .i64 V] 27) = W1 at *
    have HBB := hid hBB
    clear hW1 hBB
    refine (HMX.out _ (H1.out.ser k hk)).mono ?_
    rintro e w' ⟨rfl, rfl⟩
    have x0 : W1.cell? ⟨B0, 0, none⟩ = some (.int .i64 T) := by rw [cell_of HX.out]; rfl
    have x1 : W1.cell? ⟨B0, 1, none⟩ = some (.int .i64 V) := by rw [cell_of HX.out]; rfl
    go_wp2_with fail
    refine (HAD.out _ (H1.out.ser k hk)).mono ?_
    rintro e W2 ⟨rfl, s2, g2⟩
    have T2 := hid (H1.out.serTurn hk g2 s2 HST.out)
    have hB0 : B0 < W1.heap.size := heap_lt HX.out
    have HX2 := hid (show W2.heap[B0]? = some (.cells #[.int .i64 T, .int .i64 V] 27 (0, 0)) from (g2.block B0 hB0 (by simp; omega)).trans HX.out)
    have A2 := hid T2.out.sp
    replace A2 : Hid (SpAt W2 x m { P with S := upd P.S k s' }) := A2
    have x0' : W2.cell? ⟨B0, 0, none⟩ = some (.int .i64 T) := by rw [cell_of HX2.out]; rfl
    have c2 := A2.out.cell.c2
    have HRS := hid ((rset_of A2.out.ok k))
    replace HRS : Hid (Rset { P with S := upd P.S k s' } (ofL P.G k)) := HRS
    have HOL := hid (show (ofL P.G k).length ≤ 1000 from Nat.le_trans (ofL_le _ _) hg)
    have HOF := hid (fun W (q : SpAt W x m { P with S := upd P.S k s' }) => gof_ok W m.gx m.bi m.bf m.F (ofL P.G) k q.gr.cell q.gr.from_ HOL.out)
    have HZ2 := hid (show ∀ j, ({ P with S := upd P.S k s' } : Spc).has j → (({ P with S := upd P.S k s' } : Spc).S j).z.length ≤ 10000 from fun j hj => by
      by_cases e : j = k
      · subst e
        show (upd P.S j s' j).z.length ≤ 10000
        rw [upd_k]; have := HSL.out; omega
      · show (upd P.S k s' j).z.length ≤ 10000
        rw [upd_n _ _ e]; have := HF.out.z j hj; omega)
    have hOwn := hid (show ∀ i, Own m P.E i → i < W2.heap.size from fun i f => A2.out.lt f)
    generalize ofL P.G k = rs at *
    have BB := hid ((Below.refl W2.heap.size W2).drew)
    clear x0 x1 HX H1 HMX HAD HST HSL HS s2 g2 HF
    go_wp2_with fail
    go_region_held3 (fun w' => w'.cell? ⟨x, 2, none⟩ = some (.pointer (some ⟨m.gx, 0, none⟩)) ∧ w'.cell? ⟨B0, 0, none⟩ = some (.int .i64 T))
      (first
        | exact HE4.out
        | exact HE3.out
        | go_keep
        | fail)
      (first
        | (go_at_call 79
           (with_reducible refine (HOF.out _ (A2.out.keep BB.out)).mono ?_)
           rintro e WO ⟨vO, rfl, rO, bO⟩
           obtain ⟨ao, co, rfl, ruO, owO⟩ := rO.shape
           have hRO := hid (show ∀ ad, ao = some ad → ¬ Own m P.E ad.block from fun ad e f => by
             have h1 := rO.base (owO ad e)
             have h2 := hOwn.out _ f
             have h3 := BB.out.size
             omega)
           have RO := hid ruO
           replace BB := hid (BB.out.trans (bO.mono BB.out.size))
           try replace IT := hid (IT.out.keep bO)
           have HE3 := hid (show WO.cell? ⟨x, 2, none⟩ = some (.pointer (some ⟨m.gx, 0, none⟩)) ∧ WO.cell? ⟨B0, 0, none⟩ = some (.int .i64 T) from ⟨(A2.out.keep BB.out).cell.c2, by rw [cell_of ((BB.out.block B0 (heap_lt HX2.out)).trans HX2.out)]; rfl⟩)
           clear rO ruO owO bO)
        | (go_at_call 131
           (with_reducible refine (HTO.out _).mono ?_)
           rintro e WT ⟨vT, rfl, rT, bT⟩
           obtain ⟨ta, tc, rfl, nT⟩ := Nums.of rT HT64.out
           have IT := hid nT
           replace BB := hid (BB.out.trans (bT.mono BB.out.size))
           try replace RO := hid (RO.out.keep bT)
           have HE3 := hid (show WT.cell? ⟨x, 2, none⟩ = some (.pointer (some ⟨m.gx, 0, none⟩)) ∧ WT.cell? ⟨B0, 0, none⟩ = some (.int .i64 T) from ⟨(A2.out.keep BB.out).cell.c2, by rw [cell_of ((BB.out.block B0 (heap_lt HX2.out)).trans HX2.out)]; rfl⟩)
           clear rT nT bT)
        | (go_at_call 78
           (with_reducible refine (remake_any _ x m { P with S := upd P.S k s' } _ _ _ rs _ _ _ tl (A2.out.keep BB.out) RO.out hRO.out HRS.out HZ2.out IT.out (by omega) HT1.out HT2.out (by have := HOL.out; omega)).mono ?_)
           rintro e W5 ⟨rfl, t5⟩
           have HE4 := hid (show W5.cell? ⟨x, 2, none⟩ = some (.pointer (some ⟨m.gx, 0, none⟩)) ∧ W5.cell? ⟨B0, 0, none⟩ = some (.int .i64 T) from ⟨t5.sp.cell.c2, by
             rw [cell_of (t5.ts.cells _ _ _ _ (by decide) (by decide) ((BB.out.block B0 (heap_lt HX2.out)).trans HX2.out))]; rfl⟩))
        | fail)
    all_goals
      have T5 := hid ((T2.out.trans (t5.pre BB.out)).pre (show Below w.heap.size w W1 from by rw [HBB.out]; exact HB1.out))
      clear t5 HE4
      go_wp2
      go_ret
      exact ⟨rfl, T5.out⟩
  · have HD := hid (show addS5 (P.S k) T V p = P.S k from by unfold addS5; rw [if_neg he])
    rw [if_neg he]
    rw [HD.out] at HAD HST
    clear hx0 h B1 hS hf
    generalize hee : addE (P.S k) T V p = er at *
    clear hee
    have hez : (er == 0) = false := by simpa using he
    generalize hsk : P.S k = s0 at *
    have HSK := hid hsk
    clear hsk
    generalize s0.mx = mx at *
    go_enter Tryz.func63, Tryz.ntmps63
    go_wp2_with fail
    generalize hBB : w.heap.size = B0 at *
    generalize hW1 : w.alloc (.cells #[.int .i64 T, .int .i64 V] 27) = W1 at *
    have HBB := hid hBB
    clear hW1 hBB
    have HS1 := hid (H1.out.ser k hk)
    rw [HSK.out] at HS1
    refine (HMX.out _ HS1.out).mono ?_
    rintro e w' ⟨rfl, rfl⟩
    have x0 : W1.cell? ⟨B0, 0, none⟩ = some (.int .i64 T) := by rw [cell_of HX.out]; rfl
    have x1 : W1.cell? ⟨B0, 1, none⟩ = some (.int .i64 V) := by rw [cell_of HX.out]; rfl
    go_wp2_with fail
    refine (HAD.out _ HS1.out).mono ?_
    rintro e W2 ⟨rfl, s2, g2⟩
    have T2 := hid (H1.out.serTurn hk g2 s2 HST.out)
    rw [← HSK.out, upd_self] at T2
    have T3 := hid (T2.out.pre (show Below w.heap.size w W1 from by rw [HBB.out]; exact HB1.out))
    clear s2 g2 x0 x1 T2
    go_wp2
    go_ret
    exact ⟨rfl, T3.out⟩
end Go.Proofs.YtmifpfojhlmbkaaGreat
