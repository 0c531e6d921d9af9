/-
  Contracts.
-/
import Derived.Test.YtmifpfojhlmbkaaGreatJ14
import Derived.Test.YtmifpfojhlmbkaaGreatJ15
import Derived.Test.YtmifpfojhlmbkaaGreatJ18
import Derived.Test.YtmifpfojhlmbkaaGreatJ23
import Derived.Test.YtmifpfojhlmbkaaGreatJ30
import Derived.Test.YtmifpfojhlmbkaaGreatJ32
import Derived.Test.YtmifpfojhlmbkaaGreatJ38
import Derived.Test.YtmifpfojhlmbkaaGreatJ39
import Derived.Test.YtmifpfojhlmbkaaGreatJ42
namespace Go.Proofs.YtmifpfojhlmbkaaGreat
open Lib (hid)
set_option maxRecDepth 100000
set_option maxHeartbeats 16000000
open Go.RowKit
set_option linter.unusedVariables false
set_option linter.unusedSimpArgs false
theorem filt_all {s : Ser} (h : Std s) : s.z.filter (inB 0 1099511627776) = s.z := by
  rw [List.filter_eq_self]
  intro u hu
  have := h.time u hu
  unfold inB
  rw [decide_eq_true (by omega), decide_eq_true (by omega)]; rfl
theorem rset_one {P : Spc} (h : Ok12 P) {r : Ru} (hr : r ∈ P.G) : Rset P [r] where
  right := fun q hq => by rw [List.mem_singleton.1 hq]; exact ⟨h.gG.right r hr, h.ends r hr⟩
  apart := fun q hq q' hq' e => by
    rw [List.mem_singleton.1 hq, List.mem_singleton.1 hq'] at e
    exact h.gG.flat r hr r hr e.symm
  one := by simp
theorem mem_insU_self (r : Ru) (G : List Ru) : r ∈ insU r G := mem_insU.2 (.inl rfl)
theorem look_sp {w : World} {x : Nat} {m : Mem} {P : Spc} (h : SpAt w x m P) (k : Tx) (hk : P.has k) : ∀ W : World, W.heap[m.mb]? = w.heap[m.mb]? → (Instr.lookup 92 (.map (some m.mb)) (.string (bs k)) false).run Tryz.prog W = .ok (.agg #[.int .i64 (P.Z k), .pointer (some ⟨m.B k, 0, none⟩)]) W := fun W e => by
  obtain ⟨L, l1, l2⟩ := h.map
  have h := (l1.same (w' := W) e).lookup Tryz.underlying92 Tryz.underlying9 (Tryz.zeroValue105 _) k false
  rw [h, l2, if_pos (show k ∈ keysL P.E from hk)]; rfl
theorem hLink (w : World) (x : Nat) (m : Mem) (P : Spc) (r : Ru) (h : SpAt w x m P) (hf : Few 9000 P) (hg : P.G.length ≤ 900) :
    Calls Tryz.prog 35 #[.pointer (some ⟨x, 0, none⟩), .agg #[.string (bs r.src), .string (bs r.dst), .int .i64 r.kind, .int .i64 r.size, .int .i64 r.align]] w (CreP x m P.E (kErr P r) (kSp P r) w) := by
  have hfd : ∀ (W : World) (n : Int) (b : Nat), (Instr.field 105 (.agg #[.int .i64 n, .pointer (some ⟨b, 0, none⟩)]) 1).run Tryz.prog W = .ok (.pointer (some ⟨b, 0, none⟩)) W := fun W n b => by kernel_rfl
  have B1 := (Below.refl w.heap.size w).alloc (Nat.le_refl _) (.cells #[.string (bs r.src), .string (bs r.dst), .int .i64 r.kind, .int .i64 r.size, .int .i64 r.align] 32)
  have HX := hid (BoxU.new 32 w r)
  have H1 := hid (h.keep B1)
  have HB1 := hid B1
  have HRL := hid (fun W (q : SpAt W x m P) => hRelink W x m P r q hg)
  unfold CreP at HRL
  clear B1
  by_cases he : kErr P r = 0
  · obtain ⟨k1, k2, k3, k4⟩ := kErr_src he
    have eP : keSp P r = { P with G := insU r P.G } := by unfold keSp; rw [if_pos he]
    have eQ : kSp P r = ⟨P.E, P.Z, upd P.S r.dst (remS r (P.S r.src) (delS (P.S r.dst) 0 1099511627776) (timesL (P.S r.src).z)), insU r P.G⟩ := by unfold kSp; rw [if_pos he]
    have hrr := mem_insU_self r P.G
    have hzs := hf.z r.src k2
    have hzd := hf.z r.dst k3
    rw [he, eP] at HRL
    rw [he, eQ]
    have hBoxLt : w.heap.size < (w.alloc (.cells #[.string (bs r.src), .string (bs r.dst), .int .i64 r.kind, .int .i64 r.size, .int .i64 r.align] 32)).heap.size := HX.out.lt
    have HBL := hid hBoxLt
    have hlt : ∀ i, Own m P.E i → i < w.heap.size := fun i f => h.lt f
    have HLT := hid hlt
    have HFF := hid hf
    clear h he eP eQ k1 k4 hg hBoxLt hlt hf
    generalize insU r P.G = G' at *
    go_enter Tryz.func35, Tryz.ntmps35
    go_wp2_with fail
    generalize hBB : w.heap.size = B0 at *
    have HBB := hid hBB
    generalize w.alloc (.cells #[.string (bs r.src), .string (bs r.dst), .int .i64 r.kind, .int .i64 r.size, .int .i64 r.align] 32) = w1 at *
    clear hBB
    have HC := hid hfd
    clear hfd
    obtain ⟨y0, y1, y2, y3, y4⟩ := HX.out.five
    go_wp2_with fail
    refine (HRL.out _ H1.out).mono ?_
    rintro e w2 ⟨rfl, m1, t2⟩
    have hnB : ¬ Own m P.E B0 := fun f => by have := HLT.out _ f; omega
    have X2 := hid (HX.out.tu t2.ts.tu hnB)
    have hnB2 : ¬ Own m1 P.E B0 := fun f => by
      have := HBL.out
      rcases t2.ext B0 f with q | q
      · exact hnB q
      · omega
    have HNB := hid hnB2
    have T2 := hid (t2.pre (w := w) (by rw [HBB.out]; exact HB1.out))
    have A2 := hid t2.sp
    have HRS := hid (rset_one t2.sp.ok hrr)
    have hne := HRS.out.apart r (by simp) r (by simp)
    clear hnB hnB2 t2 y0 y1 y2 y3 y4 hrr HRL
    have A3 := hid (A2.out.ts (G := fun _ => False) (.of (Below.refl w2.heap.size w2).drew) (fun _ g => g.elim))
    have HL4 := hid (look_sp A2.out)
    have hmb : m1.mb < w2.heap.size := A2.out.map.lt
    have lD1 := (HL4.out _ k3 w2.drew rfl)
    have c0 := A2.out.cell.c0
    obtain ⟨y0, y1, y2, y3, y4⟩ := X2.out.five
    have hfd := HC.out
    have HDL := hid (del_any (m1.B r.dst) (P.Z r.dst) (P.S r.dst) 0 1099511627776 w2.drew (A3.out.ser _ k3) (A3.out.ok.siz _ k3).1 (A3.out.ok.siz _ k3).2 (A3.out.ok.std _ k3).rise (by omega))
    replace HDL : Hid (Calls Tryz.prog 77 #[.pointer (some ⟨m1.B r.dst, 0, none⟩), .int .i64 0, .int .i64 1099511627776] w2.drew (NumS (m1.B r.dst) (P.Z r.dst) (dropN (P.S r.dst).z 0 1099511627776) (delS (P.S r.dst) 0 1099511627776) w2.drew)) := HDL
    have HSD := hid ((A2.out.ok.std _ k3).del 0 1099511627776)
    replace HSD : Hid (Std (delS (P.S r.dst) 0 1099511627776)) := HSD
    have hdl := Nat.le_trans (del_len (P.S r.dst) 0 1099511627776) hzd
    generalize dropN (P.S r.dst).z 0 1099511627776 = dn at *
    generalize delS (P.S r.dst) 0 1099511627776 = s' at *
    have HK3 := hid k3
    have HK2 := hid k2
    clear k2 k3
    go_wp2_with fail
    go_region_held3 (fun w' => w'.cell? ⟨B0, 1, none⟩ = some (.string (bs r.dst)) ∧ w'.cell? ⟨x, 0, none⟩ = some (mp m1.mb))
      (first
        | exact HE3.out
        | go_keep
        | fail)
      (first
        | (go_at_call 77
           (with_reducible refine HDL.out.mono ?_)
           rintro e w3 ⟨rfl, s3, g3⟩
           have t3 := A3.out.serTurn HK3.out g3 s3 HSD.out
           have X3 := hid ((X2.out.tu (Tu.of (F := fun _ => False) (Below.refl w2.heap.size w2).drew) (fun f => f)).tu t3.ts.tu HNB.out)
           have T3 := hid (T2.out.trans (t3.pre (Below.refl w2.heap.size w2).drew))
           have HE3 := hid (show w3.cell? ⟨B0, 1, none⟩ = some (.string (bs r.dst)) ∧ w3.cell? ⟨x, 0, none⟩ = some (mp m1.mb) from ⟨X3.out.x1, T3.out.sp.cell.c0⟩)
           clear s3 g3 t3)
        | fail)
    clear lD1 c0 y0 y1 y2 y3 y4 HE3 HL4 hmb A2 A3 X2 T2 HDL HSD
    have A4 := hid T3.out.sp
    have hmb : m1.mb < w3.heap.size := A4.out.map.lt
    have A5 := hid (A4.out.ts (G := fun _ => False) (.of (Below.refl w3.heap.size w3).drew) (fun _ g => g.elim))
    have HL4 := hid (look_sp A4.out)
    have lS1 := HL4.out r.src HK2.out w3.drew rfl
    replace lS1 : (Instr.lookup 92 (.map (some m1.mb)) (.string (bs r.src)) false).run Tryz.prog w3.drew = .ok (.agg #[.int .i64 (P.Z r.src), .pointer (some ⟨m1.B r.src, 0, none⟩)]) w3.drew := lS1
    have c0 := A4.out.cell.c0
    obtain ⟨y0, y1, y2, y3, y4⟩ := X3.out.five
    have hs0 : upd P.S r.dst s' r.src = P.S r.src := upd_n _ _ hne
    have HRG := hid (range_ser (m1.B r.src) (P.Z r.src) (P.S r.src) 0 1099511627776 w3.drew (hs0 ▸ A5.out.ser _ HK2.out) (A5.out.ok.siz _ HK2.out).1 (by have q := (A5.out.ok.std _ HK2.out).rise; exact hs0 ▸ q) (by omega))
    have hSs : Std (P.S r.src) := by have q := A5.out.ok.std _ HK2.out; exact hs0 ▸ q
    rw [filt_all hSs] at HRG
    unfold LaidP at HRG
    have HSS := hid hSs
    clear hSs
    go_wp2_with fail
    go_region_held3 (fun w' => w'.cell? ⟨B0, 0, none⟩ = some (.string (bs r.src)) ∧ w'.cell? ⟨x, 0, none⟩ = some (mp m1.mb))
      (first
        | exact HE3.out
        | go_keep
        | fail)
      (first
        | (go_at_call 22
           (with_reducible refine HRG.out.mono ?_)
           rintro e w4 ⟨ra, rc, rfl, l4, b4⟩
           have B4 := hid (show Below w3.heap.size w3 w4 from (Below.refl _ w3).drew.trans b4)
           have HE3 := hid (show w4.cell? ⟨B0, 0, none⟩ = some (.string (bs r.src)) ∧ w4.cell? ⟨x, 0, none⟩ = some (mp m1.mb) from ⟨(X3.out.keep B4.out).x0, (A4.out.keep B4.out).cell.c0⟩))
        | fail)
    clear lS1 c0 y0 y1 y2 y3 y4 HE3 HL4 hmb A5 HRG hs0
    have L4 := hid l4
    have T4 := hid (T3.out.thenB B4.out)
    have X4 := hid (X3.out.keep B4.out)
    have A4' := hid (A4.out.keep B4.out)
    have HRI := hid (show ∀ t ∈ timesL (P.S r.src).z, 0 ≤ t ∧ t < 1099511627776 from fun t ht => by
      obtain ⟨u, hu, rfl⟩ := List.mem_map.1 ht
      exact HSS.out.time u hu)
    have HUP := hid (show (timesL (P.S r.src).z).Pairwise (· ≤ ·) from by
      have q := (times_in HSS.out 0 1099511627776).2.1
      rw [filt_all HSS.out] at q
      exact q)
    have HT64 := hid (show ∀ t ∈ timesL (P.S r.src).z, in64 t from fun t ht => by have := HRI.out t ht; unfold in64; omega)
    have hlen : (timesL (P.S r.src).z).length = (P.S r.src).z.length := List.length_map _
    have HTM := hid (fun W (b : Below w4.heap.size w4 W) => times_any ra _ rc (P.S r.src).z W (L4.out.keepB b) (by omega))
    have HZ := hid (show ∀ k, ({ P with S := upd P.S r.dst s', G := G' } : Spc).has k → ((upd P.S r.dst s') k).z.length ≤ 10000 from fun k hk => by
      by_cases e : k = r.dst
      · subst e; rw [upd_k]; omega
      · rw [upd_n _ _ e]; have := HFF.out.z k hk; omega)
    have HRS4 := hid (show Rset { P with S := upd P.S r.dst s', G := G' } [r] from HRS.out.same (fun k hk => hk))
    have hnl : (timesL (P.S r.src).z).length ≤ 10000 := by omega
    have eK : remK (upd P.S r.dst s') [r] (timesL (P.S r.src).z) = upd P.S r.dst (remS r (P.S r.src) s' (timesL (P.S r.src).z)) := by
      show upd (upd P.S r.dst s') r.dst (remS r (upd P.S r.dst s' r.src) (upd P.S r.dst s' r.dst) _) = _
      rw [upd_n _ _ hne, upd_k]
      funext k
      by_cases e : k = r.dst
      · subst e; rw [upd_k, upd_k]
      · rw [upd_n _ _ e, upd_n _ _ e, upd_n _ _ e]
    have HREM := hid (fun W (ad : Addr) pa pc (a : SpAt W x m1 { P with S := upd P.S r.dst s', G := G' }) (q : RuAt W (some ad) 1 1 [r]) (ho : ¬ Own m1 P.E ad.block) (hn : Nums W pa (timesL (P.S r.src).z).length pc (timesL (P.S r.src).z)) =>
      remake_any W x m1 { P with S := upd P.S r.dst s', G := G' } (some ad) 1 1 [r] pa _ pc _ a q (fun ad' e => by cases e; exact ho) HRS4.out HZ.out hn hnl HRI.out HUP.out (by omega))
    have HO4 := hid (fun i (f : Own m1 P.E i) => A4'.out.lt f)
    have EK := hid eK
    clear eK hlen HZ HRS4 HRI HUP HSS l4 HX H1
    generalize (P.S r.src).z = zs at *
    generalize timesL zs = ts at *
    have HBA := hid (((Below.refl w4.heap.size w4).alloc (Nat.le_refl _) (.cells #[.string (bs r.src), .string (bs r.dst), .int .i64 r.kind, .int .i64 r.size, .int .i64 r.align] 32)).drew)
    have HTA := hid (HTM.out _ HBA.out)
    have HRA := hid ((RuAt.one 32 w4 r).keep (Below.refl _ _).drew)
    obtain ⟨y0, y1, y2, y3, y4⟩ := X4.out.five
    go_wp2_with fail
    go_region_held3 (fun w' => w'.cell? ⟨B0, 0, none⟩ = some (.string (bs r.src)) ∧ w'.cell? ⟨B0, 1, none⟩ = some (.string (bs r.dst)) ∧ w'.cell? ⟨B0, 2, none⟩ = some (.int .i64 r.kind) ∧ w'.cell? ⟨B0, 3, none⟩ = some (.int .i64 r.size) ∧ w'.cell? ⟨B0, 4, none⟩ = some (.int .i64 r.align))
      (first
        | exact HE6.out
        | exact HE5.out
        | go_keep
        | fail)
      (first
        | (go_at_call 76
           (with_reducible refine (HTM.out _ (Below.refl _ w4).drew).mono ?_)
           rintro e w5 ⟨v5, rfl, r5, b5⟩
           obtain ⟨ta, tc, rfl, n5⟩ := Nums.of r5 HT64.out
           have N5 := hid n5
           have B5 := hid (show Below w4.heap.size w4 w5 from (Below.refl _ w4).drew.trans b5)
           have hBC := (Below.refl w5.heap.size w5).alloc (Nat.le_refl _) (.cells #[.string (bs r.src), .string (bs r.dst), .int .i64 r.kind, .int .i64 r.size, .int .i64 r.align] 32)
           have HXC := hid ((X4.out.keep B5.out).keep hBC)
           have HBC := hid (B5.out.trans (hBC.mono B5.out.size))
           have HRC := hid (HREM.out _ _ _ _ ((A4'.out.keep B5.out).keep hBC) (RuAt.one 32 w5 r) (fun f => by have := HO4.out _ f; have := B5.out.size; simp at *; omega) (N5.out.keep hBC))
           clear hBC
           have HE5 := hid (X4.out.keep B5.out).five
           clear r5 n5 b5)
        | (go_at_call 76
           (with_reducible refine HTA.out.mono ?_)
           rintro e w5 ⟨v5, rfl, r5, b5⟩
           obtain ⟨ta, tc, rfl, n5⟩ := Nums.of r5 HT64.out
           have N5 := hid n5
           have R5 := hid (HRA.out.keep b5)
           have B5 := hid (HBA.out.trans (b5.mono HBA.out.size))
           have HE5 := hid (X4.out.keep B5.out).five
           clear r5 n5 b5)
        | (go_at_call 78
           (with_reducible refine (HREM.out _ _ _ _ (A4'.out.keep B5.out) R5.out (fun f => by have := HO4.out _ f; simp at this) N5.out).mono ?_)
           rintro e w6 ⟨rfl, t6⟩
           have HE6 := hid ((X4.out.keep B5.out).tu t6.ts.tu HNB.out).five
           have T6 := hid (T4.out.trans (t6.pre B5.out))
           clear t6)
        | (go_at_call 78
           (with_reducible refine HRC.out.mono ?_)
           rintro e w6 ⟨rfl, t6⟩
           have HE6 := hid (HXC.out.tu t6.ts.tu HNB.out).five
           have T6 := hid (T4.out.trans (t6.pre HBC.out))
           clear t6)
        | fail)
    all_goals
      have q := T6.out
      rw [EK.out] at q
      have T7 := hid q
      clear q T6
      go_wp2
      go_ret
      exact ⟨rfl, _, T7.out⟩
  · have eP : keSp P r = P := by unfold keSp; rw [if_neg he]
    have eQ : kSp P r = P := by unfold kSp; rw [if_neg he]
    rw [eP] at HRL
    rw [eQ]
    have hez : (kErr P r == 0) = false := by simpa using he
    clear h he eP eQ hfd hf hg
    generalize kErr P r = er at *
    go_enter Tryz.func35, Tryz.ntmps35
    go_wp2_with fail
    generalize hBB : w.heap.size = B0 at *
    have HBB := hid hBB
    generalize w.alloc (.cells #[.string (bs r.src), .string (bs r.dst), .int .i64 r.kind, .int .i64 r.size, .int .i64 r.align] 32) = w1 at *
    clear hBB
    obtain ⟨y0, y1, y2, y3, y4⟩ := HX.out.five
    go_wp2_with fail
    refine (HRL.out _ H1.out).mono ?_
    rintro e w2 ⟨rfl, m1, t2⟩
    have T2 := hid (t2.pre (w := w) (by rw [HBB.out]; exact HB1.out))
    clear t2 y0 y1 y2 y3 y4
    go_wp2
    go_ret
    exact ⟨rfl, _, T2.out⟩
theorem LbAt.set {w : World} {a : Option Addr} {n c : Nat} {l : List Lb} (h : LbAt w a n c l) {y o : Nat} {v : Value} {cs : Array Value} {t : TypeId} {f : Nat × Nat} (hy : w.heap[y]? = some (.cells cs t f)) (hn : ∀ (j : Nat) s, cs[j]? ≠ some (.string s)) : LbAt (w.setCell ⟨y, o, none⟩ v) a n c l := by
  obtain ⟨h1, h2, h3, h4⟩ := h
  refine ⟨h1, h2, h3, ?_⟩
  rcases h4 with e | ⟨b, off, ha, hb, hc⟩
  · exact .inl e
  · by_cases h0 : n = 0
    · exact .inl h0
    · have hby : b ≠ y := fun e => by
        have q := (hc 0 (by omega)).1
        rw [e, cell_of hy] at q
        exact hn _ _ q
      refine .inr ⟨b, off, ha, by simpa [World.setCell] using hb, fun i hi => ?_⟩
      obtain ⟨q1, q2⟩ := hc i hi
      exact ⟨by rw [World.cell?, heap_set_ne hby]; exact q1, by rw [World.cell?, heap_set_ne hby]; exact q2⟩
theorem LbAt.set4 {w : World} {a : Option Addr} {n c : Nat} {l : List Lb} (h : LbAt w a n c l) {y : Nat} {i0 i1 i2 : Int} {t : TypeId} {f : Nat × Nat} (hy : w.heap[y]? = some (.cells #[.int .i64 i0, .int .i64 i1, .int .i64 i2, .slice none 0 0] t f)) (rt zz pl : Int) (v : Value) (hv : ∀ s, v ≠ .string s) :
    LbAt ((((w.setCell ⟨y, 0, none⟩ (.int .i64 zz)).setCell ⟨y, 1, none⟩ (.int .i64 rt)).setCell ⟨y, 2, none⟩ (.int .i64 pl)).setCell ⟨y, 3, none⟩ v) a n c l := by
  have e0 := heap_set (o := 0) (v := .int .i64 zz) hy
  have e1 := heap_set (o := 1) (v := .int .i64 rt) e0
  have e2 := heap_set (o := 2) (v := .int .i64 pl) e1
  refine (((h.set hy ?_).set e0 ?_).set e1 ?_).set e2 ?_
  all_goals
    intro j s hj
    rcases j with _ | _ | _ | _ | j <;> simp at hj
def OptP (P : Spc) (k : Tx) (w : World) (e : Ending) (w' : World) : Prop :=
  ∃ a c, e = .returned (.tuple #[.agg #[.int .i64 (P.Z k), .int .i64 (P.S k).ret, .int .i64 (P.S k).pol, .slice a ((look P.E k).getD []).length c], .bool true]) ∧ LbAt w' a ((look P.E k).getD []).length c ((look P.E k).getD []) ∧ Below w.heap.size w w'
theorem hOptions_ok (w : World) (x : Nat) (m : Mem) (P : Spc) (k : Tx) (h : SpAt w x m P) (hk : P.has k) : Calls Tryz.prog 32 #[.pointer (some ⟨x, 0, none⟩), .string (bs k)] w (OptP P k w) := by
  have hf : ∀ (W : World) (n : Int) (b : Nat), (Instr.field 105 (.agg #[.int .i64 n, .pointer (some ⟨b, 0, none⟩)]) 0).run Tryz.prog W = .ok (.int .i64 n) W := fun W n b => by kernel_rfl
  have HS := hid (fun W (b : Below w.heap.size w W) => hFind_ok W x m P k (h.keep b) hk)
  have hz := h.ok.siz k hk
  have HR := hid (fun W (b : Below w.heap.size w W) => sret_ok (m.B k) (P.Z k) (P.S k) W ((h.keep b).ser k hk) (by omega))
  have HP := hid (fun W (b : Below w.heap.size w W) => spol_ok (m.B k) (P.Z k) (P.S k) W ((h.keep b).ser k hk) (by omega))
  have HLB := hid (fun W (b : Below w.heap.size w W) => ilabels_ok W m.ix m.bl m.bn m.ρ P.E k (h.keep b).ix)
  have HLK := hid (fun W (b : Below w.heap.size w W) => look_sp (h.keep b) k hk)
  have HC := hid (fun W (b : Below w.heap.size w W) => (h.keep b).cell)
  have HM := hid (show m.mb < w.heap.size from h.map.lt)
  have HX := hid h.xlt
  unfold MadeL at HLB
  unfold OptP
  clear h hk hz
  generalize (look P.E k).getD [] = ll at *
  generalize P.Z k = zz at *
  generalize (P.S k).ret = rt at *
  generalize (P.S k).pol = pl at *
  generalize m.B k = bk at *
  go_enter Tryz.func32, Tryz.ntmps32
  go_wp2_with fail
  obtain ⟨W0, hW⟩ : ∃ W, w.alloc (.cells #[.int .i64 0, .int .i64 0, .int .i64 0, .slice none 0 0] 30) = W := ⟨_, rfl⟩
  obtain ⟨h0, B0, hs0⟩ := alloc1 _ _ _ hW
  rw [hW]
  clear hW
  refine (HS.out _ B0).mono ?_
  rintro e W1 ⟨rfl, b1⟩
  replace h0 := (b1.block w.heap.size (by omega)).trans h0
  replace B0 := B0.trans (b1.mono (by omega))
  have hs1 : w.heap.size < W1.heap.size := by have := b1.size; omega
  clear b1 HS hs0
  have B1 := hid B0
  have hxy := HX.out
  have hmy := HM.out
  have BD := hid (show Below w.heap.size w W1.drew from B0.drew)
  have lk := HLK.out _ B0 W1.drew rfl
  have c0 := (HC.out _ B0).c0
  have c1 := (HC.out _ B0).c1
  have HRD := hid (HR.out _ BD.out)
  have HPD := hid (HP.out _ BD.out)
  have HLD := hid (HLB.out _ BD.out)
  have HL2 := hid (HLK.out _ B0)
  clear B0
  generalize hx : w.heap.size = y at *
  have f0 := frozen_of (o := 0) h0
  have f1 := frozen_of (o := 1) h0
  have f2 := frozen_of (o := 2) h0
  have f3 := frozen_of (o := 3) h0
  have d0 : W1.cell? ⟨y, 0, none⟩ = some (.int .i64 0) := by rw [cell_of h0]; rfl
  have d1 : W1.cell? ⟨y, 1, none⟩ = some (.int .i64 0) := by rw [cell_of h0]; rfl
  have d2 : W1.cell? ⟨y, 2, none⟩ = some (.int .i64 0) := by rw [cell_of h0]; rfl
  have d3 : W1.cell? ⟨y, 3, none⟩ = some (.slice none 0 0) := by rw [cell_of h0]; rfl
  have H0 := hid h0
  clear h0
  go_wp2_with fail
  have hne : x ≠ y := by omega
  clear hxy
  go_region_held3 (fun w' => w'.cell? ⟨x, 0, none⟩ = some (mp m.mb) ∧ w'.cell? ⟨x, 1, none⟩ = some (.pointer (some ⟨m.ix, 0, none⟩)))
    (first
      | with_reducible exact HE4.out
      | with_reducible exact HE.out
      | go_keep
      | fail)
    (first
      | (go_at_call 81
         (with_reducible refine HRD.out.mono ?_)
         rintro e w2 ⟨rfl, rfl⟩)
      | (go_at_call 82
         (with_reducible refine HPD.out.mono ?_)
         rintro e w2 ⟨rfl, rfl⟩)
      | (go_at_call 83
         (with_reducible refine HLD.out.mono ?_)
         rintro e W2 ⟨la, lc, rfl, l2, b2⟩
         have L2 := hid l2
         have B2 := hid (BD.out.trans (b2.mono (Nat.le_of_lt hs1)))
         have HE := hid (show W2.cell? ⟨x, 0, none⟩ = some (mp m.mb) ∧ W2.cell? ⟨x, 1, none⟩ = some (.pointer (some ⟨m.ix, 0, none⟩)) from ⟨(HC.out W2 B2.out).c0, (HC.out W2 B2.out).c1⟩)
         have HE4 := hid (show ((((W2.setCell ⟨y, 0, none⟩ (.int .i64 zz)).setCell ⟨y, 1, none⟩ (.int .i64 rt)).setCell ⟨y, 2, none⟩ (.int .i64 pl)).setCell ⟨y, 3, none⟩ (.slice la ll.length lc)).cell? ⟨x, 0, none⟩ = some (mp m.mb) ∧ ((((W2.setCell ⟨y, 0, none⟩ (.int .i64 zz)).setCell ⟨y, 1, none⟩ (.int .i64 rt)).setCell ⟨y, 2, none⟩ (.int .i64 pl)).setCell ⟨y, 3, none⟩ (.slice la ll.length lc)).cell? ⟨x, 1, none⟩ = some (.pointer (some ⟨m.ix, 0, none⟩)) from by
           constructor
           · rw [World.cell?, heap_set_ne hne, heap_set_ne hne, heap_set_ne hne, heap_set_ne hne]; exact HE.out.1
           · rw [World.cell?, heap_set_ne hne, heap_set_ne hne, heap_set_ne hne, heap_set_ne hne]; exact HE.out.2)
         have lk2 := HLK.out W2 B2.out W2 rfl
         have h2 : W2.heap[y]? = some (.cells #[.int .i64 0, .int .i64 0, .int .i64 0, .slice none 0 0] 30 (0, 0)) := (b2.block y hs1).trans H0.out
         have f0' := frozen_of (o := 0) h2
         have f1' := frozen_of (o := 1) h2
         have f2' := frozen_of (o := 2) h2
         have f3' := frozen_of (o := 3) h2
         have d0' : W2.cell? ⟨y, 0, none⟩ = some (.int .i64 0) := by rw [cell_of h2]; rfl
         have d1' : W2.cell? ⟨y, 1, none⟩ = some (.int .i64 0) := by rw [cell_of h2]; rfl
         have d2' : W2.cell? ⟨y, 2, none⟩ = some (.int .i64 0) := by rw [cell_of h2]; rfl
         have d3' : W2.cell? ⟨y, 3, none⟩ = some (.slice none 0 0) := by rw [cell_of h2]; rfl
         have H2 := hid h2
         clear h2 l2 b2)
      | fail)
  all_goals
    have LF := hid (L2.out.set4 H2.out rt zz pl (.slice la ll.length lc) (fun s e => by cases e))
    have BF := hid ((((B2.out.setCell (p := ⟨y, 0, none⟩) (Nat.le_refl _) (.int .i64 zz)).setCell (p := ⟨y, 1, none⟩) (Nat.le_refl _) (.int .i64 rt)).setCell (p := ⟨y, 2, none⟩) (Nat.le_refl _) (.int .i64 pl)).setCell (p := ⟨y, 3, none⟩) (Nat.le_refl _) (.slice la ll.length lc))
    go_wp2
    refine bodyPost_ret (results_cell_pair rfl _ _ y _ _ _ _ (.bool true) rfl rfl (heap_set (heap_set (heap_set (heap_set H2.out)))) Tryz.underlying30 rfl (by kernel_rfl)) rfl ?_
    exact ⟨la, lc, rfl, LF.out, by rw [hx]; exact BF.out⟩
theorem bErr_ok {P : Spc} {k : Tx} {sz ret pol : Int} {l : List Lb} (he : bErr P k sz ret pol l = 0) : ¬ P.has k ∧ okE k l ∧ (128 ≤ sz ∧ sz ≤ 4096) ∧ keepB ret pol := by
  unfold bErr at he
  by_cases h1 : ¬ ((128 ≤ sz ∧ sz ≤ 4096) ∧ keepB ret pol) ∨ ¬ keyB k ∨ ¬ rightL l
  · rw [if_pos h1] at he; omega
  · rw [if_neg h1] at he
    by_cases h2 : P.has k
    · rw [if_pos h2] at he; omega
    · have h3 : (128 ≤ sz ∧ sz ≤ 4096) ∧ keepB ret pol := Classical.byContradiction fun q => h1 (.inl q)
      have h4 : keyB k := Classical.byContradiction fun q => h1 (.inr (.inl q))
      have h5 : rightL l := Classical.byContradiction fun q => h1 (.inr (.inr q))
      exact ⟨h2, ⟨h4, h5⟩, h3.1, h3.2⟩
structure HOwn (base : Nat) (w0 w : World) (x : Nat) (m : Mem) (P : Spc) : Prop where
  sp : SpAt w x m P
  xb : base ≤ x
  own : ∀ i, Own m P.E i → base ≤ i
  bel : Below base w0 w
  sz : base ≤ w.heap.size
theorem HOwn.keep {base : Nat} {w0 w w' : World} {x : Nat} {m : Mem} {P : Spc} (h : HOwn base w0 w x m P) (b : Below w.heap.size w w') : HOwn base w0 w' x m P :=
  ⟨h.sp.keep b, h.xb, h.own, h.bel.trans (b.mono h.sz), Nat.le_trans h.sz b.size⟩
theorem HOwn.turn {base : Nat} {w0 w w' : World} {x : Nat} {m m' : Mem} {P P' : Spc} (h : HOwn base w0 w x m P) (t : SpTurn w w' x m m' P.E P') : HOwn base w0 w' x m' P' :=
  ⟨t.sp, h.xb, fun i f => (t.ext i f).elim (h.own i) (fun k => Nat.le_trans h.sz k), t.ts.tu.below h.bel h.sz (fun i hi f => by have := h.own i f; omega), Nat.le_trans h.sz t.ts.size⟩
theorem HOwn.new {base : Nat} {w0 w w' : World} {x : Nat} {m : Mem} {P : Spc} (b : Below base w0 w) (hs : base ≤ w.heap.size) (g : SpAt w' x m P) (b' : Below w.heap.size w w') (hx : w.heap.size ≤ x) (hF : ∀ i, Own m P.E i → w.heap.size ≤ i) : HOwn base w0 w' x m P :=
  ⟨g, Nat.le_trans hs hx, fun i f => Nat.le_trans hs (hF i f), b.trans (b'.mono hs), Nat.le_trans hs b'.size⟩
theorem BoxN.ts {F : Nat → Prop} {w w' : World} {B : Nat} {sz ret pol : Int} {v : Value} (h : BoxN w B sz ret pol v) (t : Ts F w w') : BoxN w' B sz ret pol v := t.cells _ _ _ _ (by decide) (by decide) h
def LRw (w : World) (b : Nat) (l : List Lb) : Prop := w.heap[b]? = some (.cells (lbCells l).toArray 100 (0, 0))
theorem LRw.ts {F : Nat → Prop} {w w' : World} {b : Nat} {l : List Lb} (h : LRw w b l) (t : Ts F w w') : LRw w' b l := t.cells _ _ _ _ (by decide) (by decide) h
theorem LRw.at_ {w : World} {b : Nat} {x : Lb} (h : LRw w b [x]) : LbAt w (some ⟨b, 0, none⟩) 1 1 [x] := by
  refine ⟨rfl, Nat.le_refl _, by omega, .inr ⟨b, 0, rfl, heap_lt h, fun i hi => ?_⟩⟩
  obtain rfl : i = 0 := by omega
  exact ⟨by rw [cell_of h]; rfl, by rw [cell_of h]; rfl⟩
theorem Few.mono {n k : Nat} {P : Spc} (h : Few n P) (e : n ≤ k) : Few k P := ⟨Nat.le_trans h.e e, Nat.le_trans h.g e, fun j hj => Nat.le_trans (h.z j hj) e⟩
def TurnO (base : Nat) (w0 W : World) (x : Nat) (m : Mem) (P P' : Spc) (v : Value) (e : Ending) (W' : World) : Prop :=
  e = .returned v ∧ ∃ m', HOwn base w0 W' x m' P' ∧ Ts (Own m P.E) W W'
theorem TurnO.of {base : Nat} {w0 W W' : World} {x : Nat} {m m' : Mem} {P P' : Spc} {v : Value} {e : Ending} (X : HOwn base w0 W x m P) (he : e = .returned v) (t : SpTurn W W' x m m' P.E P') : TurnO base w0 W x m P P' v e W' :=
  ⟨he, m', X.turn t, t.ts⟩
theorem oCreate {base : Nat} {w0 W : World} {x : Nat} {m : Mem} {P : Spc} (X : HOwn base w0 W x m P) (k : Tx) (sz ret pol : Int) (a : Option Addr) (n c : Nat) (l : List Lb) (hl : LbAt W a n c l) :
    Calls Tryz.prog 33 #[.pointer (some ⟨x, 0, none⟩), .string (bs k), .agg #[.int .i64 sz, .int .i64 ret, .int .i64 pol, .slice a n c]] W (TurnO base w0 W x m P (cSp P k sz ret pol l) (.int .i64 (bErr P k sz ret pol l))) :=
  (hCreate W x m P k sz ret pol a n c l X.sp hl).mono fun e W' ⟨he, m', t⟩ => .of X he t
theorem oAdd {base : Nat} {w0 W : World} {x : Nat} {m : Mem} {P : Spc} (X : HOwn base w0 W x m P) (k : Tx) (T V p : Int) (hf : Few 900 P) (hV : in64 V) :
    Calls Tryz.prog 18 #[.pointer (some ⟨x, 0, none⟩), .string (bs k), .agg #[.int .i64 T, .int .i64 V], .int .i64 p] W (TurnO base w0 W x m P (aSp P k T V p) (.int .i64 (aErr P k T V p))) :=
  (hAdd W x m P k T V p X.sp (hf.mono (by omega)) (Nat.le_trans hf.g (by omega)) hV).mono fun e W' ⟨he, t⟩ => .of X he t
theorem oInc {base : Nat} {w0 W : World} {x : Nat} {m : Mem} {P : Spc} (X : HOwn base w0 W x m P) (k : Tx) (t y : Int) (hf : Few 900 P) (hy : in64 y) :
    Calls Tryz.prog 29 #[.pointer (some ⟨x, 0, none⟩), .string (bs k), .int .i64 t, .int .i64 y] W (TurnO base w0 W x m P (iSp P k t y) (.tuple #[.int .i64 (iVal P k t y), .int .i64 (iErr P k t y)])) :=
  (hInc W x m P k t y X.sp (hf.mono (by omega)) (Nat.le_trans hf.g (by omega)) hy).mono fun e W' ⟨he, t⟩ => .of X he t
theorem oDel {base : Nat} {w0 W : World} {x : Nat} {m : Mem} {P : Spc} (X : HOwn base w0 W x m P) (k : Tx) (a b : Int) (hf : Few 900 P) :
    Calls Tryz.prog 30 #[.pointer (some ⟨x, 0, none⟩), .string (bs k), .int .i64 a, .int .i64 b] W (TurnO base w0 W x m P (dSp P k a b) (.tuple #[.int .i64 (dNum P k a b), .int .i64 (wErr P k)])) :=
  (hDel W x m P k a b X.sp (hf.mono (by omega)) (Nat.le_trans hf.g (by omega))).mono fun e W' ⟨he, t⟩ => .of X he t
theorem oAlter {base : Nat} {w0 W : World} {x : Nat} {m : Mem} {P : Spc} (X : HOwn base w0 W x m P) (k : Tx) (ret pol : Int) (a : Option Addr) (n c : Nat) (l : List Lb) (hl : LbAt W a n c l) (hf : Few 900 P) :
    Calls Tryz.prog 34 #[.pointer (some ⟨x, 0, none⟩), .string (bs k), .int .i64 ret, .int .i64 pol, .slice a n c] W (TurnO base w0 W x m P (lSp P k ret pol l) (.int .i64 (lErr P k ret pol l))) :=
  (hAlter W x m P k ret pol a n c l X.sp hl (hf.mono (by omega))).mono fun e W' ⟨he, m', t⟩ => .of X he t
theorem oDrop {base : Nat} {w0 W : World} {x : Nat} {m : Mem} {P : Spc} (X : HOwn base w0 W x m P) (k : Tx) (hf : Few 900 P) :
    Calls Tryz.prog 25 #[.pointer (some ⟨x, 0, none⟩), .string (bs k)] W (TurnO base w0 W x m P (goSp P k) (.bool (decide (P.has k)))) :=
  (hDrop W x m P k X.sp (Nat.le_trans hf.g (by omega))).mono fun e W' ⟨he, m', t⟩ => .of X he t
theorem oLink {base : Nat} {w0 W : World} {x : Nat} {m : Mem} {P : Spc} (X : HOwn base w0 W x m P) (r : Ru) (hf : Few 900 P) :
    Calls Tryz.prog 35 #[.pointer (some ⟨x, 0, none⟩), .agg #[.string (bs r.src), .string (bs r.dst), .int .i64 r.kind, .int .i64 r.size, .int .i64 r.align]] W (TurnO base w0 W x m P (kSp P r) (.int .i64 (kErr P r))) :=
  (hLink W x m P r X.sp (hf.mono (by omega)) hf.g).mono fun e W' ⟨he, m', t⟩ => .of X he t
theorem oUnlink {base : Nat} {w0 W : World} {x : Nat} {m : Mem} {P : Spc} (X : HOwn base w0 W x m P) (s d : Tx) (hf : Few 900 P) :
    Calls Tryz.prog 36 #[.pointer (some ⟨x, 0, none⟩), .string (bs s), .string (bs d)] W (TurnO base w0 W x m P (uSp P s d) (.int .i64 (dropE P.G s d))) :=
  (hUnlink W x m P s d X.sp (Nat.le_trans hf.g (by omega))).mono fun e W' ⟨he, m', t⟩ => .of X he t
theorem oTell {base : Nat} {w0 W : World} {x : Nat} {m : Mem} {P : Spc} (X : HOwn base w0 W x m P) (k : Tx) (q : Qry) (a : Option Addr) (n c : Nat) (hf : Few 900 P) (hi : IntAt W a n c q.tm) :
    Calls Tryz.prog 31 #[.pointer (some ⟨x, 0, none⟩), .string (bs k), qv q a n c] W (TellP (tSp P k q) W) := hTell W x m P k q a n c X.sp (hf.mono (by omega)) hi
def k0 : Spc := noSpc
def ta : Tx := [97]
def tb : Tx := [98]
def lx : List Lb := [([120], [49])]
def rab : Ru := ⟨[97], [98], 1, 10, 0⟩
def q100 : Qry := ⟨0, 100, false, 0, 0, 0, 0, false, [], false, 0, 0⟩
def qz : Qry := ⟨0, 0, false, 0, 0, 0, 0, false, [], false, 0, 0⟩
def k1 : Spc := cSp k0 ta 128 0 1 lx
def k2 : Spc := cSp k1 tb 128 0 1 lx
def k3 : Spc := kSp k2 rab
def k4 : Spc := aSp k3 ta 1 5 0
def k5 : Spc := aSp k4 ta 5 6 0
def k6 : Spc := iSp k5 ta 12 1
def k7 : Spc := dSp k6 ta 5 5
def k8 : Spc := uSp k7 ta tb
def k9 : Spc := goSp k8 ta
theorem Few.dec {n : Nat} {P : Spc} (h1 : P.E.length ≤ n) (h2 : P.G.length ≤ n) (h3 : ∀ k ∈ keysL P.E, (P.S k).z.length ≤ n) : Few n P := ⟨h1, h2, h3⟩
theorem few2 : Few 900 k2 := .dec (by decide +kernel) (by decide +kernel) (by decide +kernel)
theorem few3 : Few 900 k3 := .dec (by decide +kernel) (by decide +kernel) (by decide +kernel)
theorem few4 : Few 900 k4 := .dec (by decide +kernel) (by decide +kernel) (by decide +kernel)
theorem few5 : Few 900 k5 := .dec (by decide +kernel) (by decide +kernel) (by decide +kernel)
theorem few6 : Few 900 k6 := .dec (by decide +kernel) (by decide +kernel) (by decide +kernel)
theorem few7 : Few 900 k7 := .dec (by decide +kernel) (by decide +kernel) (by decide +kernel)
theorem few8 : Few 900 k8 := .dec (by decide +kernel) (by decide +kernel) (by decide +kernel)
theorem few9 : Few 900 k9 := .dec (by decide +kernel) (by decide +kernel) (by decide +kernel)
theorem k1e : bErr k0 ta 128 0 1 lx = 0 := by decide +kernel
theorem k2e : bErr k1 tb 128 0 1 lx = 0 := by decide +kernel
theorem k2f : bErr k2 ta 128 0 1 lx = 6 := by decide +kernel
theorem k2s : cSp k2 ta 128 0 1 lx = k2 := if_neg (by rw [k2f]; decide)
theorem k3e : kErr k2 rab = 0 := by decide +kernel
theorem k4e : aErr k3 ta 1 5 0 = 0 := by decide +kernel
theorem k5e : aErr k4 ta 5 6 0 = 0 := by decide +kernel
theorem k5t : tSp k5 tb q100 = ([], 0) := by decide +kernel
theorem k6e : iErr k5 ta 12 1 = 0 := by decide +kernel
theorem k6v : iVal k5 ta 12 1 = 7 := by decide +kernel
theorem k6t : tSp k6 tb q100 = ([(0, 11)], 0) := by decide +kernel
theorem k6f : aErr k6 tb 1 5 0 = 10 := by decide +kernel
theorem k6s : aSp k6 tb 1 5 0 = k6 := if_neg (by rw [k6f]; decide)
theorem k7n : dNum k6 ta 5 5 = 1 := by decide +kernel
theorem k7e : wErr k6 ta = 0 := by decide +kernel
theorem k7t : tSp k7 tb q100 = ([(0, 5)], 0) := by decide +kernel
theorem k7h : k7.has ta := by decide +kernel
theorem k7o : k7.Z ta = 128 ∧ (k7.S ta).ret = 0 ∧ (k7.S ta).pol = 1 ∧ ((look k7.E ta).getD []) = lx := by decide +kernel
theorem k7c : tSp k7 [99] qz = ([], 5) := by decide +kernel
theorem k8e : dropE k7.G ta tb = 0 := by decide +kernel
theorem k8g : k8.G = [] := by decide +kernel
theorem k8k : keysL k8.E = [ta, tb] := by decide +kernel
theorem k8h : k8.has ta := by decide +kernel
theorem k8l : (k8.S ta).z.length = 2 := by decide +kernel
theorem k8z : k8.Z ta = 128 := by decide +kernel
theorem k9h : ¬ k9.has ta := by decide +kernel
end Go.Proofs.YtmifpfojhlmbkaaGreat
