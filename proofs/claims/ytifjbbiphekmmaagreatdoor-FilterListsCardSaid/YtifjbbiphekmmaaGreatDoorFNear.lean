/-
  Contracts of filter.having and filter.near.
-/
import Derived.Test.YtifjbbiphekmmaaGreatDoorFPick
import Derived.Test.YtifjbbiphekmmaaGreatDoorIFind
namespace Go.Proofs.YtifjbbiphekmmaaGreatDoor
open Go.RowKit
set_option linter.unusedVariables false
set_option linter.unusedSimpArgs false

/-- An index, or none. -/
def IxV (w : World) (xv : Value) (E : List Ent) : Prop := (xv = .pointer none ∧ E = []) ∨ ∃ x bl bn ρ, xv = .pointer (some ⟨x, 0, none⟩) ∧ IxAt w x bl bn ρ E
theorem IxV.keep {w w' : World} {xv : Value} {E : List Ent} (h : IxV w xv E) (hb : Below w.heap.size w w') : IxV w' xv E := by
  rcases h with h | ⟨x, bl, bn, ρ, e, h⟩
  · exact .inl h
  · exact .inr ⟨x, bl, bn, ρ, e, h.keep hb⟩
theorem good_nil : GoodE [] := ⟨List.Pairwise.nil, by simp, by simp, by simp⟩
theorem IxV.good {w : World} {xv : Value} {E : List Ent} (h : IxV w xv E) : GoodE E := by
  rcases h with ⟨_, rfl⟩ | ⟨x, bl, bn, ρ, e, h⟩
  · exact good_nil
  · exact h.good
theorem keysV (w : World) (xv : Value) (E : List Ent) (h : IxV w xv E) (hE : E.length ≤ 1000) : Calls Tryz.prog 30 #[xv] w (SortP w (keysL E)) := by
  rcases h with ⟨rfl, rfl⟩ | ⟨x, bl, bn, ρ, rfl, h⟩
  · exact (ikeys_nil w).mono fun e w' p => ⟨none, 0, p.1, TxAt.nil _ _ _, p.2 ▸ Below.refl _ _⟩
  · exact ikeys_ok w x bl bn ρ E h (by omega)
theorem findV (w : World) (xv : Value) (E : List Ent) (n v : Tx) (h : IxV w xv E) (hE : E.length ≤ 1000) : Calls Tryz.prog 100 #[xv, .string (bs n), .string (bs v)] w (SortP w (findE E n v)) := by
  rcases h with ⟨rfl, rfl⟩ | ⟨x, bl, bn, ρ, rfl, h⟩
  · exact (ifind_nil w _ _).mono fun e w' p => ⟨none, 0, p.1, TxAt.nil _ _ _, p.2 ▸ Below.refl _ _⟩
  · exact ifind_ok w x bl bn ρ E n v h (by omega)
theorem labelsV (w : World) (xv : Value) (E : List Ent) (k : Tx) (h : IxV w xv E) : Calls Tryz.prog 31 #[xv, .string (bs k)] w (MadeL w ((look E k).getD [])) := by
  rcases h with ⟨rfl, rfl⟩ | ⟨x, bl, bn, ρ, rfl, h⟩
  · exact (ilabels_nil w _).mono fun e w' p => ⟨none, 0, p.1, LbAt.nil _ _ _, p.2 ▸ Below.refl _ _⟩
  · exact ilabels_ok w x bl bn ρ E k h

/-- All keys of some values, in order. -/
def catF (E : List Ent) (n : Tx) (vs : List Tx) : List Tx := vs.flatMap (findE E n)
theorem catF_snoc (E : List Ent) (n : Tx) {vs : List Tx} {j : Nat} (h : j < vs.length) : catF E n (vs.take (j + 1)) = catF E n (vs.take j) ++ findE E n (vs.getD j []) := by
  unfold catF
  rw [List.take_succ_eq_append_getElem h, List.flatMap_append, getD_get h]
  simp
theorem findE_len (E : List Ent) (n v : Tx) : (findE E n v).length ≤ E.length := by
  unfold findE keysL
  rw [List.length_map]; exact List.length_filter_le _ _
theorem catF_len (E : List Ent) (n : Tx) (vs : List Tx) : (catF E n vs).length ≤ vs.length * E.length := by
  unfold catF
  induction vs with
  | nil => simp
  | cons v r ih =>
    rw [List.flatMap_cons, List.length_append, List.length_cons, Nat.succ_mul]
    have := findE_len E n v
    omega
theorem mem_catF {E : List Ent} {n : Tx} {vs : List Tx} {k : Tx} : k ∈ catF E n vs ↔ ∃ v ∈ vs, k ∈ findE E n v := by
  unfold catF; rw [List.mem_flatMap]
def havL (E : List Ent) (n : Tx) (vs : List Tx) : List Tx := canon (catF E n (canon vs))
theorem mem_havL {E : List Ent} {n : Tx} {vs : List Tx} {k : Tx} : k ∈ havL E n vs ↔ ∃ v ∈ vs, k ∈ findE E n v := by
  unfold havL
  rw [mem_canon, mem_catF]
  simp only [mem_canon]

set_option maxHeartbeats 2000000 in
theorem having_any (xv : Value) (E : List Ent) (e : TmT) (w : World) (h : IxV w xv E) (hE : E.length ≤ 1000) (ht : TmOk w e) (hn : e.n ≤ 1000) :
    Calls Tryz.prog 76 #[xv, tmV e] w (SortP w (havL E e.name e.l)) := by
  obtain ⟨nm, ng, a, n, c, l⟩ := e
  have hlen : l.length = n := ht.1
  unfold tmV
  simp only at hn ⊢
  have X0 := Lib.hid (BoxT.new 24 w ⟨nm, ng, a, n, c, l⟩)
  have B0 := Lib.hid ((Below.refl w.heap.size w).alloc (Nat.le_refl _) (.cells #[.string (bs nm), .bool ng, .slice a n c] 24))
  have HS0 := Lib.hid (TxAt.keep (show TxAt w a n c l from ht) B0.out)
  have HI0 := Lib.hid (h.keep B0.out)
  have HCL := Lib.hid (show (canon l).length ≤ 1000 by have := canon_len l; omega)
  simp only at X0
  clear h ht hlen
  go_enter Tryz.func76, Tryz.ntmps76
  go_wp2_with fail
  generalize w.alloc (.cells #[.string (bs nm), .bool ng, .slice a n c] 24) = W0 at *
  have x2 := X0.out.x2
  go_wp2_with fail
  refine (of_any a n c l W0 HS0.out (by omega)).mono ?_
  intro e W1 hm
  obtain ⟨a1, c1, rfl, t1, b1⟩ := hm.to
  have X1 := Lib.hid (X0.out.keep b1)
  have B1 := Lib.hid (B0.out.trans (b1.mono B0.out.size))
  have HI1 := Lib.hid (HI0.out.keep b1)
  have T1 := Lib.hid t1
  clear hm t1 b1 X0 B0 HS0 HI0
  obtain ⟨vs, hvs⟩ : ∃ vs, canon l = vs := ⟨_, rfl⟩
  have HV := Lib.hid hvs
  rw [hvs] at HCL T1 ⊢
  clear hvs
  obtain ⟨m, hm⟩ : ∃ m, vs.length = m := ⟨_, rfl⟩
  have HM := Lib.hid hm
  rw [hm] at T1 HCL ⊢
  have hm1 : m ≤ 1000 := HCL.out
  clear hm HCL
  go_wp2_with fail
  go_loopw [5, 7, 12] (fun v _ i wr => ∃ j : Nat, j ≤ m ∧ i = .int .i64 (j : Int) ∧ Hid (TRow wr W1.heap.size v (catF E nm (vs.take j))) ∧ Hid (Below W1.heap.size W1 wr)) (fun _ _ i _ => m - (intOf i).toNat)
  case atStart => exact ⟨0, by omega, rfl, Lib.hid (TRow.nil _ _), Lib.hid (Below.refl _ _)⟩
  case round =>
    obtain ⟨j, hj, rfl, HO, HB⟩ := hrel
    have HL1 := Lib.hid (show ∀ k, k ≤ m → (catF E nm (vs.take k)).length ≤ 1000000 from fun k hk => by
        have h1 := catF_len E nm (vs.take k)
        have h3 : (vs.take k).length ≤ 1000 := by rw [List.length_take]; omega
        have h4 : (vs.take k).length * E.length ≤ 1000 * 1000 := Nat.mul_le_mul h3 hE
        omega)
    by_cases hjn : j < m
    · obtain ⟨p, o, rfl, hp, y0⟩ := (T1.out.keep HB.out).at_ j hjn
      have x0 := (X1.out.keep HB.out).x0
      have HF := Lib.hid (findV wr xv E nm (vs.getD j []) (HI1.out.keep HB.out) hE)
      have HN := Lib.hid (catF_snoc E nm (vs := vs) (j := j) (by rw [HM.out]; exact hjn))
      have HL2 := Lib.hid (show (catF E nm (vs.take j)).length + (findE E nm (vs.getD j [])).length ≤ 1048576 by
        have h1 := HL1.out j hj
        have h2 := findE_len E nm (vs.getD j [])
        omega)
      have hlt : (j : Int) < (m : Int) := by omega
      generalize hF : findE E nm (vs.getD j []) = F at *
      generalize catF E nm (vs.take j) = K at *
      clear hF
      generalize bs (vs.getD j []) = vb at *
      go_wp2_with fail
      refine HF.out.mono ?_
      rintro e w2 ⟨a2, c2, rfl, t2, b2⟩
      have HO2 := Lib.hid (HO.out.keep b2)
      have HB2 := Lib.hid (HB.out.trans (b2.mono HB.out.size))
      have T2 := Lib.hid t2
      clear HO HB t2 b2 HF y0 x0
      obtain ⟨q, hq⟩ : ∃ q, F.length = q := ⟨_, rfl⟩
      rw [hq] at T2 HL2 ⊢
      clear hq
      go_wp2_with (at_builtin; refine wpList_append_tx rfl _ _ rfl W1.heap.size _ K rfl HO2.out a2 q c2 F rfl T2.out HL2.out HB2.out.size ?_)
      intro v3 w3 o3 g3
      have HB3 := Lib.hid (TRow.bel HB2.out HB2.out.size HO2.out (Nat.le_refl _) g3)
      have HO3 := Lib.hid o3
      clear o3 g3 HO2 HB2 T2
      go_wp2
      go_roundw
      case rel => exact ⟨j + 1, by omega, by go_num, by rw [HN.out]; exact HO3, HB3⟩
      case measure => simp [intOf]; omega
    · have HN := Lib.hid (show vs.take j = vs from List.take_of_length_le (by rw [HM.out]; omega))
      rw [HN.out] at HO
      have hlt : ¬ (j : Int) < (m : Int) := by omega
      obtain ⟨a3, c3, rfl, t3⟩ := HO.out.shape
      have T3 := Lib.hid t3
      have HL3 := Lib.hid (show (catF E nm vs).length ≤ 1000000 by have := HL1.out m (Nat.le_refl _); rwa [List.take_of_length_le (by rw [HM.out]; omega)] at this)
      have HR := Lib.hid (show canon (catF E nm vs) = havL E nm l by unfold havL; rw [HV.out])
      clear t3 HO HL1
      generalize catF E nm vs = K at *
      obtain ⟨q, hq⟩ : ∃ q, K.length = q := ⟨_, rfl⟩
      rw [hq] at T3 HL3 ⊢
      have hq6 : q ≤ 1000000 := HL3.out
      clear hq
      go_wp2_with fail
      refine (of_any a3 q c3 K wr T3.out (by omega)).mono ?_
      intro e w4 hm4
      have HS := Lib.hid (SortP.pre (B1.out.trans (HB.out.mono B1.out.size)) hm4.sort)
      rw [HR.out] at HS
      obtain ⟨a4, c4, rfl, t4, b4⟩ := HS.out
      have T4 := Lib.hid t4
      have B4 := Lib.hid b4
      clear hm4 HS t4 b4
      generalize hr : (havL E nm l).length = r at *
      have HRR := Lib.hid hr
      clear hr
      go_wp2
      go_ret
      exact ⟨a4, c4, by rw [HRR.out]; rfl, by rw [HRR.out]; exact T4.out, B4.out⟩

/-- What is near: sorted, keys all, and among them all that match. -/
def NearL (E : List Ent) (ts : List Trm) (K : List Tx) : Prop := SS K ∧ (∀ k ∈ K, k ∈ keysL E) ∧ ∀ k ∈ findT E ts, k ∈ K
theorem find_in {E : List Ent} {ts : List Trm} {k : Tx} (h : k ∈ findT E ts) : k ∈ keysL E := by
  obtain ⟨l, h1, _⟩ := mem_findT.1 h
  exact List.mem_map.2 ⟨(k, l), h1, rfl⟩
theorem near_keys {E : List Ent} (h : SS (keysL E)) (ts : List Trm) : NearL E ts (keysL E) := ⟨h, fun _ k => k, fun _ k => find_in k⟩
theorem near_hav {E : List Ent} (hg : GoodE E) {ts : List Trm} {t : Trm} (ht : t ∈ ts) (hp : pickT t = true) : NearL E ts (havL E t.1 t.2.2) := by
  obtain ⟨n, ng, vs⟩ := t
  unfold pickT at hp
  simp only [Bool.and_eq_true, Bool.not_eq_true', List.isEmpty_eq_false_iff] at hp
  obtain ⟨rfl, hv⟩ := hp
  refine ⟨canon_ss _, fun k hk => ?_, fun k hk => ?_⟩
  · obtain ⟨v, _, h2⟩ := mem_havL.1 hk
    obtain ⟨l, h3, _⟩ := mem_find.1 h2
    exact List.mem_map.2 ⟨(k, l), h3, rfl⟩
  · rw [mem_havL, ← having_find hg n hv]
    obtain ⟨l, h1, h2⟩ := mem_findT.1 hk
    refine mem_findT.2 ⟨l, h1, ?_⟩
    unfold allT at h2 ⊢
    rw [List.all_eq_true] at h2
    simp [h2 _ ht]
theorem near_filter {E : List Ent} (h : SS (keysL E)) {ts : List Trm} {K : List Tx} (hk : NearL E ts K) : K.filter (fun k => allT ts ((look E k).getD [])) = findT E ts := by
  rw [← near_find h ts hk.1 hk.2.2]
  refine List.filter_congr fun k hm => ?_
  rw [decide_eq_true (hk.2.1 k hm), Bool.true_and]
theorem near_len {E : List Ent} {ts : List Trm} {K : List Tx} (hk : NearL E ts K) : K.length ≤ E.length := by
  have := len_le_of (ss_nodup hk.1) hk.2.1
  simpa [keysL] using this

def NearP (w : World) (E : List Ent) (ts : List Trm) (e : Ending) (w' : World) : Prop := ∃ K, NearL E ts K ∧ SortP w K e w'
set_option maxHeartbeats 2000000 in
theorem near_any (xv : Value) (E : List Ent) (a : Option Addr) (n c : Nat) (T : List TmT) (w : World) (h : IxV w xv E) (hE : E.length ≤ 1000) (ht : TmsAt w a n c T) (hn : ∀ e ∈ T, e.n ≤ 1000) :
    Calls Tryz.prog 50 #[xv, .slice a n c] w (NearP w E (trms T)) := by
  have HI := Lib.hid (idxt_any a n c T w ht.1)
  have HG := Lib.hid h.good
  rcases idx_pick T with ⟨i1, i2⟩ | ⟨i, hi, i1, i2⟩
  · rw [i1] at HI
    clear i1 i2
    have HK := Lib.hid (fun W (b : Below w.heap.size w W) => keysV W xv E (h.keep b) hE)
    clear h ht hn
    go_enter Tryz.func50, Tryz.ntmps50
    go_wp2_with fail
    refine HI.out.mono ?_
    rintro e w1 ⟨rfl, b1⟩
    go_wp2_with fail
    refine (HK.out w1 b1).mono ?_
    intro e w2 hs
    have HS := Lib.hid (SortP.pre b1 hs)
    obtain ⟨a4, c4, rfl, t4, b4⟩ := HS.out
    have T4 := Lib.hid t4
    have B4 := Lib.hid b4
    clear hs HS t4 b4 HI HK
    generalize hr : (keysL E).length = r at *
    have HRR := Lib.hid hr
    clear hr
    go_wp2
    go_ret
    exact ⟨_, near_keys HG.out.ss _, a4, c4, by rw [HRR.out]; rfl, by rw [HRR.out]; exact T4.out, B4.out⟩
  · rw [i1] at HI
    have hin : i < n := by rw [← ht.1.1]; exact hi
    have hm := tm_mem hi
    have HH := Lib.hid (fun W (b : Below w.heap.size w W) => having_any xv E (tmT T i) W (h.keep b) hE (ht.2 _ hm |>.keep b) (hn _ hm))
    have HN := Lib.hid (near_hav HG.out (ts := trms T) (List.mem_map.2 ⟨_, hm, rfl⟩) (by rw [← pick_same (ht.2 _ hm)]; exact i2))
    obtain ⟨pb, po, rfl, hp, y0, y1, y2⟩ := ht.1.at_ i hin
    clear i1 i2 h ht hn hm
    unfold tmV at HH
    generalize hR : havL E (tmT T i).name (tmT T i).l = R at *
    have HN : Hid (NearL E (trms T) R) := by rw [← hR]; exact HN
    clear hR
    generalize bs (tmT T i).name = nb at *
    generalize (tmT T i).neg = ng at *
    generalize (tmT T i).a = ta at *
    generalize (tmT T i).n = tn at *
    generalize (tmT T i).c = tc at *
    go_enter Tryz.func50, Tryz.ntmps50
    go_wp2_with fail
    refine HI.out.mono ?_
    rintro e w1 ⟨rfl, b1⟩
    have z0 := (b1.cell (p := ⟨pb, po + i * 3, none⟩) hp).trans y0
    have z1 := (b1.cell (p := ⟨pb, po + i * 3 + 1, none⟩) hp).trans y1
    have z2 := (b1.cell (p := ⟨pb, po + i * 3 + 2, none⟩) hp).trans y2
    go_wp2_with fail
    refine (HH.out w1 b1).mono ?_
    intro e w2 hs
    have HS := Lib.hid (SortP.pre b1 hs)
    obtain ⟨a4, c4, rfl, t4, b4⟩ := HS.out
    have T4 := Lib.hid t4
    have B4 := Lib.hid b4
    clear hs HS t4 b4 HI HH
    generalize hr : R.length = r at *
    have HRR := Lib.hid hr
    clear hr
    go_wp2
    go_ret
    exact ⟨_, HN.out, a4, c4, by rw [HRR.out]; rfl, by rw [HRR.out]; exact T4.out, B4.out⟩
end Go.Proofs.YtifjbbiphekmmaaGreatDoor
