/-
  Contracts.
-/
import Derived.Test.YtmifpfojhlmbkaaGreatJ26
import Derived.Test.YtmifpfojhlmbkaaGreatJ43
import Derived.Test.YtmifpfojhlmbkaaGreatJ45
namespace Go.Proofs.YtmifpfojhlmbkaaGreat
open Lib (hid)
set_option maxRecDepth 100000
set_option maxHeartbeats 16000000
open Go.RowKit
set_option linter.unusedVariables false
set_option linter.unusedSimpArgs false
def BoxQ (w : World) (b : Nat) (q : Op12) (a : Option Addr) (n c : Nat) : Prop := w.heap[b]? = some (.cells #[.int .i64 q.k, .string (bs q.key), .int .i64 q.T, .int .i64 q.V, .int .i64 q.p, .int .i64 q.sz, .int .i64 q.ret, .int .i64 q.pol, .slice a n c, .string (bs q.r.src), .string (bs q.r.dst), .int .i64 q.r.kind, .int .i64 q.r.size, .int .i64 q.r.align] 34 (0, 0))
theorem BoxQ.all {w : World} {b : Nat} {q : Op12} {a : Option Addr} {n c : Nat} (h : BoxQ w b q a n c) : w.cell? ⟨b, 0, none⟩ = some (.int .i64 q.k) ∧ w.cell? ⟨b, 1, none⟩ = some (.string (bs q.key)) ∧ w.cell? ⟨b, 2, none⟩ = some (.int .i64 q.T) ∧ w.cell? ⟨b, 3, none⟩ = some (.int .i64 q.V) ∧ w.cell? ⟨b, 4, none⟩ = some (.int .i64 q.p) ∧ w.cell? ⟨b, 5, none⟩ = some (.int .i64 q.sz) ∧ w.cell? ⟨b, 6, none⟩ = some (.int .i64 q.ret) ∧ w.cell? ⟨b, 7, none⟩ = some (.int .i64 q.pol) ∧ w.cell? ⟨b, 8, none⟩ = some (.slice a n c) ∧ w.cell? ⟨b, 9, none⟩ = some (.string (bs q.r.src)) ∧ w.cell? ⟨b, 10, none⟩ = some (.string (bs q.r.dst)) ∧ w.cell? ⟨b, 11, none⟩ = some (.int .i64 q.r.kind) ∧ w.cell? ⟨b, 12, none⟩ = some (.int .i64 q.r.size) ∧ w.cell? ⟨b, 13, none⟩ = some (.int .i64 q.r.align) := by
  refine ⟨?_, ?_, ?_, ?_, ?_, ?_, ?_, ?_, ?_, ?_, ?_, ?_, ?_, ?_⟩ <;> (rw [cell_of h]; rfl)
def AnyB (w : World) (e : Ending) (w' : World) : Prop := ∃ b, e = .returned (.bool b) ∧ Below w.heap.size w w'
theorem light12_any (q : Op12) (a : Option Addr) (n c : Nat) (w : World) (h : LbAt w a n c q.l) :
    Calls Tryz.prog 10 #[.agg #[.int .i64 q.k, .string (bs q.key), .int .i64 q.T, .int .i64 q.V, .int .i64 q.p, .int .i64 q.sz, .int .i64 q.ret, .int .i64 q.pol, .slice a n c, .string (bs q.r.src), .string (bs q.r.dst), .int .i64 q.r.kind, .int .i64 q.r.size, .int .i64 q.r.align]] w (AnyB w) := by
  have hln := h.1
  have h63 := h.2.2.1
  have B1 := (Below.refl w.heap.size w).alloc (Nat.le_refl _) (.cells #[.int .i64 q.k, .string (bs q.key), .int .i64 q.T, .int .i64 q.V, .int .i64 q.p, .int .i64 q.sz, .int .i64 q.ret, .int .i64 q.pol, .slice a n c, .string (bs q.r.src), .string (bs q.r.dst), .int .i64 q.r.kind, .int .i64 q.r.size, .int .i64 q.r.align] 34)
  have X1 : Hid (BoxQ (w.alloc (.cells #[.int .i64 q.k, .string (bs q.key), .int .i64 q.T, .int .i64 q.V, .int .i64 q.p, .int .i64 q.sz, .int .i64 q.ret, .int .i64 q.pol, .slice a n c, .string (bs q.r.src), .string (bs q.r.dst), .int .i64 q.r.kind, .int .i64 q.r.size, .int .i64 q.r.align] 34)) w.heap.size q a n c) := hid (heap_new w _)
  have HL := hid (h.keep B1)
  have HB := hid B1
  obtain ⟨x0, x1, x2, x3, x4, x5, x6, x7, x8, x9, x10, x11, x12, x13⟩ := X1.out.all
  obtain ⟨m, hm⟩ : ∃ m, (bs q.key).size = m := ⟨_, rfl⟩
  obtain ⟨m1, hm1⟩ : ∃ m, (bs q.r.src).size = m := ⟨_, rfl⟩
  obtain ⟨m2, hm2⟩ : ∃ m, (bs q.r.dst).size = m := ⟨_, rfl⟩
  clear h B1 hln x0 x2 x3 x4 x5 x6 x7 x11 x12 x13
  by_cases k1 : m ≤ 100
  · have k1y : ¬ (100 : Int) < (m : Int) := by omega
    by_cases k2 : n ≤ 12
    · have k2y : ¬ (12 : Int) < (n : Int) := by omega
      by_cases k3 : m1 ≤ 100
      · have k3y : ¬ (100 : Int) < (m1 : Int) := by omega
        by_cases k4 : m2 ≤ 100
        · have k4y : ¬ (100 : Int) < (m2 : Int) := by omega
          go_enter Tryz.func10, Tryz.ntmps10
          go_wp2_with fail
          generalize hW : w.alloc (.cells #[.int .i64 q.k, .string (bs q.key), .int .i64 q.T, .int .i64 q.V, .int .i64 q.p, .int .i64 q.sz, .int .i64 q.ret, .int .i64 q.pol, .slice a n c, .string (bs q.r.src), .string (bs q.r.dst), .int .i64 q.r.kind, .int .i64 q.r.size, .int .i64 q.r.align] 34) = W1 at *
          clear hW
          go_loopw [3] (fun vi wr => ∃ j : Nat, vi = .int .i64 (j : Int) ∧ j ≤ n ∧ W1 = wr) (fun vi _ => n - (intOf vi).toNat)
          case atStart => exact ⟨0, rfl, Nat.zero_le _, rfl⟩
          case round =>
            obtain ⟨j, rfl, hj, rfl⟩ := hrel
            by_cases hjn : j < n
            · have hjz : (j : Int) < (n : Int) := by omega
              have hj0 : (0 : Int) ≤ (j : Int) := by omega
              obtain ⟨pb, po, e1, hpb, y0, y1⟩ := HL.out.at_ j hjn
              subst e1
              obtain ⟨p, hp⟩ : ∃ p, (bs (lN q.l j)).size = p := ⟨_, rfl⟩
              obtain ⟨r, hr⟩ : ∃ r, (bs (lV q.l j)).size = r := ⟨_, rfl⟩
              generalize bs (lN q.l j) = sN at *
              generalize bs (lV q.l j) = sV at *
              by_cases p1 : p ≤ 100
              · have p1z : ¬ (100 : Int) < (p : Int) := by omega
                by_cases p2 : r ≤ 100
                · have p2z : ¬ (100 : Int) < (r : Int) := by omega
                  go_wp2
                  go_roundw
                  case rel => exact ⟨j + 1, by go_num, by omega, by first | rfl | trivial⟩
                  case measure => simp [intOf]; omega
                · have p2z : (100 : Int) < (r : Int) := by omega
                  go_wp2
                  go_ret
                  exact ⟨_, rfl, HB.out⟩
              · have p1z : (100 : Int) < (p : Int) := by omega
                go_wp2
                go_ret
                exact ⟨_, rfl, HB.out⟩
            · have hjz : ¬ (j : Int) < (n : Int) := by omega
              go_wp2
              go_ret
              exact ⟨_, rfl, HB.out⟩
        all_goals
          have k4y : (100 : Int) < (m2 : Int) := by omega
          go_enter Tryz.func10, Tryz.ntmps10
          go_wp2
          go_ret
          exact ⟨_, rfl, HB.out⟩
      · have k3y : (100 : Int) < (m1 : Int) := by omega
        go_enter Tryz.func10, Tryz.ntmps10
        go_wp2
        go_ret
        exact ⟨_, rfl, HB.out⟩
    · have k2y : (12 : Int) < (n : Int) := by omega
      go_enter Tryz.func10, Tryz.ntmps10
      go_wp2
      go_ret
      exact ⟨_, rfl, HB.out⟩
  · have k1y : (100 : Int) < (m : Int) := by omega
    go_enter Tryz.func10, Tryz.ntmps10
    go_wp2
    go_ret
    exact ⟨_, rfl, HB.out⟩
theorem fold_make {r : Ru} {s : Ser} (hs : ∀ b, in64 (vBk r s b)) : ∀ (bs : List Int) (d : Ser), Std d → Std (bs.foldl (makeS r s) d) ∧ (bs.foldl (makeS r s) d).z.length ≤ d.z.length + bs.length
  | [], d, hd => ⟨hd, by simp⟩
  | b :: bs, d, hd => by
    obtain ⟨h1, h2⟩ := fold_make hs bs (makeS r s d b) (make_std hd (hs b))
    have h3 := make_len (r := r) (s := s) (b := b) hd
    exact ⟨h1, by simp only [List.foldl_cons, List.length_cons]; omega⟩
theorem rem_len {r : Ru} {s d : Ser} {ts : List Int} (hs : Std s) (hn : s.z.length < 1000000) (hd : Std d) : (remS r s d ts).z.length ≤ d.z.length + ts.length := by
  have h1 := (fold_make (r := r) (s := s) (fun b => vBk_in (r := r) hs.all (by omega) b) (startsL r s.mx ts) d hd).2
  have h2 := starts_len r s.mx ts
  unfold remS
  omega
def AllMade (P : Spc) : Prop := ∀ r ∈ P.G, MadeR r (P.S r.src) (P.S r.dst)
theorem AllMade.none : AllMade noSpc := fun r hr => by cases hr
theorem remK_at {P : Spc} (h : Ok12 P) {k : Tx} (hk : intoL P.G k = none) (s' : Ser) (ts : List Int) :
    (∀ r ∈ P.G, remK (upd P.S k s') (ofL P.G k) ts r.src = if r.src = k then s' else P.S r.src) ∧
    (∀ r ∈ P.G, remK (upd P.S k s') (ofL P.G k) ts r.dst = if r.src = k then remS r s' (P.S r.dst) ts else P.S r.dst) ∧
    (∀ j, j ≠ k → (∀ r ∈ P.G, r.src = k → r.dst ≠ j) → remK (upd P.S k s') (ofL P.G k) ts j = P.S j) ∧ remK (upd P.S k s') (ofL P.G k) ts k = s' := by
  have hk' := into_none.1 hk
  have hnd : ∀ j, (∀ r ∈ P.G, r.src = k → r.dst ≠ j) → remK (upd P.S k s') (ofL P.G k) ts j = upd P.S k s' j := fun j hj => remK_no _ _ fun q hq => hj q (mem_ofL.1 hq).1 (mem_ofL.1 hq).2
  refine ⟨fun r hr => ?_, fun r hr => ?_, fun j hj hq => ?_, ?_⟩
  · rw [hnd _ fun q hq _ => h.gG.flat q hq r hr]
    by_cases e : r.src = k
    · rw [if_pos e, e, upd_k]
    · rw [if_neg e, upd_n _ _ e]
  · by_cases e : r.src = k
    · rw [if_pos e, remK_yes (ofL P.G k) _ (rset_of h k).apart (rset_of h k).one r (mem_ofL.2 ⟨hr, e⟩), e, upd_k, upd_n _ _ (hk' r hr)]
    · rw [if_neg e, hnd _ (fun q hq hs hd => e (by rw [← h.gG.one q hq r hr hd]; exact hs)), upd_n _ _ (hk' r hr)]
  · rw [hnd _ hq, upd_n _ _ hj]
  · rw [hnd _ fun q hq _ => hk' q hq, upd_k]
theorem wErr_ok {P : Spc} {k : Tx} (h : wErr P k = 0) : P.has k ∧ intoL P.G k = none := by
  unfold wErr at h
  by_cases h1 : ¬ P.has k
  · rw [if_pos h1] at h; omega
  · rw [if_neg h1] at h
    by_cases h2 : (intoL P.G k).isSome
    · rw [if_pos h2] at h; omega
    · exact ⟨Classical.byContradiction h1, by simpa using h2⟩
theorem wrote_inv {n : Nat} {P : Spc} {k : Tx} {T V p : Int} (h : Ok12 P) (hf : Few n P) (hm : AllMade P) (hw : wErr P k = 0) (he : addE (P.S k) T V p = 0) (hV : in64 V) (hn : n ≤ 900) : Few (n + 2) (wrote P k T V p) ∧ AllMade (wrote P k T V p) := by
  obtain ⟨hk, hi⟩ := wErr_ok hw
  obtain ⟨a1, a2, a3, a4⟩ := remK_at h hi (addS5 (P.S k) T V p) (touchL (P.S k).mx T)
  have hS := h.std k hk
  have hz := hf.z k hk
  have ht : (touchL (P.S k).mx T).length ≤ 2 := by unfold touchL; split <;> simp
  have hal := add_len hS.rise T V p
  refine ⟨⟨Nat.le_trans hf.e (by omega), Nat.le_trans hf.g (by omega), fun j hj => ?_⟩, fun r hr => ?_⟩
  · show (remK _ _ _ j).z.length ≤ n + 2
    by_cases e : j = k
    · rw [e, a4]; omega
    · by_cases hq : ∃ r ∈ P.G, r.src = k ∧ r.dst = j
      · obtain ⟨r, hr, hs, rfl⟩ := hq
        rw [a2 r hr, if_pos hs]
        have := rem_len (r := r) (ts := touchL (P.S k).mx T) (hS.add T V p hV) (by omega) (h.std r.dst hj)
        have := hf.z r.dst hj
        omega
      · rw [a3 j e fun r hr hs hd => hq ⟨r, hr, hs, hd⟩]
        have := hf.z j hj
        omega
  · show MadeR r (remK _ _ _ r.src) (remK _ _ _ r.dst)
    rw [a1 r hr, a2 r hr]
    by_cases e : r.src = k
    · rw [if_pos e, if_pos e]
      have hmr := hm r hr
      rw [e] at hmr
      exact MadeR.write (h.gG.right r hr) hS (h.std _ (h.ends r hr).2) hmr he hV (by omega)
    · rw [if_neg e, if_neg e]; exact hm r hr
theorem aSp_inv {n : Nat} {P : Spc} {k : Tx} {T V p : Int} (h : Ok12 P) (hf : Few n P) (hm : AllMade P) (hV : in64 V) (hn : n ≤ 900) : Few (n + 2) (aSp P k T V p) ∧ AllMade (aSp P k T V p) := by
  unfold aSp
  by_cases he : aErr P k T V p = 0
  · rw [if_pos he]
    unfold aErr at he
    by_cases hw : wErr P k = 0
    · rw [if_neg (by simpa using hw)] at he
      exact wrote_inv h hf hm hw he hV hn
    · rw [if_pos hw] at he; exact absurd he hw
  · rw [if_neg he]; exact ⟨hf.more (by omega), hm⟩
theorem dSp_inv {n : Nat} {P : Spc} {k : Tx} {x y : Int} (h : Ok12 P) (hf : Few n P) (hm : AllMade P) (hn : n ≤ 900) : Few n (dSp P k x y) ∧ AllMade (dSp P k x y) := by
  unfold dSp
  by_cases hw : wErr P k = 0
  · rw [if_neg (by simpa using hw)]
    obtain ⟨hk, hi⟩ := wErr_ok hw
    obtain ⟨a1, a2, a3, a4⟩ := remK_at h hi (delS (P.S k) x y) (timesL ((P.S k).z.filter (inB x y)))
    have hS := h.std k hk
    have hz := hf.z k hk
    have hd := del_len (P.S k) x y
    have hmd : ∀ r ∈ P.G, r.src = k → _ := fun r hr e => MadeR.del (x := x) (y := y) (h.gG.right r hr) hS (h.std _ (h.ends r hr).2) (by have q := hm r hr; rw [e] at q; exact q) (by omega)
    refine ⟨⟨hf.e, hf.g, fun j hj => ?_⟩, fun r hr => ?_⟩
    · show (remK _ _ _ j).z.length ≤ n
      by_cases e : j = k
      · rw [e, a4]; omega
      · by_cases hq : ∃ r ∈ P.G, r.src = k ∧ r.dst = j
        · obtain ⟨r, hr, hs, rfl⟩ := hq
          rw [a2 r hr, if_pos hs]
          have := (hmd r hr hs).2.1
          have := hf.z r.dst hj
          omega
        · rw [a3 j e fun r hr hs hd => hq ⟨r, hr, hs, hd⟩]
          exact hf.z j hj
    · show MadeR r (remK _ _ _ r.src) (remK _ _ _ r.dst)
      rw [a1 r hr, a2 r hr]
      by_cases e : r.src = k
      · rw [if_pos e, if_pos e]; exact (hmd r hr e).1
      · rw [if_neg e, if_neg e]; exact hm r hr
  · rw [if_pos hw]; exact ⟨hf, hm⟩
theorem iSp_inv {n : Nat} {P : Spc} {k : Tx} {t b : Int} (h : Ok12 P) (hf : Few n P) (hm : AllMade P) (hV : in64 (raiE (P.S k) t b).1) (hn : n ≤ 900) : Few (n + 2) (iSp P k t b) ∧ AllMade (iSp P k t b) := by
  unfold iSp
  by_cases he : iErr P k t b = 0
  · rw [if_pos he]
    unfold iErr at he
    by_cases hw : wErr P k = 0
    · rw [if_neg (by simpa using hw)] at he
      by_cases h2 : (raiE (P.S k) t b).2 = 0
      · rw [if_neg (by simpa using h2)] at he
        exact wrote_inv h hf hm hw he hV hn
      · rw [if_pos h2] at he; exact absurd he h2
    · rw [if_pos hw] at he; exact absurd he hw
  · rw [if_neg he]; exact ⟨hf.more (by omega), hm⟩
theorem kSp_inv {n : Nat} {P : Spc} {r : Ru} (h : Ok12 P) (h' : Ok12 (kSp P r)) (hf : Few n P) (hm : AllMade P) (hn : n ≤ 900) : Few (n + 1) (kSp P r) ∧ AllMade (kSp P r) := by
  unfold kSp at *
  by_cases he : kErr P r = 0
  · rw [if_pos he] at *
    obtain ⟨k1, k2, k3, k4⟩ := kErr_src he
    have hS := h.std _ k2
    have hD := h.std _ k3
    have hz := hf.z _ k2
    obtain ⟨m1, m2, m3⟩ := MadeR.link (r := r) k1 hS hD (by omega)
    refine ⟨⟨Nat.le_trans hf.e (by omega), ?_, fun j hj => ?_⟩, fun q hq => ?_⟩
    · show (insU r P.G).length ≤ n + 1
      have := insU_len r P.G
      have := hf.g
      omega
    · show (upd P.S r.dst _ j).z.length ≤ n + 1
      by_cases e : j = r.dst
      · rw [e, upd_k]; omega
      · rw [upd_n _ _ e]; have := hf.z j hj; omega
    · have hself : r ∈ insU r P.G := mem_insU.2 (.inl rfl)
      have hne : q.src ≠ r.dst := fun e => h'.gG.flat r hself q hq e.symm
      show MadeR q (upd P.S r.dst _ q.src) (upd P.S r.dst _ q.dst)
      rw [upd_n _ _ hne]
      rcases mem_insU.1 hq with e | e
      · subst e; rw [upd_k]; exact m1
      · by_cases hd : q.dst = r.dst
        · have := h'.gG.one q hq r hself hd
          subst this; rw [upd_k]; exact m1
        · rw [upd_n _ _ hd]; exact hm q e
  · rw [if_neg he] at *; exact ⟨hf.more (by omega), hm⟩
theorem goSp_inv {n : Nat} {P : Spc} {k : Tx} (hf : Few n P) (hm : AllMade P) : Few n (goSp P k) ∧ AllMade (goSp P k) :=
  ⟨⟨Nat.le_trans (dels_len P.E k) hf.e, Nat.le_trans (List.length_filter_le _ _) hf.g, fun j hj => hf.z j (keys_dels.1 hj).1⟩, fun r hr => hm r (List.mem_filter.1 hr).1⟩
theorem mem_drop12 {L : List Ru} {s d : Tx} {r : Ru} (h : r ∈ dropU L s d) : r ∈ L := by
  unfold dropU at h
  split at h
  · split at h
    · exact (List.mem_filter.1 h).1
    · exact h
  · exact h
theorem drop_le12 (L : List Ru) (s d : Tx) : (dropU L s d).length ≤ L.length := by
  unfold dropU
  split
  · split
    · exact List.length_filter_le _ _
    · exact Nat.le_refl _
  · exact Nat.le_refl _
theorem uSp_inv {n : Nat} {P : Spc} {s d : Tx} (hf : Few n P) (hm : AllMade P) : Few n (uSp P s d) ∧ AllMade (uSp P s d) :=
  ⟨⟨hf.e, Nat.le_trans (drop_le12 _ _ _) hf.g, fun j hj => hf.z j hj⟩, fun r hr => hm r (mem_drop12 hr)⟩
theorem putSp_inv {n : Nat} {P : Spc} {k : Tx} {sz : Int} {s : Ser} {l : List Lb} (h : Ok12 P) (hk : ¬ P.has k) (hs : s.z.length ≤ n + 1) (hf : Few n P) (hm : AllMade P) : Few (n + 1) (putSp P k sz s l) ∧ AllMade (putSp P k sz s l) := by
  refine ⟨⟨Nat.le_trans (set_len k l P.E) (by have := hf.e; omega), Nat.le_trans hf.g (by omega), fun j hj => ?_⟩, fun r hr => ?_⟩
  · show (upd P.S k s j).z.length ≤ n + 1
    by_cases e : j = k
    · rw [e, upd_k]; exact hs
    · rw [upd_n _ _ e]
      have := hf.z j ((keys_set12.1 hj).resolve_left e)
      omega
  · show MadeR r (upd P.S k s r.src) (upd P.S k s r.dst)
    have hr' : r ∈ P.G := hr
    have e1 : r.src ≠ k := fun e => hk (by rw [← e]; exact (h.ends r hr').1)
    have e2 : r.dst ≠ k := fun e => hk (by rw [← e]; exact (h.ends r hr').2)
    rw [upd_n _ _ e1, upd_n _ _ e2]
    exact hm r hr'
theorem cSp_inv {n : Nat} {P : Spc} {k : Tx} {sz ret pol : Int} {l : List Lb} (h : Ok12 P) (hf : Few n P) (hm : AllMade P) : Few (n + 1) (cSp P k sz ret pol l) ∧ AllMade (cSp P k sz ret pol l) := by
  unfold cSp
  by_cases he : bErr P k sz ret pol l = 0
  · rw [if_pos he]
    exact putSp_inv h (bErr_ok he).1 (by simp) hf hm
  · rw [if_neg he]; exact ⟨hf.more (by omega), hm⟩
theorem lSp_inv {n : Nat} {P : Spc} {k : Tx} {ret pol : Int} {l : List Lb} (h : Ok12 P) (hf : Few n P) (hm : AllMade P) : Few (n + 1) (lSp P k ret pol l) ∧ AllMade (lSp P k ret pol l) := by
  unfold lSp
  by_cases he : lErr P k ret pol l = 0
  · rw [if_pos he]
    have hk : P.has k := Classical.byContradiction fun q => by unfold lErr at he; rw [if_pos q] at he; omega
    refine ⟨⟨Nat.le_trans (set_len k l P.E) (by have := hf.e; omega), Nat.le_trans hf.g (by omega), fun j hj => ?_⟩, fun r hr => ?_⟩
    · show (upd P.S k (altS (P.S k) ret pol) j).z.length ≤ n + 1
      by_cases e : j = k
      · rw [e, upd_k]
        have := alt_len (P.S k) ret pol
        have := hf.z k hk
        omega
      · rw [upd_n _ _ e]
        have := hf.z j ((keys_set12.1 hj).resolve_left e)
        omega
    · have hr' : r ∈ P.G := hr
      have hmr := hm r hr'
      have hS := h.std _ (h.ends r hr').1
      have hD := h.std _ (h.ends r hr').2
      show MadeR r (upd P.S k (altS (P.S k) ret pol) r.src) (upd P.S k (altS (P.S k) ret pol) r.dst)
      by_cases e : r.src = k
      · have hd : r.dst ≠ k := fun q => h.gG.flat r hr' r hr' (q.trans e.symm)
        rw [upd_n _ _ hd, e, upd_k]
        rw [e] at hmr hS
        exact MadeR.altS ret pol (h.gG.right r hr') hS hD hmr
      · by_cases hd : r.dst = k
        · rw [upd_n _ _ e, hd, upd_k]
          rw [hd] at hmr hD
          exact MadeR.altD ret pol hD hmr
        · rw [upd_n _ _ e, upd_n _ _ hd]; exact hmr
  · rw [if_neg he]; exact ⟨hf.more (by omega), hm⟩
def stepP (P : Spc) (q : Op12) : Spc :=
  if q.k = 0 then aSp P q.key q.T q.V q.p else if q.k = 1 then iSp P q.key q.T q.V else if q.k = 2 then dSp P q.key q.T q.V
  else if q.k = 3 then cSp P q.key q.sz q.ret q.pol q.l else if q.k = 4 then lSp P q.key q.ret q.pol q.l else if q.k = 5 then goSp P q.key
  else if q.k = 6 then kSp P q.r else uSp P q.r.src q.r.dst
theorem rai64 (s : Ser) (t b : Int) : in64 (raiE s t b).1 := by
  unfold raiE
  split
  · unfold in64; simp
  · split
    · unfold in64; simp
    · unfold addS
      repeat' split
      all_goals (unfold in64 at *; simp at *; try omega)
theorem stepP_inv {n : Nat} {P : Spc} {q : Op12} (h : Ok12 P) (h' : Ok12 (stepP P q)) (hf : Few n P) (hm : AllMade P) (hV : in64 q.V) (hn : n ≤ 900) : Few (n + 2) (stepP P q) ∧ AllMade (stepP P q) := by
  unfold stepP at *
  by_cases h0 : q.k = 0
  · rw [if_pos h0] at *; exact aSp_inv h hf hm hV hn
  rw [if_neg h0] at *
  by_cases h1 : q.k = 1
  · rw [if_pos h1] at *; exact iSp_inv h hf hm (rai64 _ _ _) hn
  rw [if_neg h1] at *
  by_cases h2 : q.k = 2
  · rw [if_pos h2] at *; obtain ⟨a, b⟩ := dSp_inv (k := q.key) (x := q.T) (y := q.V) h hf hm hn; exact ⟨a.more (by omega), b⟩
  rw [if_neg h2] at *
  by_cases h3 : q.k = 3
  · rw [if_pos h3] at *; obtain ⟨a, b⟩ := cSp_inv (k := q.key) (sz := q.sz) (ret := q.ret) (pol := q.pol) (l := q.l) h hf hm; exact ⟨a.more (by omega), b⟩
  rw [if_neg h3] at *
  by_cases h4 : q.k = 4
  · rw [if_pos h4] at *; obtain ⟨a, b⟩ := lSp_inv (k := q.key) (ret := q.ret) (pol := q.pol) (l := q.l) h hf hm; exact ⟨a.more (by omega), b⟩
  rw [if_neg h4] at *
  by_cases h5 : q.k = 5
  · rw [if_pos h5] at *; obtain ⟨a, b⟩ := goSp_inv (k := q.key) hf hm; exact ⟨a.more (by omega), b⟩
  rw [if_neg h5] at *
  by_cases h6 : q.k = 6
  · rw [if_pos h6] at *; obtain ⟨a, b⟩ := kSp_inv h h' hf hm hn; exact ⟨a.more (by omega), b⟩
  rw [if_neg h6] at *
  obtain ⟨a, b⟩ := uSp_inv (s := q.r.src) (d := q.r.dst) hf hm
  exact ⟨a.more (by omega), b⟩
def doV (P : Spc) (q : Op12) : Int := if q.k = 1 then iVal P q.key q.T q.V else if q.k = 2 then dNum P q.key q.T q.V else if q.k = 5 then (if P.has q.key then 1 else 0) else 0
def doE (P : Spc) (q : Op12) : Int :=
  if q.k = 0 then aErr P q.key q.T q.V q.p else if q.k = 1 then iErr P q.key q.T q.V else if q.k = 2 then wErr P q.key
  else if q.k = 3 then bErr P q.key q.sz q.ret q.pol q.l else if q.k = 4 then lErr P q.key q.ret q.pol q.l else if q.k = 5 then 0
  else if q.k = 6 then kErr P q.r else dropE P.G q.r.src q.r.dst
theorem do12_any {base : Nat} {w0 W : World} {x : Nat} {m : Mem} {P : Spc} (X : HOwn base w0 W x m P) (hf : Few 900 P) (q : Op12) (a : Option Addr) (n c : Nat) (hl : LbAt W a n c q.l) (hV : in64 q.V) :
    Calls Tryz.prog 11 #[.pointer (some ⟨x, 0, none⟩), .agg #[.int .i64 q.k, .string (bs q.key), .int .i64 q.T, .int .i64 q.V, .int .i64 q.p, .int .i64 q.sz, .int .i64 q.ret, .int .i64 q.pol, .slice a n c, .string (bs q.r.src), .string (bs q.r.dst), .int .i64 q.r.kind, .int .i64 q.r.size, .int .i64 q.r.align]] W (TurnO base w0 W x m P (stepP P q) (.tuple #[.int .i64 (doV P q), .int .i64 (doE P q)])) := by
  have B1 := (Below.refl W.heap.size W).alloc (Nat.le_refl _) (.cells #[.int .i64 q.k, .string (bs q.key), .int .i64 q.T, .int .i64 q.V, .int .i64 q.p, .int .i64 q.sz, .int .i64 q.ret, .int .i64 q.pol, .slice a n c, .string (bs q.r.src), .string (bs q.r.dst), .int .i64 q.r.kind, .int .i64 q.r.size, .int .i64 q.r.align] 34)
  have Q1 : Hid (BoxQ (W.alloc (.cells #[.int .i64 q.k, .string (bs q.key), .int .i64 q.T, .int .i64 q.V, .int .i64 q.p, .int .i64 q.sz, .int .i64 q.ret, .int .i64 q.pol, .slice a n c, .string (bs q.r.src), .string (bs q.r.dst), .int .i64 q.r.kind, .int .i64 q.r.size, .int .i64 q.r.align] 34)) W.heap.size q a n c) := hid (heap_new W _)
  have X1 := hid (X.keep B1)
  have L1 := hid (hl.keep B1)
  have HB1 := hid B1
  have HF := hid hf
  have HV := hid hV
  obtain ⟨x0, x1, x2, x3, x4, x5, x6, x7, x8, x9, x10, x11, x12, x13⟩ := Q1.out.all
  clear X hf hl hV B1
  by_cases h0 : q.k = 0
  · have eS : stepP P q = aSp P q.key q.T q.V q.p := by unfold stepP; simp [h0]
    have eV : doV P q = 0 := by unfold doV; simp [h0]
    have eE : doE P q = aErr P q.key q.T q.V q.p := by unfold doE; simp [h0]
    rw [eS, eV, eE]
    have C := hid (oAdd X1.out q.key q.T q.V q.p HF.out HV.out)
    have z0 : (q.k == 0) = true := by simpa using h0
    clear h0
    clear eS eV eE
    go_enter Tryz.func11, Tryz.ntmps11
    go_wp2_with fail
    refine C.out.mono ?_
    rintro e W2 ⟨rfl, m', oo, tt⟩
    have OO := hid oo
    have TT := hid (tt.afterB HB1.out)
    clear oo tt
    go_wp2
    go_ret2
    exact ⟨rfl, m', OO.out, TT.out⟩
  by_cases h1 : q.k = 1
  · have eS : stepP P q = iSp P q.key q.T q.V := by unfold stepP; simp [h0, h1]
    have eV : doV P q = iVal P q.key q.T q.V := by unfold doV; simp [h0, h1]
    have eE : doE P q = iErr P q.key q.T q.V := by unfold doE; simp [h0, h1]
    rw [eS, eV, eE]
    have C := hid (oInc X1.out q.key q.T q.V HF.out HV.out)
    have z0 : (q.k == 0) = false := by simpa using h0
    have z1 : (q.k == 1) = true := by simpa using h1
    clear h0 h1
    clear eS eV eE
    go_enter Tryz.func11, Tryz.ntmps11
    go_wp2_with fail
    refine C.out.mono ?_
    rintro e W2 ⟨rfl, m', oo, tt⟩
    have OO := hid oo
    have TT := hid (tt.afterB HB1.out)
    clear oo tt
    go_wp2
    go_ret2
    exact ⟨rfl, m', OO.out, TT.out⟩
  by_cases h2 : q.k = 2
  · have eS : stepP P q = dSp P q.key q.T q.V := by unfold stepP; simp [h0, h1, h2]
    have eV : doV P q = dNum P q.key q.T q.V := by unfold doV; simp [h0, h1, h2]
    have eE : doE P q = wErr P q.key := by unfold doE; simp [h0, h1, h2]
    rw [eS, eV, eE]
    have C := hid (oDel X1.out q.key q.T q.V HF.out)
    have z0 : (q.k == 0) = false := by simpa using h0
    have z1 : (q.k == 1) = false := by simpa using h1
    have z2 : (q.k == 2) = true := by simpa using h2
    clear h0 h1 h2
    clear eS eV eE
    go_enter Tryz.func11, Tryz.ntmps11
    go_wp2_with fail
    refine C.out.mono ?_
    rintro e W2 ⟨rfl, m', oo, tt⟩
    have OO := hid oo
    have TT := hid (tt.afterB HB1.out)
    clear oo tt
    go_wp2
    go_ret2
    exact ⟨rfl, m', OO.out, TT.out⟩
  by_cases h3 : q.k = 3
  · have eS : stepP P q = cSp P q.key q.sz q.ret q.pol q.l := by unfold stepP; simp [h0, h1, h2, h3]
    have eV : doV P q = 0 := by unfold doV; simp [h0, h1, h2, h3]
    have eE : doE P q = bErr P q.key q.sz q.ret q.pol q.l := by unfold doE; simp [h0, h1, h2, h3]
    rw [eS, eV, eE]
    have C := hid (oCreate X1.out q.key q.sz q.ret q.pol a n c q.l L1.out)
    have z0 : (q.k == 0) = false := by simpa using h0
    have z1 : (q.k == 1) = false := by simpa using h1
    have z2 : (q.k == 2) = false := by simpa using h2
    have z3 : (q.k == 3) = true := by simpa using h3
    clear h0 h1 h2 h3
    clear eS eV eE
    go_enter Tryz.func11, Tryz.ntmps11
    go_wp2_with fail
    refine C.out.mono ?_
    rintro e W2 ⟨rfl, m', oo, tt⟩
    have OO := hid oo
    have TT := hid (tt.afterB HB1.out)
    clear oo tt
    go_wp2
    go_ret2
    exact ⟨rfl, m', OO.out, TT.out⟩
  by_cases h4 : q.k = 4
  · have eS : stepP P q = lSp P q.key q.ret q.pol q.l := by unfold stepP; simp [h0, h1, h2, h3, h4]
    have eV : doV P q = 0 := by unfold doV; simp [h0, h1, h2, h3, h4]
    have eE : doE P q = lErr P q.key q.ret q.pol q.l := by unfold doE; simp [h0, h1, h2, h3, h4]
    rw [eS, eV, eE]
    have C := hid (oAlter X1.out q.key q.ret q.pol a n c q.l L1.out HF.out)
    have z0 : (q.k == 0) = false := by simpa using h0
    have z1 : (q.k == 1) = false := by simpa using h1
    have z2 : (q.k == 2) = false := by simpa using h2
    have z3 : (q.k == 3) = false := by simpa using h3
    have z4 : (q.k == 4) = true := by simpa using h4
    clear h0 h1 h2 h3 h4
    clear eS eV eE
    go_enter Tryz.func11, Tryz.ntmps11
    go_wp2_with fail
    refine C.out.mono ?_
    rintro e W2 ⟨rfl, m', oo, tt⟩
    have OO := hid oo
    have TT := hid (tt.afterB HB1.out)
    clear oo tt
    go_wp2
    go_ret2
    exact ⟨rfl, m', OO.out, TT.out⟩
  by_cases h5 : q.k = 5
  · have eS : stepP P q = goSp P q.key := by unfold stepP; simp [h0, h1, h2, h3, h4, h5]
    have eV : doV P q = if P.has q.key then 1 else 0 := by unfold doV; simp [h0, h1, h2, h3, h4, h5]
    have eE : doE P q = 0 := by unfold doE; simp [h0, h1, h2, h3, h4, h5]
    rw [eS, eV, eE]
    have C := hid (oDrop X1.out q.key HF.out)
    have z0 : (q.k == 0) = false := by simpa using h0
    have z1 : (q.k == 1) = false := by simpa using h1
    have z2 : (q.k == 2) = false := by simpa using h2
    have z3 : (q.k == 3) = false := by simpa using h3
    have z4 : (q.k == 4) = false := by simpa using h4
    have z5 : (q.k == 5) = true := by simpa using h5
    clear h0 h1 h2 h3 h4 h5
    clear eS eV eE
    by_cases hh : P.has q.key
    · rw [if_pos hh]
      rw [decide_eq_true hh] at C
      go_enter Tryz.func11, Tryz.ntmps11
      go_wp2_with fail
      refine C.out.mono ?_
      rintro e W2 ⟨rfl, m', oo, tt⟩
      have OO := hid oo
      have TT := hid (tt.afterB HB1.out)
      clear oo tt
      go_wp2
      go_ret2
      exact ⟨rfl, m', OO.out, TT.out⟩
    · rw [if_neg hh]
      rw [decide_eq_false hh] at C
      go_enter Tryz.func11, Tryz.ntmps11
      go_wp2_with fail
      refine C.out.mono ?_
      rintro e W2 ⟨rfl, m', oo, tt⟩
      have OO := hid oo
      have TT := hid (tt.afterB HB1.out)
      clear oo tt
      go_wp2
      go_ret2
      exact ⟨rfl, m', OO.out, TT.out⟩
  by_cases h6 : q.k = 6
  · have eS : stepP P q = kSp P q.r := by unfold stepP; simp [h0, h1, h2, h3, h4, h5, h6]
    have eV : doV P q = 0 := by unfold doV; simp [h0, h1, h2, h3, h4, h5, h6]
    have eE : doE P q = kErr P q.r := by unfold doE; simp [h0, h1, h2, h3, h4, h5, h6]
    rw [eS, eV, eE]
    have C := hid (oLink X1.out q.r HF.out)
    have z0 : (q.k == 0) = false := by simpa using h0
    have z1 : (q.k == 1) = false := by simpa using h1
    have z2 : (q.k == 2) = false := by simpa using h2
    have z3 : (q.k == 3) = false := by simpa using h3
    have z4 : (q.k == 4) = false := by simpa using h4
    have z5 : (q.k == 5) = false := by simpa using h5
    have z6 : (q.k == 6) = true := by simpa using h6
    clear h0 h1 h2 h3 h4 h5 h6
    clear eS eV eE
    go_enter Tryz.func11, Tryz.ntmps11
    go_wp2_with fail
    refine C.out.mono ?_
    rintro e W2 ⟨rfl, m', oo, tt⟩
    have OO := hid oo
    have TT := hid (tt.afterB HB1.out)
    clear oo tt
    go_wp2
    go_ret2
    exact ⟨rfl, m', OO.out, TT.out⟩
  have eS : stepP P q = uSp P q.r.src q.r.dst := by unfold stepP; simp [h0, h1, h2, h3, h4, h5, h6]
  have eV : doV P q = 0 := by unfold doV; simp [h0, h1, h2, h3, h4, h5, h6]
  have eE : doE P q = dropE P.G q.r.src q.r.dst := by unfold doE; simp [h0, h1, h2, h3, h4, h5, h6]
  rw [eS, eV, eE]
  have C := hid (oUnlink X1.out q.r.src q.r.dst HF.out)
  have z0 : (q.k == 0) = false := by simpa using h0
  have z1 : (q.k == 1) = false := by simpa using h1
  have z2 : (q.k == 2) = false := by simpa using h2
  have z3 : (q.k == 3) = false := by simpa using h3
  have z4 : (q.k == 4) = false := by simpa using h4
  have z5 : (q.k == 5) = false := by simpa using h5
  have z6 : (q.k == 6) = false := by simpa using h6
  clear h0 h1 h2 h3 h4 h5 h6
  clear eS eV eE
  go_enter Tryz.func11, Tryz.ntmps11
  go_wp2_with fail
  refine C.out.mono ?_
  rintro e W2 ⟨rfl, m', oo, tt⟩
  have OO := hid oo
  have TT := hid (tt.afterB HB1.out)
  clear oo tt
  go_wp2
  go_ret2
  exact ⟨rfl, m', OO.out, TT.out⟩
end Go.Proofs.YtmifpfojhlmbkaaGreat
