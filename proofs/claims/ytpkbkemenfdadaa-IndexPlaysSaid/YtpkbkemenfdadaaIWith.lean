/-
  Contract of the index's With.
-/
import Derived.Test.YtpkbkemenfdadaaIFind
namespace Go.Proofs.Ytpkbkemenfdadaa
open Go.RowKit Go.Shelf
set_option linter.unusedVariables false
set_option linter.unusedSimpArgs false

/-- What is collected so far. -/
def Gath (S : Tx → Tx → Prop) (left : List (Tx × Value)) (o : List Tx) : Prop := o.Nodup ∧ ∀ k, k ∈ o ↔ ∃ v, S v k ∧ v ∉ keysL left
theorem Gath.step {S : Tx → Tx → Prop} {left left' : List (Tx × Value)} {o ss : List Tx} {v : Tx} {u : Value} (h : Gath S left o) (hn : (keysL left).Nodup) (hp : left.Perm ((v, u) :: left')) (hf : ∀ {v v' k}, S v k → S v' k → v = v') (hs : ss.Nodup) (hm : ∀ k, k ∈ ss ↔ S v k) :
    Gath S left' (o ++ ss) := by
  have hk : (keysL left).Perm (v :: keysL left') := hp.map Prod.fst
  have hn' := hk.nodup_iff.1 hn
  obtain ⟨n1, n2⟩ := List.nodup_cons.1 hn'
  have hin : v ∈ keysL left := hk.mem_iff.2 (by simp)
  refine ⟨List.nodup_append.2 ⟨h.1, hs, fun a ha b hb e => ?_⟩, fun k => ?_⟩
  · subst e
    obtain ⟨v', s1, s2⟩ := (h.2 a).1 ha
    have := hf s1 ((hm a).1 hb)
    subst this
    exact s2 hin
  · rw [List.mem_append, h.2, hm]
    constructor
    · rintro (⟨v', s1, s2⟩ | s)
      · exact ⟨v', s1, fun e => s2 (hk.mem_iff.2 (List.mem_cons_of_mem _ e))⟩
      · exact ⟨v, s, n1⟩
    · rintro ⟨v', s1, s2⟩
      by_cases e : v' = v
      · subst e; exact .inr s1
      · refine .inl ⟨v', s1, fun hm' => ?_⟩
        rcases List.mem_cons.1 (hk.mem_iff.1 hm') with q | q
        · exact e q
        · exact s2 q

set_option maxRecDepth 100000 in
set_option maxHeartbeats 4000000 in
theorem iwith_ok (w : World) (x bl bn : Nat) (ρ : Rho) (E : List Ent) (n : Tx) (h : IxAt w x bl bn ρ E) (hE : E.length ≤ 100000) :
    Calls Try.prog 28 #[.pointer (some ⟨x, 0, none⟩), .string (bs n)] w (SortP w (withE E n)) := by
  obtain ⟨hc, rl, rn, hlab, ⟨V, L, h1, h2, h3, h4⟩, hok, hg⟩ := h
  have HC := Lib.hid hc
  have HG := Lib.hid hg
  have H1 := Lib.hid h1
  have c1 := hc.c1
  cases hV : V n with
  | none =>
    have hl : (look L n).getD (.map none) = .map none := by rw [h2, hV]; rfl
    have hR : withE E n = [] := by
      have : ∀ k, k ∉ withE E n := fun k hk => by
        obtain ⟨v, s⟩ := mem_with.1 hk
        obtain ⟨c, e⟩ := h4 n v k s
        rw [hV] at e; cases e
      exact List.eq_nil_iff_forall_not_mem.2 this
    rw [hR]
    clear h1 h2 h3 h4 hok hg hc rl rn hlab hV hR
    have hrg := run_range_nilMap (P := Try.prog) w 80 9 77 Try.underlying80
    have hnx : ∀ ty, (Instr.next (.pointer (some ⟨w.heap.size, 0, none⟩)) false ty).run Try.prog (w.alloc (.mapIter none 0 #[] 0)) = _ := fun ty => run_next_nilMap _ ty 0 0 #[]
    have HB := Lib.hid ((Below.refl w.heap.size w).alloc (Nat.le_refl _) (.mapIter none 0 #[] 0))
    go_enter Try.func28, Try.ntmps28
    go_wp2_with fail
    refine (isNone_no w x bl bn HC.out).mono ?_
    rintro e w' ⟨rfl, rfl⟩
    go_wp2_with (first
      | (at_lookup; refine wpList_lookup_m _ rfl _ _ 62 rfl 9 80 Try.underlying62 Try.underlying9 _ (Try.zeroValue80 _) bn L rfl H1.out n _ rfl rfl _ hl ?_; clear H1))
    refine wp_loop_rounds 1 ?_
    rw [rounds_succ]
    go_wp2_with fail
    refine (of_nil 0 0 _).mono ?_
    intro e w3 hm
    obtain ⟨a3, c3, rfl, t3, b3⟩ := (SortP.pre HB.out hm.sort)
    have T3 := Lib.hid t3
    have B3 := Lib.hid b3
    clear hm t3 b3
    rw [show ([] : List Tx).length = 0 from rfl]
    go_wp2
    go_ret
    exact ⟨a3, c3, rfl, T3.out, B3.out⟩
  | some c =>
    obtain ⟨_, K, Lv, v1, v2, v3, v4⟩ := h3 n c hV
    have hl : (look L n).getD (.map none) = mp c := by rw [h2, hV]; rfl
    have V1 := Lib.hid v1
    have hcw := v1.lt
    have HN := Lib.hid v1.nodup
    have HVal := Lib.hid (show ∀ (v : Tx) (u : Value), (v, u) ∈ Lv → ∃ d Lk, u = mp d ∧ MapAt w d Lk ∧ (∀ k, k ∈ keysL Lk ↔ SOf E n v k) from fun v u hm => by
      have e := mem_look v1.nodup hm
      rw [v2] at e
      cases hK : K v with
      | none => rw [hK] at e; cases e
      | some d =>
        rw [hK] at e
        simp only [Option.map_some, Option.some.injEq] at e
        obtain ⟨_, Lk, k1, _, k3⟩ := v3 v d hK
        exact ⟨d, Lk, e.symm, k1, k3⟩)
    have HAll := Lib.hid (show ∀ v k, SOf E n v k → v ∈ keysL Lv from fun v k s => by
      obtain ⟨d, hd⟩ := v4 v k s
      have e := v2 v
      rw [hd] at e
      exact List.mem_map.2 ⟨_, look_mem e, rfl⟩)
    clear h1 h2 h3 h4 hok hg hc rl rn hlab hV v1 v2 v3 v4
    go_enter Try.func28, Try.ntmps28
    go_wp2_with fail
    refine (isNone_no w x bl bn HC.out).mono ?_
    rintro e w' ⟨rfl, rfl⟩
    go_wp2_with (first
      | (at_lookup; refine wpList_lookup_m _ rfl _ _ 62 rfl 9 80 Try.underlying62 Try.underlying9 _ (Try.zeroValue80 _) bn L rfl H1.out n _ rfl rfl _ hl ?_; clear H1)
      | (at_range; refine wpList_range_m _ rfl _ 80 rfl 9 77 Try.underlying80 c Lv rfl V1.out ?_; intro w1 hr1 g1 hs1))
    go_frame
    have R1 := Lib.hid hr1
    have B1 := Lib.hid (gb_below_none g1)
    have G0 : Gath (SOf E n) Lv [] := ⟨List.nodup_nil, fun k => by
      simp only [List.not_mem_nil, false_iff, not_exists, not_and, Classical.not_not]
      exact fun v s => HAll.out v k s⟩
    clear hr1 g1 hs1
    go_loopw [5] (fun vo wr => ∃ (left : List (Tx × Value)) (o : List Tx) (a : Option Addr) (m cc : Nat), vo = .slice a m cc ∧ Hid (o.length = m) ∧ m ≤ 100000 ∧ Hid (Gath (SOf E n) left o) ∧ Hid ((keysL left).Nodup) ∧ Hid (∀ p ∈ left, p ∈ Lv) ∧ Hid (TRow wr w.heap.size (.slice a m cc) o) ∧ Hid (RngAt wr c w.heap.size Lv left) ∧ Hid (Below w.heap.size w wr)) (fun _ wr => wr.rangeLeft c w.heap.size)
    case atStart => exact ⟨Lv, [], none, 0, 0, rfl, Lib.hid rfl, Nat.zero_le _, Lib.hid G0, HN, Lib.hid (fun _ h => h), Lib.hid (TRow.nil _ _), R1, B1⟩
    case round =>
      obtain ⟨left, o, a, m, cc, rfl, HM, hm, HGa, HNl, HIn, HT, HR, HB⟩ := hrel
      clear R1 B1 G0
      go_wp2_with (first
        | (at_next; refine wpList_next_m _ rfl _ rfl c w.heap.size Lv left rfl HR.out ?_ ?_)
        | go_in)
      · intro h0
        subst h0
        have hk : canon o = withE E n := canon_with HG.out.ss (fun k => by rw [HGa.out.2]; simp [keysL])
        obtain ⟨a9, c9, e9, t9⟩ := HT.out.shape
        have HT9 : Hid (TxAt wr a m cc o) := Lib.hid (by
          simp only [Value.slice.injEq] at e9
          obtain ⟨rfl, e2, rfl⟩ := e9
          rw [← e2] at t9; exact t9)
        have HKK := Lib.hid hk
        clear e9 t9 hk HGa HNl HIn HT
        generalize withE E n = R at *
        go_wp2_with fail
        refine (of_any a m cc o wr HT9.out (by omega)).mono ?_
        intro e w3 hm3
        have HM3 := Lib.hid (SortP.pre HB.out (w' := w3) (l := canon o) (e := e) (by
          obtain ⟨a3, c3, e1, t3, b3⟩ := hm3.sort
          exact ⟨a3, c3, e1, t3, b3⟩))
        rw [HKK.out] at HM3
        obtain ⟨a3, c3, rfl, t3, b3⟩ := HM3.out
        have T3 := Lib.hid t3
        have B3 := Lib.hid b3
        clear hm3 HM3 t3 b3
        generalize hr : R.length = r at *
        have HRr := Lib.hid hr
        clear hr
        go_wp2
        go_ret
        exact ⟨a3, c3, by rw [HRr.out]; rfl, by rw [HRr.out]; exact T3.out, B3.out⟩
      · intro v u left' w2 hp hr2 g2 hs2 hen
        obtain ⟨d, Lk, rfl, k1, k3⟩ := HVal.out v u (HIn.out _ (hp.mem_iff.2 (by simp)))
        have hdw := k1.lt
        have B2 := Lib.hid (bel_gb HB.out HB.out.size (Nat.le_refl _) g2)
        have K2 := k1.same (B2.out.block d hdw)
        have HT2 : Hid (TRow w2 w.heap.size (.slice a m cc) o) := Lib.hid (World.ownsRow.kept HT.out g2 (by
          rcases HT.out.2 with ⟨e, _⟩ | ⟨g, cap, cur, e, _, hg, _⟩
          · exact .inl (by rw [e]; rfl)
          · refine .inr (fun e' => ?_)
            rw [e] at e'
            obtain ⟨q1, q2, q3, q4, hi⟩ := HR.out.iter
            have : g = w.heap.size := by simpa [Value.ownBlock] using e'
            subst this
            rw [hg] at hi; cases hi))
        obtain ⟨Sx, Nx, s1, s2, s3⟩ := seq_find (w := w2) (mb := some d) HG.out (.inr ⟨d, Lk, rfl, K2, k3⟩)
        have B3 := (Below.refl w2.heap.size w2).alloc (Nat.le_refl _) (.cells #[mp d] 77)
        have HS := Lib.hid s1
        have HS3 := Lib.hid s3
        have HT3 : Hid (TRow (w2.alloc (.cells #[mp d] 77)) w.heap.size (.slice a m cc) o) := Lib.hid (HT2.out.keep B3)
        have R3 := Lib.hid (hr2.keep B3)
        have BB := Lib.hid (B2.out.trans (B3.mono B2.out.size))
        have HG4 := Lib.hid (fun (ss : List Tx) (hn : ss.Nodup) (hmm : ∀ k, k ∈ ss ↔ SOf E n v k) => HGa.out.step HNl.out hp (fun a b => SOf.fun_ HG.out a b) hn hmm)
        have HN4 : Hid ((keysL left').Nodup) := Lib.hid ((List.nodup_cons.1 ((hp.map Prod.fst).nodup_iff.1 HNl.out)).2)
        have HIn4 : Hid (∀ p ∈ left', p ∈ Lv) := Lib.hid (fun p hp' => HIn.out p (hp.mem_iff.2 (List.mem_cons_of_mem _ hp')))
        have hlt : left'.length < left.length := by rw [hp.length_eq]; simp
        clear hp hr2 g2 hs2 k1 k3 K2 s1 s3 B3 HGa HNl HIn HT HT2 HB B2
        go_wp2_with fail
        refine (keysB_call _ _).mono ?_
        rintro e w3 ⟨rfl, rfl⟩
        go_wp2_with fail
        refine (appendSeq_any _ _ enters_keysB Sx Nx w.heap.size a m cc o _ HS.out (by omega) HM.out HT3.out BB.out.size).mono ?_
        rintro e w4 ⟨v4, ss, rfl, hs4, r4, b4, k4⟩
        obtain ⟨p1, p2, p3⟩ := HS3.out ss hs4
        have HG5 := Lib.hid (HG4.out ss p1 p2)
        have hle : (o ++ ss).length ≤ 100000 := by
          have := len_le_of (b := keysL E) HG5.out.1 (fun k hk => by
            obtain ⟨v', s, _⟩ := (HG5.out.2 k).1 hk
            exact s.key)
          have h2 : (keysL E).length = E.length := by simp [keysL]
          omega
        have R5 := Lib.hid (R3.out.of_walks k4)
        have B5 := Lib.hid (BB.out.trans b4)
        obtain ⟨a5, c5, rfl, t5⟩ := r4.shape
        have HT5 := Lib.hid r4
        clear hs4 r4 b4 k4 p1 p2 p3 t5 HS HS3 HT3 R3 BB HG4
        obtain ⟨q, hq⟩ : ∃ q, (o ++ ss).length = q := ⟨_, rfl⟩
        rw [hq] at HT5 hle ⊢
        have HQ := Lib.hid hq
        clear hq
        go_wp2
        go_roundw
        case rel => exact ⟨left', o ++ ss, a5, q, c5, rfl, HQ, hle, HG5, HN4, HIn4, HT5, R5, B5⟩
        case measure => rw [R5.out.left_eq, HR.out.left_eq]; exact hlt
theorem iwith_nil (w : World) (s : ByteArray) : Calls Try.prog 28 #[.pointer none, .string s] w fun e w' => e = .returned (.slice none 0 0) ∧ w = w' := by
  go_enter Try.func28, Try.ntmps28
  go_wp2_with fail
  refine (isNone_nil w).mono ?_
  rintro e w' ⟨rfl, rfl⟩
  go_wp2
  go_ret
  exact ⟨rfl, rfl⟩

end Go.Proofs.Ytpkbkemenfdadaa
