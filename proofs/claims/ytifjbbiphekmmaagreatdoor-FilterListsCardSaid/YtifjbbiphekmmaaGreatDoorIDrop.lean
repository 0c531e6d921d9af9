/-
  Contracts of the index's Has and Drop.
-/
import Derived.Test.YtifjbbiphekmmaaGreatDoorIPut
namespace Go.Proofs.YtifjbbiphekmmaaGreatDoor
open Go.RowKit
set_option linter.unusedVariables false
set_option linter.unusedSimpArgs false

theorem ihas_ok (w : World) (x bl bn : Nat) (ρ : Rho) (E : List Ent) (key : Tx) (h : IxAt w x bl bn ρ E) :
    Calls Tryz.prog 84 #[.pointer (some ⟨x, 0, none⟩), .string (bs key)] w fun e w' => e = .returned (.bool (decide (key ∈ keysL E))) ∧ w = w' := by
  obtain ⟨hc, rl, rn, ⟨T, t1, t2, t3⟩, hn, hok, hg⟩ := h
  have c0 := hc.c0
  have HC := Lib.hid hc
  have H1 := Lib.hid t1
  have hok2 : (look (T.map mpV) key).isSome = decide (key ∈ keysL E) := by rw [look_some]; exact decide_eq_decide.2 (LabsAt.keys (w := w) (b := bl) t2 key)
  clear t1 t2 t3 hn hok hg hc
  go_enter Tryz.func84, Tryz.ntmps84
  go_wp2_with fail
  refine (isNone_no w x bl bn HC.out).mono ?_
  rintro e w' ⟨rfl, rfl⟩
  go_wp2_with (first
    | (at_lookup; refine wpList_lookup_mok _ rfl _ _ 93 rfl 9 25 Tryz.underlying93 Tryz.underlying9 _ (Tryz.zeroValue25 _) bl _ rfl H1.out key _ rfl rfl _ rfl _ hok2 ?_))
  go_ret
  exact ⟨rfl, rfl⟩
theorem ihas_nil (w : World) (s : ByteArray) : Calls Tryz.prog 84 #[.pointer none, .string s] w fun e w' => e = .returned (.bool false) ∧ w = w' := by
  go_enter Tryz.func84, Tryz.ntmps84
  go_wp2_with fail
  refine (isNone_nil w).mono ?_
  rintro e w' ⟨rfl, rfl⟩
  go_wp2
  go_ret
  exact ⟨rfl, rfl⟩

def dropS (S : Tx → Tx → Tx → Prop) (key : Tx) (l : List Lb) (m x y : Tx) : Prop := S m x y ∧ ¬ (y = key ∧ (m, x) ∈ l)
theorem not_taken {l : List Lb} (h : (keysL l).Nodup) {j : Nat} (hj : j < l.length) : (lN l j, lV l j) ∉ l.take j := by
  intro hm
  have hs : l = l.take j ++ (lN l j, lV l j) :: l.drop (j + 1) := by rw [← lb_get hj, ← List.drop_eq_getElem_cons hj, List.take_append_drop]
  rw [hs] at h
  simp only [keysL, List.map_append, List.map_cons] at h
  rw [List.nodup_append] at h
  exact h.2.2 _ (List.mem_map.2 ⟨_, hm, rfl⟩) _ (by simp) rfl

set_option maxRecDepth 100000 in
set_option maxHeartbeats 4000000 in
theorem idrop_ok (w : World) (x bl bn : Nat) (ρ : Rho) (E : List Ent) (key : Tx) (h : IxAt w x bl bn ρ E) :
    Calls Tryz.prog 58 #[.pointer (some ⟨x, 0, none⟩), .string (bs key)] w fun e w' => e = .returned (.bool (decide (key ∈ keysL E))) ∧ IxTurn w w' x bl bn ρ ρ (dels E key) := by
  have HH := Lib.hid (ihas_ok w x bl bn ρ E key h)
  by_cases hk : key ∈ keysL E
  · rw [decide_eq_true hk] at HH
    have hd : decide (key ∈ keysL E) = true := decide_eq_true hk
    obtain ⟨p, hp, rfl⟩ := List.mem_map.1 hk
    obtain ⟨key, l⟩ := p
    have hp' : (key, l) ∈ E := hp
    clear hp
    obtain ⟨hc, rl, rn, ⟨T, t1, t2, t3⟩, hn, hok, hg⟩ := h
    obtain ⟨v, hlv, a, c, rfl, hl⟩ := LabsAt.look_hit t1.nodup t2 t3 hp'
    have hlk : (look (T.map mpV) key).getD (.slice none 0 0) = .slice a l.length c := by rw [hlv]; rfl
    have hn8 : l.length ≤ 8 := (hg.right _ hp').1
    have hnd := (hg.right _ hp').2.2
    have hlE : look E key = some l := mem_look (ssG_nodup hg.ss) hp'
    have HS := Lib.hid (fun (j : Nat) (hj : j < l.length) => show dropS (SOf E) key (l.take j) (lN l j) (lV l j) key from ⟨⟨l, hp', lb_mem hj⟩, fun e => not_taken hnd hj e.2⟩)
    have HD := Lib.hid (fun (m y z : Tx) => SOf_dels hg hlE (n := m) (v := y) (x := z))
    have HG := Lib.hid (hg.dels key)
    have HL := Lib.hid hl
    have HC := Lib.hid hc
    have RL := Lib.hid rl
    have RN := Lib.hid rn
    have HO := Lib.hid hok
    have H1 := Lib.hid t1
    have HE := Lib.hid (fun (w' : World) (t : Trn (FA ρ) w w') (hm : MapAt w' bl (dels (T.map mpV) key)) => LabsAt.del t2 t3 t hm)
    have FBL := Lib.hid (show FA ρ bl from by unfold FA; rw [rl]; simp)
    have hbll := t1.lt
    have hbnl := hn.lt
    have hbln : bl ≠ bn := fun e => by rw [e, rn] at rl; cases rl
    have N0 := hn.same (w' := w) (ρ' := ρ) (S' := dropS (SOf E) key (l.take 0)) rfl (.refl _ _) (fun _ _ _ => rfl) (fun m y z => by simp [dropS])
    have c0 := hc.c0
    clear t1 t2 t3 hn hok hg hc rl rn hl hlv hlE hnd hp'
    generalize hnn : l.length = n at *
    have HNN := Lib.hid hnn
    clear hnn
    go_enter Tryz.func58, Tryz.ntmps58
    go_wp2_with fail
    refine HH.out.mono ?_
    rintro e w' ⟨rfl, rfl⟩
    go_wp2_with (first
      | (at_lookup; refine wpList_lookup_m _ rfl _ _ 93 rfl 9 25 Tryz.underlying93 Tryz.underlying9 _ (Tryz.zeroValue25 _) bl _ rfl H1.out key _ rfl rfl _ hlk ?_))
    go_loopw [18] (fun vi wr => ∃ (j : Nat), vi = .int .i64 (j : Int) ∧ j ≤ n ∧ Hid (NamsAt wr bn ρ (dropS (SOf E) key (l.take j))) ∧ Hid (RhoOk wr ρ) ∧ Hid (Trn (FN ρ) w wr)) (fun vi _ => n - (intOf vi).toNat)
    case atStart => exact ⟨0, rfl, Nat.zero_le _, Lib.hid N0, HO, Lib.hid (.refl _ _)⟩
    case round =>
      obtain ⟨j, rfl, hj, N, O, T2⟩ := hrel
      clear N0
      by_cases hjn : j < n
      · have hjz : (j : Int) < (n : Int) := by omega
        have hj0 : (0 : Int) ≤ (j : Int) := by omega
        obtain ⟨pb, po, e1, hpb, x0, x1⟩ := HL.out.at_ j hjn
        replace x0 := T2.out.cell x0
        replace x1 := T2.out.cell x1
        subst e1
        have HP := Lib.hid (take_snoc_lb (l := l) (j := j) (by rw [HNN.out]; exact hjn))
        have HSj := Lib.hid (HS.out j hjn)
        generalize lN l j = nm at *
        generalize lV l j = vl at *
        have B2 := (Below.refl wr.heap.size wr).alloc (Nat.le_refl _) (.cells #[.string (bs nm), .string (bs vl)] 69)
        have X2 := Lib.hid (show BoxL (wr.alloc (.cells #[.string (bs nm), .string (bs vl)] 69)) wr.heap.size nm vl from heap_new wr _)
        have N2 : Hid (NamsAt (wr.alloc (.cells #[.string (bs nm), .string (bs vl)] 69)) bn ρ (dropS (SOf E) key (l.take j))) := Lib.hid (N.out.same (B2.block bn N.out.lt) (.refl _ _) (fun d hd _ => B2.block d hd) (fun _ _ _ => Iff.rfl))
        have O2 := Lib.hid (O.out.keep B2)
        have T3 := Lib.hid (T2.out.thenB B2)
        have C2 := Lib.hid (HC.out.trn T3.out)
        have hsz : w.heap.size ≤ wr.heap.size := T2.out.size
        clear B2 N O T2
        go_wp2_with fail
        generalize wr.alloc (.cells #[.string (bs nm), .string (bs vl)] 69) = W2 at *
        generalize wr.heap.size = B at *
        have c1 := C2.out.c1
        have b0 := X2.out.x0
        have b1 := X2.out.x1
        have ND : Hid (NamsAt W2.drew bn ρ (dropS (SOf E) key (l.take j))) := N2
        have OD : Hid (RhoOk W2.drew ρ) := O2
        go_region_held3 (fun w' => w'.cell? ⟨x, 1, none⟩ = some (mp bn) ∧ w'.cell? ⟨B, 0, none⟩ = some (.string (bs nm)) ∧ w'.cell? ⟨B, 1, none⟩ = some (.string (bs vl)))
          (first
            | exact ⟨d0.out, d1.out, d2.out⟩
            | go_keep)
          (first
            | (go_at_call 85
               (with_reducible refine (ntake_ok _ bn ρ nm vl key _ ND.out RN.out OD.out HSj.out).mono ?_)
               rintro e W6 ⟨rfl, n6, o6, t6⟩
               have d0 := Lib.hid (t6.cell (show W2.drew.cell? ⟨x, 1, none⟩ = some (mp bn) from c1))
               have d1 := Lib.hid (t6.cell (show W2.drew.cell? ⟨B, 0, none⟩ = some (.string (bs nm)) from b0))
               have d2 := Lib.hid (t6.cell (show W2.drew.cell? ⟨B, 1, none⟩ = some (.string (bs vl)) from b1)))
            | fail)
        have N7 : Hid (NamsAt W6 bn ρ (dropS (SOf E) key (l.take (j + 1)))) := Lib.hid (n6.same rfl (.refl _ _) (fun _ _ _ => rfl) (fun m y z => by
          rw [HP.out]
          simp only [dropS, takeN, List.mem_append, List.mem_singleton, Prod.mk.injEq]
          constructor
          · rintro ⟨⟨h, h1⟩, h2⟩
            exact ⟨h, fun ⟨e1, e2⟩ => by rcases e2 with e2 | ⟨e2, e3⟩; · exact h1 ⟨e1, e2⟩
                                         · exact h2 ⟨e2, e3, e1⟩⟩
          · rintro ⟨h, h1⟩
            exact ⟨⟨h, fun ⟨e1, e2⟩ => h1 ⟨e1, .inl e2⟩⟩, fun ⟨e1, e2, e3⟩ => h1 ⟨e3, .inr ⟨e1, e2⟩⟩⟩))
        have T7 := Lib.hid (T3.out.trans ((Trn.drew (FN ρ) W2).trans t6 (fun _ _ f => f)) (fun _ _ f => f))
        have O7 := Lib.hid o6
        clear d0 d1 d2 c1 b0 b1 x0 x1 n6 o6 t6 ND OD N2 O2 C2 X2 T3
        go_wp2
        go_roundw
        case rel => exact ⟨j + 1, by go_num, by omega, N7, O7, T7⟩
        case measure => simp [intOf]; omega
      · have hjz : ¬ (j : Int) < (n : Int) := by omega
        obtain rfl : j = n := by omega
        have c2 := (HC.out.trn T2.out).c0
        have H2 := Lib.hid (H1.out.same (T2.out.block bl hbll (FN_lab RL.out)))
        rw [List.take_of_length_le (by rw [HNN.out]; exact Nat.le_refl _)] at N
        go_wp2_with (first
          | (at_delete; refine wpList_delete_m _ rfl _ _ 93 9 rfl 25 Tryz.underlying93 Tryz.underlying9 bl _ rfl H2.out key _ rfl rfl ?_; intro w2 hm2 g2 hs2))
        have T5 : Trn (FA ρ) w w2 := T2.out.trans (F := FN ρ) (G := FN ρ) (.refl _ _) (fun _ _ f => f) |>.mono (fun _ _ f => f.a) |>.trans (.map (F := FA ρ) g2 FBL.out H2.out.isMap) (fun _ _ f => f)
        go_ret
        refine ⟨rfl, ⟨HC.out.trn T5, RL.out, RN.out, HE.out _ T5 hm2, ?_, O.out.turn g2 hm2.isMap, HG.out⟩, .refl _ _, T5⟩
        refine N.out.same (g2.block bn N.out.lt (by simpa using fun e => hbln e.symm)) (.refl _ _) (fun d hd f => g2.block d hd (by
          simp only [ne_eq, Option.some.injEq]
          intro e; subst e; exact FN_lab RL.out f)) (fun m y z => (HD.out m y z).symm)
  · rw [decide_eq_false hk] at HH
    have HK := Lib.hid hk
    have HX := Lib.hid h
    clear hk h
    go_enter Tryz.func58, Tryz.ntmps58
    go_wp2_with fail
    refine HH.out.mono ?_
    rintro e w' ⟨rfl, rfl⟩
    go_wp2
    go_ret
    exact ⟨ret_bool (decide_eq_false HK.out).symm, by rw [dels_absent HK.out]; exact HX.out, .refl _ _, .refl _ _⟩
theorem idrop_nil (w : World) (s : ByteArray) : Calls Tryz.prog 58 #[.pointer none, .string s] w fun e w' => e = .returned (.bool false) ∧ w = w' := by
  go_enter Tryz.func58, Tryz.ntmps58
  go_wp2_with fail
  refine (ihas_nil w s).mono ?_
  rintro e w' ⟨rfl, rfl⟩
  go_wp2
  go_ret
  exact ⟨rfl, rfl⟩

end Go.Proofs.YtifjbbiphekmmaaGreatDoor
