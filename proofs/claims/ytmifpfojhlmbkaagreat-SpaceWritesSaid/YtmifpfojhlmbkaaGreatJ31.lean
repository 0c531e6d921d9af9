/-
  Contracts.
-/
import Derived.Test.YtmifpfojhlmbkaaGreatJ26
import Derived.Lib.SliceRun
import Derived.Shelf.SlicesE.Clone
import Derived.Shelf.SlicesQ.IndexFunc
import Derived.Shelf.SlSortCmp.NoneTotal
import Derived.Ground.SlgnProg
import Derived.Ground.SlgfProg
import Derived.Ground.SlsfProg
import Derived.Test.YtmifpfojhlmbkaaGreatProg
namespace Go.Proofs.YtmifpfojhlmbkaaGreat
open Lib (hid)
set_option maxRecDepth 100000
set_option maxHeartbeats 16000000
open Go.RowKit
set_option linter.unusedVariables false
set_option linter.unusedSimpArgs false
theorem take_snoc_lb {l : List Lb} {j : Nat} (h : j < l.length) : l.take (j + 1) = l.take j ++ [(lN l j, lV l j)] := by rw [List.take_succ_eq_append_getElem h, lb_get h]
def putS (S : Tx → Tx → Tx → Prop) (key : Tx) (l : List Lb) (m x y : Tx) : Prop := S m x y ∨ (y = key ∧ (m, x) ∈ l)
theorem FN_lab {ρ : Rho} {b : Nat} (h : ρ b = some .labs) : ¬ FN ρ b := fun ⟨r, e, q⟩ => by rw [h] at e; cases e; exact q
theorem iput_ok (w : World) (x bl bn : Nat) (ρ : Rho) (E : List Ent) (key : Tx) (a : Option Addr) (n c : Nat) (l : List Lb) (h : IxAt w x bl bn ρ E) (hk : key ∉ keysL E) (hkb : keyB key) (hr : rightL l) (hs : SS (keysL l)) (hl : LbAt w a n c l) (hty : LbTy w a l) :
    Calls Tryz.prog 125 #[.pointer (some ⟨x, 0, none⟩), .string (bs key), .slice a n c] w fun e w' => e = .returned (.tuple #[]) ∧ ∃ ρ', IxTurn w w' x bl bn ρ ρ' (insG (key, l) E) := by
  obtain ⟨hc, rl, rn, ⟨T, t1, t2, t3⟩, hn, hok, hg⟩ := h
  have hln := hl.1
  have hn8 : n ≤ 8 := by have := hr.1; omega
  have hbln : bl ≠ bn := fun e => by rw [e, rn] at rl; cases rl
  have HV : Hid (LbV w (.slice a n c) l) := hid ⟨a, c, by rw [hln], hl.len, hty⟩
  have HL := hid hl
  have HG := hid (hg.ins hkb hr hs hk)
  have HC := hid hc
  have RL := hid rl
  have RN := hid rn
  have HN := hid hn
  have hbnl := hn.lt
  have hbll := t1.lt
  have HIX := hid hok
  have HO := hid hok
  have H1 := hid t1
  have HE := hid (fun (w' : World) (t : Trn (FA ρ) w w') (hm : MapAt w' bl (ups (T.map mpV) key (.slice a n c))) => LabsAt.put t2 t3 hk HV.out t hm)
  have FBN := hid (show FA ρ bn from by unfold FA; rw [rn]; simp)
  have FB := hid (show FA ρ bl from by unfold FA; rw [rl]; simp)
  have c0 := hc.c0
  clear hl hk hr hs hc rl rn t1 t2 t3 hn hok hg hty
  go_enter Tryz.func125, Tryz.ntmps125
  go_wp2_with (first
    | (at_mapUpdate; refine wpList_mapUpdate_m _ rfl _ _ _ 168 rfl 9 28 Tryz.underlying168 Tryz.underlying9 bl _ rfl H1.out key _ rfl rfl (.slice a n c) rfl ?_; intro w1 hm1 g1 hs1))
  have T1 : Trn (FA ρ) w w1 := .map g1 FB.out H1.out.isMap
  have I1 := HE.out w1 T1 hm1
  have N1 : NamsAt w1 bn ρ (putS (SOf E) key (l.take 0)) := HN.out.same (g1.block bn HN.out.lt (by simpa using fun e => hbln e.symm)) (.refl _ _) (fun d hd f => g1.block d hd (by
    simp only [ne_eq, Option.some.injEq]
    intro e; subst e; exact FN_lab RL.out f)) (fun m y z => by simp [putS])
  have O1 := HO.out.turn g1 hm1.isMap
  clear hm1 g1 hs1 c0 H1 HE HN HO
  go_loopw [16] (fun vi wr => ∃ (j : Nat) (ρ' : Rho), vi = .int .i64 (j : Int) ∧ j ≤ n ∧ Hid (NamsAt wr bn ρ' (putS (SOf E) key (l.take j))) ∧ Hid (RhoOk wr ρ') ∧ Hid (RExt w ρ ρ') ∧ Hid (Trn (FA ρ) w wr) ∧ Hid (LabsAt wr bl (insG (key, l) E))) (fun vi _ => n - (intOf vi).toNat)
  case atStart => exact ⟨0, ρ, rfl, Nat.zero_le _, hid N1, hid O1, hid (.refl _ _), hid T1, hid I1⟩
  case round =>
    obtain ⟨j, ρ', rfl, hj, N, O, R, T2, I⟩ := hrel
    clear N1 O1 T1 I1
    by_cases hjn : j < n
    · have hjz : (j : Int) < (n : Int) := by omega
      have hj0 : (0 : Int) ≤ (j : Int) := by omega
      obtain ⟨pb, po, e1, hpb, x0, x1⟩ := HL.out.at_ j hjn
      replace x0 := T2.out.cell x0
      replace x1 := T2.out.cell x1
      subst e1
      have HP := hid (take_snoc_lb (l := l) (j := j) (by omega))
      generalize lN l j = nm at *
      generalize lV l j = vl at *
      have B2 := (Below.refl wr.heap.size wr).alloc (Nat.le_refl _) (.cells #[.string (bs nm), .string (bs vl)] 100)
      have X2 := hid (show BoxL (wr.alloc (.cells #[.string (bs nm), .string (bs vl)] 100)) wr.heap.size nm vl from heap_new wr _)
      have N2 : Hid (NamsAt (wr.alloc (.cells #[.string (bs nm), .string (bs vl)] 100)) bn ρ' (putS (SOf E) key (l.take j))) := hid (N.out.same (B2.block bn N.out.lt) (.refl _ _) (fun d hd _ => B2.block d hd) (fun _ _ _ => Iff.rfl))
      have O2 := hid (O.out.keep B2)
      have T3 := hid (T2.out.thenB B2)
      have I2 := hid (I.out.trn (F := fun _ => False) (.of B2) (fun f => f))
      have C2 := hid (HC.out.trn T3.out)
      have hsz : w.heap.size ≤ wr.heap.size := T2.out.size
      clear B2 N O T2 I
      go_wp2_with fail
      generalize wr.alloc (.cells #[.string (bs nm), .string (bs vl)] 100) = W2 at *
      generalize wr.heap.size = B at *
      have c1 := C2.out.c1
      have b0 := X2.out.x0
      have b1 := X2.out.x1
      have ND : Hid (NamsAt W2.drew bn ρ' (putS (SOf E) key (l.take j))) := N2
      have OD : Hid (RhoOk W2.drew ρ') := O2
      have HR1 := hid ((R.out bn hbnl).trans RN.out)
      go_region_held3 (fun w' => w'.cell? ⟨x, 1, none⟩ = some (mp bn) ∧ w'.cell? ⟨B, 0, none⟩ = some (.string (bs nm)) ∧ w'.cell? ⟨B, 1, none⟩ = some (.string (bs vl)))
        (first
          | exact ⟨d0.out, d1.out, d2.out⟩
          | go_keep)
        (first
          | (go_at_call 198
             (with_reducible refine (nput_ok _ bn ρ' nm vl key _ ND.out HR1.out OD.out).mono ?_)
             rintro e W6 ⟨rfl, ρ6, n6, o6, r6, t6⟩
             have d0 := hid (t6.cell (show W2.drew.cell? ⟨x, 1, none⟩ = some (mp bn) from c1))
             have d1 := hid (t6.cell (show W2.drew.cell? ⟨B, 0, none⟩ = some (.string (bs nm)) from b0))
             have d2 := hid (t6.cell (show W2.drew.cell? ⟨B, 1, none⟩ = some (.string (bs vl)) from b1)))
          | fail)
      have hbl' : ρ' bl = some .labs := (R.out bl hbll).trans RL.out
      have D : Trn (FN ρ') W2 W6 := (Trn.drew _ W2).trans t6 (fun _ _ f => f)
      have N7 : Hid (NamsAt W6 bn ρ6 (putS (SOf E) key (l.take (j + 1)))) := hid (n6.same rfl (.refl _ _) (fun _ _ _ => rfl) (fun m y z => by
        rw [HP.out]
        simp only [putS, List.mem_append, List.mem_singleton, Prod.mk.injEq]
        constructor
        · rintro ((h | ⟨h1, h2⟩) | ⟨h1, h2, h3⟩)
          · exact .inl h
          · exact .inr ⟨h1, .inl h2⟩
          · exact .inr ⟨h3, .inr ⟨h1, h2⟩⟩
        · rintro (h | ⟨h1, h2 | ⟨h2, h3⟩⟩)
          · exact .inl (.inl h)
          · exact .inl (.inr ⟨h1, h2⟩)
          · exact .inr ⟨h2, h3, h1⟩))
      have I7 := hid (I2.out.trn D (FN_lab hbl'))
      have hs2 := T3.out.size
      have R7 : Hid (RExt w ρ ρ6) := hid (R.out.trans r6 hs2)
      have T7 := hid (T3.out.trans D (fun i hi f => by
        have e := R.out i hi
        have := f.a
        unfold FA at *
        rw [e] at this; exact this))
      have O7 := hid o6
      clear d0 d1 d2 c1 b0 b1 x0 x1 n6 o6 r6 t6 ND OD N2 O2 I2 C2 X2 D T3 R
      go_wp2
      go_roundw
      case rel => exact ⟨j + 1, ρ6, by go_num, by omega, N7, O7, R7, T7, I7⟩
      case measure => simp [intOf]; omega
    · have hjz : ¬ (j : Int) < (n : Int) := by omega
      obtain rfl : j = n := by omega
      go_wp2
      go_end0
      refine ⟨rfl, ρ', ⟨HC.out.trn T2.out, (R.out bl hbll).trans RL.out, (R.out bn hbnl).trans RN.out, I.out, ?_, O.out, HG.out⟩, R.out, T2.out⟩
      rw [List.take_of_length_le (by omega)] at N
      exact N.out.same rfl (.refl _ _) (fun _ _ _ => rfl) (fun m y z => SOf_ins.symm)
theorem ihas_ok (w : World) (x bl bn : Nat) (ρ : Rho) (E : List Ent) (key : Tx) (h : IxAt w x bl bn ρ E) :
    Calls Tryz.prog 140 #[.pointer (some ⟨x, 0, none⟩), .string (bs key)] w fun e w' => e = .returned (.bool (decide (key ∈ keysL E))) ∧ w = w' := by
  obtain ⟨hc, rl, rn, ⟨T, t1, t2, t3⟩, hn, hok, hg⟩ := h
  have c0 := hc.c0
  have HC := hid hc
  have H1 := hid t1
  have hok2 : (look (T.map mpV) key).isSome = decide (key ∈ keysL E) := by rw [look_some]; exact decide_eq_decide.2 (LabsAt.keys (w := w) (b := bl) t2 key)
  clear t1 t2 t3 hn hok hg hc
  go_enter Tryz.func140, Tryz.ntmps140
  go_wp2_with fail
  refine (iNone_no w x bl bn HC.out).mono ?_
  rintro e w' ⟨rfl, rfl⟩
  go_wp2_with (first
    | (at_lookup; refine wpList_lookup_mok _ rfl _ _ 168 rfl 9 28 Tryz.underlying168 Tryz.underlying9 _ (Tryz.zeroValue28 _) bl _ rfl H1.out key _ rfl rfl _ rfl _ hok2 ?_))
  go_ret
  exact ⟨rfl, rfl⟩
def dropS (S : Tx → Tx → Tx → Prop) (key : Tx) (l : List Lb) (m x y : Tx) : Prop := S m x y ∧ ¬ (y = key ∧ (m, x) ∈ l)
theorem not_taken {l : List Lb} (h : (keysL l).Nodup) {j : Nat} (hj : j < l.length) : (lN l j, lV l j) ∉ l.take j := by
  intro hm
  have hs : l = l.take j ++ (lN l j, lV l j) :: l.drop (j + 1) := by rw [← lb_get hj, ← List.drop_eq_getElem_cons hj, List.take_append_drop]
  rw [hs] at h
  simp only [keysL, List.map_append, List.map_cons] at h
  rw [List.nodup_append] at h
  exact h.2.2 _ (List.mem_map.2 ⟨_, hm, rfl⟩) _ (by simp) rfl
theorem idrop_ok (w : World) (x bl bn : Nat) (ρ : Rho) (E : List Ent) (key : Tx) (h : IxAt w x bl bn ρ E) :
    Calls Tryz.prog 72 #[.pointer (some ⟨x, 0, none⟩), .string (bs key)] w fun e w' => e = .returned (.bool (decide (key ∈ keysL E))) ∧ IxTurn w w' x bl bn ρ ρ (dels E key) := by
  have HH := hid (ihas_ok w x bl bn ρ E key h)
  by_cases hk : key ∈ keysL E
  · rw [decide_eq_true hk] at HH
    have hd : decide (key ∈ keysL E) = true := decide_eq_true hk
    obtain ⟨p, hp, rfl⟩ := List.mem_map.1 hk
    obtain ⟨key, l⟩ := p
    have hp' : (key, l) ∈ E := hp
    clear hp
    obtain ⟨hc, rl, rn, ⟨T, t1, t2, t3⟩, hn, hok, hg⟩ := h
    obtain ⟨v, hlv, a, c, rfl, hl, _⟩ := LabsAt.look_hit t1.nodup t2 t3 hp'
    have hlk : (look (T.map mpV) key).getD (.slice none 0 0) = .slice a l.length c := by rw [hlv]; rfl
    have hn8 : l.length ≤ 8 := (hg.right _ hp').1
    have hnd := (hg.right _ hp').2.2
    have hlE : look E key = some l := mem_look (ssG_nodup hg.ss) hp'
    have HS := hid (fun (j : Nat) (hj : j < l.length) => show dropS (SOf E) key (l.take j) (lN l j) (lV l j) key from ⟨⟨l, hp', lb_mem hj⟩, fun e => not_taken hnd hj e.2⟩)
    have HD := hid (fun (m y z : Tx) => SOf_dels hg hlE (n := m) (v := y) (x := z))
    have HG := hid (hg.dels key)
    have HL := hid hl
    have HC := hid hc
    have RL := hid rl
    have RN := hid rn
    have HO := hid hok
    have H1 := hid t1
    have HE := hid (fun (w' : World) (t : Trn (FA ρ) w w') (hm : MapAt w' bl (dels (T.map mpV) key)) => LabsAt.del t2 t3 t hm)
    have FBL := hid (show FA ρ bl from by unfold FA; rw [rl]; simp)
    have hbll := t1.lt
    have hbnl := hn.lt
    have hbln : bl ≠ bn := fun e => by rw [e, rn] at rl; cases rl
    have N0 := hn.same (w' := w) (ρ' := ρ) (S' := dropS (SOf E) key (l.take 0)) rfl (.refl _ _) (fun _ _ _ => rfl) (fun m y z => by simp [dropS])
    have c0 := hc.c0
    clear t1 t2 t3 hn hok hg hc rl rn hl hlv hlE hnd hp'
    generalize hnn : l.length = n at *
    have HNN := hid hnn
    clear hnn
    go_enter Tryz.func72, Tryz.ntmps72
    go_wp2_with fail
    refine HH.out.mono ?_
    rintro e w' ⟨rfl, rfl⟩
    go_wp2_with (first
      | (at_lookup; refine wpList_lookup_m _ rfl _ _ 168 rfl 9 28 Tryz.underlying168 Tryz.underlying9 _ (Tryz.zeroValue28 _) bl _ rfl H1.out key _ rfl rfl _ hlk ?_))
    go_loopw [18] (fun vi wr => ∃ (j : Nat), vi = .int .i64 (j : Int) ∧ j ≤ n ∧ Hid (NamsAt wr bn ρ (dropS (SOf E) key (l.take j))) ∧ Hid (RhoOk wr ρ) ∧ Hid (Trn (FN ρ) w wr)) (fun vi _ => n - (intOf vi).toNat)
    case atStart => exact ⟨0, rfl, Nat.zero_le _, hid N0, HO, hid (.refl _ _)⟩
    case round =>
      obtain ⟨j, rfl, hj, N, O, T2⟩ := hrel
      clear N0
      by_cases hjn : j < n
      · have hjz : (j : Int) < (n : Int) := by omega
        have hj0 : (0 : Int) ≤ (j : Int) := by omega
        obtain ⟨pb, po, e1, hpb, x0, x1⟩ := HL.out.at_ j hjn
        replace x0 := T2.out.cell x0
        replace x1 := T2.out.cell x1
        subst e1
        have HP := hid (take_snoc_lb (l := l) (j := j) (by rw [HNN.out]; exact hjn))
        have HSj := hid (HS.out j hjn)
        generalize lN l j = nm at *
        generalize lV l j = vl at *
        have B2 := (Below.refl wr.heap.size wr).alloc (Nat.le_refl _) (.cells #[.string (bs nm), .string (bs vl)] 100)
        have X2 := hid (show BoxL (wr.alloc (.cells #[.string (bs nm), .string (bs vl)] 100)) wr.heap.size nm vl from heap_new wr _)
        have N2 : Hid (NamsAt (wr.alloc (.cells #[.string (bs nm), .string (bs vl)] 100)) bn ρ (dropS (SOf E) key (l.take j))) := hid (N.out.same (B2.block bn N.out.lt) (.refl _ _) (fun d hd _ => B2.block d hd) (fun _ _ _ => Iff.rfl))
        have O2 := hid (O.out.keep B2)
        have T3 := hid (T2.out.thenB B2)
        have C2 := hid (HC.out.trn T3.out)
        have hsz : w.heap.size ≤ wr.heap.size := T2.out.size
        clear B2 N O T2
        go_wp2_with fail
        generalize wr.alloc (.cells #[.string (bs nm), .string (bs vl)] 100) = W2 at *
        generalize wr.heap.size = B at *
        have c1 := C2.out.c1
        have b0 := X2.out.x0
        have b1 := X2.out.x1
        have ND : Hid (NamsAt W2.drew bn ρ (dropS (SOf E) key (l.take j))) := N2
        have OD : Hid (RhoOk W2.drew ρ) := O2
        go_region_held3 (fun w' => w'.cell? ⟨x, 1, none⟩ = some (mp bn) ∧ w'.cell? ⟨B, 0, none⟩ = some (.string (bs nm)) ∧ w'.cell? ⟨B, 1, none⟩ = some (.string (bs vl)))
          (first
            | exact ⟨d0.out, d1.out, d2.out⟩
            | go_keep)
          (first
            | (go_at_call 141
               (with_reducible refine (ntake_ok _ bn ρ nm vl key _ ND.out RN.out OD.out HSj.out).mono ?_)
               rintro e W6 ⟨rfl, n6, o6, t6⟩
               have d0 := hid (t6.cell (show W2.drew.cell? ⟨x, 1, none⟩ = some (mp bn) from c1))
               have d1 := hid (t6.cell (show W2.drew.cell? ⟨B, 0, none⟩ = some (.string (bs nm)) from b0))
               have d2 := hid (t6.cell (show W2.drew.cell? ⟨B, 1, none⟩ = some (.string (bs vl)) from b1)))
            | fail)
        have N7 : Hid (NamsAt W6 bn ρ (dropS (SOf E) key (l.take (j + 1)))) := hid (n6.same rfl (.refl _ _) (fun _ _ _ => rfl) (fun m y z => by
          rw [HP.out]
          simp only [dropS, takeN, List.mem_append, List.mem_singleton, Prod.mk.injEq]
          constructor
          · rintro ⟨⟨h, h1⟩, h2⟩
            exact ⟨h, fun ⟨e1, e2⟩ => by rcases e2 with e2 | ⟨e2, e3⟩; · exact h1 ⟨e1, e2⟩
                                         · exact h2 ⟨e2, e3, e1⟩⟩
          · rintro ⟨h, h1⟩
            exact ⟨⟨h, fun ⟨e1, e2⟩ => h1 ⟨e1, .inl e2⟩⟩, fun ⟨e1, e2, e3⟩ => h1 ⟨e3, .inr ⟨e1, e2⟩⟩⟩))
        have T7 := hid (T3.out.trans ((Trn.drew (FN ρ) W2).trans t6 (fun _ _ f => f)) (fun _ _ f => f))
        have O7 := hid o6
        clear d0 d1 d2 c1 b0 b1 x0 x1 n6 o6 t6 ND OD N2 O2 C2 X2 T3
        go_wp2
        go_roundw
        case rel => exact ⟨j + 1, by go_num, by omega, N7, O7, T7⟩
        case measure => simp [intOf]; omega
      · have hjz : ¬ (j : Int) < (n : Int) := by omega
        obtain rfl : j = n := by omega
        have c2 := (HC.out.trn T2.out).c0
        have H2 := hid (H1.out.same (T2.out.block bl hbll (FN_lab RL.out)))
        rw [List.take_of_length_le (by rw [HNN.out]; exact Nat.le_refl _)] at N
        go_wp2_with (first
          | (at_delete; refine wpList_delete_m _ rfl _ _ 168 9 rfl 28 Tryz.underlying168 Tryz.underlying9 bl _ rfl H2.out key _ rfl rfl ?_; intro w2 hm2 g2 hs2))
        have T5 : Trn (FA ρ) w w2 := T2.out.trans (F := FN ρ) (G := FN ρ) (.refl _ _) (fun _ _ f => f) |>.mono (fun _ _ f => f.a) |>.trans (.map (F := FA ρ) g2 FBL.out H2.out.isMap) (fun _ _ f => f)
        go_ret
        refine ⟨rfl, ⟨HC.out.trn T5, RL.out, RN.out, HE.out _ T5 hm2, ?_, O.out.turn g2 hm2.isMap, HG.out⟩, .refl _ _, T5⟩
        refine N.out.same (g2.block bn N.out.lt (by simpa using fun e => hbln e.symm)) (.refl _ _) (fun d hd f => g2.block d hd (by
          simp only [ne_eq, Option.some.injEq]
          intro e; subst e; exact FN_lab RL.out f)) (fun m y z => (HD.out m y z).symm)
  · rw [decide_eq_false hk] at HH
    have HK := hid hk
    have HX := hid h
    clear hk h
    go_enter Tryz.func72, Tryz.ntmps72
    go_wp2_with fail
    refine HH.out.mono ?_
    rintro e w' ⟨rfl, rfl⟩
    go_wp2
    go_ret
    exact ⟨ret_bool (decide_eq_false HK.out).symm, by rw [dels_absent HK.out]; exact HX.out, .refl _ _, .refl _ _⟩
open Go.Shelf
def sh_laysContainsLb_ren : Go.Shelf.Ren := ⟨fun | 8 => 224 | 6 => 237 | n => n, fun | 22 => 28 | 23 => 100 | 25 => 265 | 4 => 4 | 3 => 3 | 0 => 0 | n => n, fun | n => n⟩
theorem sh_laysContainsLb : Go.Proofs.SlLaysH0.n8 Tryz.prog sh_laysContainsLb_ren := {
  mixed := by kernel_rfl
  f6 := ⟨Tryz.f237.name, by decide, Tryz.func237.trans (congrArg some (by kernel_rfl))⟩
  f8 := ⟨Tryz.f224.name, by decide, Tryz.func224.trans (congrArg some (by kernel_rfl))⟩
  t0 := Tryz.underlying0
  a0 := Tryz.isAgg0
  z0 := Tryz.sizeOf0
  v0 := Tryz.zeroValue0
  t3 := Tryz.underlying3
  a3 := Tryz.isAgg3
  z3 := Tryz.sizeOf3
  v3 := Tryz.zeroValue3
  t4 := Tryz.underlying4
  a4 := Tryz.isAgg4
  z4 := Tryz.sizeOf4
  v4 := Tryz.zeroValue4
  t22 := Tryz.underlying28
  a22 := Tryz.isAgg28
  z22 := Tryz.sizeOf28
  v22 := Tryz.zeroValue28
  t25 := Tryz.underlying265
  a25 := Tryz.isAgg265
  z25 := Tryz.sizeOf265
  v25 := Tryz.zeroValue265 }
def sh_laysSortLb_ren : Go.Shelf.Ren := ⟨fun | 6 => 226 | 15 => 252 | 14 => 280 | 28 => 301 | 29 => 302 | 20 => 315 | 21 => 316 | 22 => 317 | 23 => 318 | 24 => 319 | 25 => 320 | 26 => 321 | 27 => 322 | 46 => 339 | 47 => 329 | 48 => 330 | 49 => 340 | 50 => 341 | 57 => 347 | n => n, fun | 22 => 28 | 24 => 100 | 25 => 268 | 3 => 3 | 39 => 282 | 0 => 0 | 53 => 320 | 55 => 322 | 4 => 4 | 46 => 314 | 45 => 313 | 50 => 102 | 5 => 5 | 9 => 9 | 66 => 337 | 70 => 341 | 76 => 351 | 77 => 114 | n => n, fun | n => n⟩
theorem sh_laysSortLb : Go.Proofs.SlLaysF0.n6 Tryz.prog sh_laysSortLb_ren := {
  mixed := by kernel_rfl
  f6 := ⟨Tryz.f226.name, by decide, Tryz.func226.trans (congrArg some (by kernel_rfl))⟩
  f14 := ⟨Tryz.f280.name, by decide, Tryz.func280.trans (congrArg some (by kernel_rfl))⟩
  f15 := Tryz.func252.trans (congrArg some (by kernel_rfl))
  f20 := ⟨Tryz.f315.name, by decide, Tryz.func315.trans (congrArg some (by kernel_rfl))⟩
  f21 := ⟨Tryz.f316.name, by decide, Tryz.func316.trans (congrArg some (by kernel_rfl))⟩
  f22 := ⟨Tryz.f317.name, by decide, Tryz.func317.trans (congrArg some (by kernel_rfl))⟩
  f23 := ⟨Tryz.f318.name, by decide, Tryz.func318.trans (congrArg some (by kernel_rfl))⟩
  f24 := ⟨Tryz.f319.name, by decide, Tryz.func319.trans (congrArg some (by kernel_rfl))⟩
  f25 := ⟨Tryz.f320.name, by decide, Tryz.func320.trans (congrArg some (by kernel_rfl))⟩
  f26 := ⟨Tryz.f321.name, by decide, Tryz.func321.trans (congrArg some (by kernel_rfl))⟩
  f27 := ⟨Tryz.f322.name, by decide, Tryz.func322.trans (congrArg some (by kernel_rfl))⟩
  f28 := Tryz.func301.trans (congrArg some (by kernel_rfl))
  f29 := Tryz.func302.trans (congrArg some (by kernel_rfl))
  f46 := ⟨Tryz.f339.name, by decide, Tryz.func339.trans (congrArg some (by kernel_rfl))⟩
  f47 := Tryz.func329.trans (congrArg some (by kernel_rfl))
  f48 := Tryz.func330.trans (congrArg some (by kernel_rfl))
  f49 := ⟨Tryz.f340.name, by decide, Tryz.func340.trans (congrArg some (by kernel_rfl))⟩
  f50 := ⟨Tryz.f341.name, by decide, Tryz.func341.trans (congrArg some (by kernel_rfl))⟩
  f57 := ⟨Tryz.f347.name, by decide, Tryz.func347.trans (congrArg some (by kernel_rfl))⟩
  t0 := Tryz.underlying0
  a0 := Tryz.isAgg0
  z0 := Tryz.sizeOf0
  v0 := Tryz.zeroValue0
  t3 := Tryz.underlying3
  a3 := Tryz.isAgg3
  z3 := Tryz.sizeOf3
  v3 := Tryz.zeroValue3
  t4 := Tryz.underlying4
  a4 := Tryz.isAgg4
  z4 := Tryz.sizeOf4
  v4 := Tryz.zeroValue4
  t5 := Tryz.underlying5
  a5 := Tryz.isAgg5
  z5 := Tryz.sizeOf5
  v5 := Tryz.zeroValue5
  t9 := Tryz.underlying9
  a9 := Tryz.isAgg9
  z9 := Tryz.sizeOf9
  v9 := Tryz.zeroValue9
  t22 := Tryz.underlying28
  a22 := Tryz.isAgg28
  z22 := Tryz.sizeOf28
  v22 := Tryz.zeroValue28
  t25 := Tryz.underlying268
  a25 := Tryz.isAgg268
  z25 := Tryz.sizeOf268
  v25 := Tryz.zeroValue268
  t39 := Tryz.underlying282
  a39 := Tryz.isAgg282
  z39 := Tryz.sizeOf282
  v39 := Tryz.zeroValue282
  t45 := Tryz.underlying313
  a45 := Tryz.isAgg313
  z45 := Tryz.sizeOf313
  v45 := Tryz.zeroValue313
  t46 := Tryz.underlying314
  a46 := Tryz.isAgg314
  z46 := Tryz.sizeOf314
  v46 := Tryz.zeroValue314
  t50 := Tryz.underlying102
  a50 := Tryz.isAgg102
  z50 := Tryz.sizeOf102
  v50 := Tryz.zeroValue102
  t53 := Tryz.underlying320
  a53 := Tryz.isAgg320
  z53 := Tryz.sizeOf320
  v53 := Tryz.zeroValue320
  t55 := Tryz.underlying322
  a55 := Tryz.isAgg322
  z55 := Tryz.sizeOf322
  v55 := Tryz.zeroValue322
  t66 := Tryz.underlying337
  a66 := Tryz.isAgg337
  z66 := Tryz.sizeOf337
  v66 := Tryz.zeroValue337
  t70 := Tryz.underlying341
  a70 := Tryz.isAgg341
  z70 := Tryz.sizeOf341
  v70 := Tryz.zeroValue341
  t76 := Tryz.underlying351
  a76 := Tryz.isAgg351
  z76 := Tryz.sizeOf351
  v76 := Tryz.zeroValue351
  t77 := Tryz.underlying114
  a77 := Tryz.isAgg114
  z77 := Tryz.sizeOf114
  v77 := Tryz.zeroValue114 }
open Go.RowKit Go.Shelf Go.Lib
def encLb (x : Lb) : List Value := [.string (bs x.1), .string (bs x.2)]
theorem lb_bang {l : List Lb} {j : Nat} (h : j < l.length) : l[j]! = (lN l j, lV l j) := by rw [getElem!_pos l j h]; exact lb_get h
theorem predName (nm : Tx) (B : Nat) (w : World) (hB : B < w.heap.size) (hcell : w.cell? ⟨B, 0, none⟩ = some (.string (bs nm))) :
    PredBelow Tryz.prog 225 #[.pointer (some ⟨B, 0, none⟩)] (fun x => .agg (encLb x).toArray) (fun x => decide (x.1 = nm)) w := fun W x hb => by
  have hc : W.cell? ⟨B, 0, none⟩ = some (.string (bs nm)) := (hb.cell (p := ⟨B, 0, none⟩) hB).trans hcell
  have hBW : B < W.heap.size := Nat.lt_of_lt_of_le hB hb.size
  have hne : B ≠ W.heap.size := by omega
  have he := eq_bs x.1 nm
  have h2 : (W.alloc (.cells #[.string (bs x.1), .string (bs x.2)] 100)).cell? ⟨B, 0, none⟩ = some (.string (bs nm)) := Trn.cell (F := fun _ => False) (.of ((Below.refl _ W).alloc (Nat.le_refl _) _)) hc
  have h3 : BoxL (W.alloc (.cells #[.string (bs x.1), .string (bs x.2)] 100)) W.heap.size x.1 x.2 := heap_new W _
  have h4 := h3.x0
  show Calls Tryz.prog 225 #[.agg #[.string (bs x.1), .string (bs x.2)], .pointer (some ⟨B, 0, none⟩)] W _
  go_enter Tryz.func225, Tryz.ntmps225
  go_wp2
  go_ret
  exact ⟨ret_bool (by first | rfl | exact he), hb.alloc hb.size _⟩
theorem hasName_any (b off n c : Nat) (l : List Lb) (nm : Tx) (w : World) (h : LbAt w (some ⟨b, off, none⟩) n c l) (hb : b < w.heap.size) :
    Calls Tryz.prog 154 #[.slice (some ⟨b, off, none⟩) n c, .string (bs nm)] w fun e w' => e = .returned (.bool (decide (nm ∈ keysL l))) ∧ Below w.heap.size w w' := by
  have eg : ∀ args w, (callFunc 225 args).run Tryz.prog w = .ok (.enter 225 args) w := enters_of Tryz.func225 (by kernel_rfl) rfl
  have h0 : Below w.heap.size w (w.alloc (.cells #[.string (bs nm)] 9)) := (Below.refl _ w).alloc (Nat.le_refl _) _
  have hl := h.1
  have h63 := h.2.2.1
  have hk := h.keep h0
  have hcon := AnyQ.slices_ContainsFunc sh_laysContainsLb 2 Tryz.isAgg100 Tryz.sizeOf100 encLb (fun _ => rfl) (fun x => decide (x.1 = nm)) 225 #[.pointer (some ⟨w.heap.size, 0, none⟩)] eg b off n c l (w.alloc (.cells #[.string (bs nm)] 9))
    (predName nm w.heap.size _ (by simp) (by rw [cell_of (heap_new w _)]; rfl)) (by omega) h63 (by simp; omega) (fun j hj i v hi => by
      obtain ⟨b', off', e, _, c0, c1⟩ := hk.at_ j (by omega)
      simp only [Option.some.injEq, Addr.mk.injEq] at e
      obtain ⟨rfl, rfl, _⟩ := e
      rw [lb_bang hj] at hi
      match i, hi with
      | 0, hi => simp [encLb] at hi; rw [← hi]; exact c0
      | 1, hi => simp [encLb] at hi; rw [← hi]; exact c1
      | i + 2, hi => simp [encLb] at hi)
  change Calls Tryz.prog 224 _ _ _ at hcon
  have hany : (l.take n).any (fun x => decide (x.1 = nm)) = decide (nm ∈ keysL l) := by
    rw [List.take_of_length_le (by omega)]
    by_cases hm : nm ∈ keysL l
    · rw [decide_eq_true hm]
      obtain ⟨p, hp, e⟩ := List.mem_map.1 hm
      exact List.any_eq_true.2 ⟨p, hp, decide_eq_true e⟩
    · rw [decide_eq_false hm]
      rw [List.any_eq_false]
      intro p hp e
      exact hm (List.mem_map.2 ⟨p, hp, of_decide_eq_true e⟩)
  rw [hany] at hcon
  clear h hk hany
  generalize decide (nm ∈ keysL l) = r at hcon ⊢
  have HC := hid hcon
  have H0 := hid h0
  clear hcon h0
  go_enter Tryz.func154, Tryz.ntmps154
  go_wp2_with fail
  refine HC.out.mono ?_
  rintro e w' ⟨rfl, hb'⟩
  go_wp2
  go_ret
  exact ⟨rfl, H0.out.trans (hb'.mono H0.out.size)⟩
theorem bel_drewN {B : Nat} {w W : World} (h : Below B w W) (n : Nat) : Below B w (W.drewN n) := ⟨h.os, h.tape, h.output, h.size, h.block⟩
theorem bel_drew {B : Nat} {w W : World} (h : Below B w W) : Below B w W.drew := ⟨h.os, h.tape, h.output, h.size, h.block⟩
def okUpto (l : List Lb) (j : Nat) : Prop := (∀ x ∈ l.take j, keyB x.1 ∧ keyB x.2) ∧ (keysL (l.take j)).Nodup
theorem take_snoc9 {l : List Lb} {j : Nat} (h : j < l.length) : l.take (j + 1) = l.take j ++ [(lN l j, lV l j)] := by rw [List.take_succ_eq_append_getElem h, lb_get h]
theorem okUpto_snoc {l : List Lb} {j : Nat} (h : j < l.length) (k : okUpto l j) (h1 : keyB (lN l j)) (h2 : keyB (lV l j)) (h3 : lN l j ∉ keysL (l.take j)) : okUpto l (j + 1) := by
  unfold okUpto
  rw [take_snoc9 h]
  refine ⟨fun x hx => ?_, ?_⟩
  · rcases List.mem_append.1 hx with hx | hx
    · exact k.1 x hx
    · rw [List.mem_singleton] at hx
      subst hx; exact ⟨h1, h2⟩
  · unfold keysL at *
    rw [List.map_append, List.nodup_append]
    refine ⟨k.2, by simp, fun a ha b hb e => ?_⟩
    simp only [List.map_cons, List.map_nil, List.mem_singleton] at hb
    subst hb; subst e; exact h3 ha
theorem not_right_key {l : List Lb} {j : Nat} (h : j < l.length) (h1 : ¬ (keyB (lN l j) ∧ keyB (lV l j))) : ¬ rightL l := fun hr => h1 (hr.2.1 _ (lb_mem h))
theorem not_right_dup {l : List Lb} {j : Nat} (h : j < l.length) (h1 : lN l j ∈ keysL (l.take j)) : ¬ rightL l := fun hr => by
  have hn := hr.2.2
  have hs : l = l.take (j + 1) ++ l.drop (j + 1) := (List.take_append_drop ..).symm
  rw [take_snoc9 h] at hs
  rw [hs] at hn
  unfold keysL at *
  rw [List.map_append, List.map_append] at hn
  have := (List.nodup_append.1 (List.nodup_append.1 hn).1).2.2 _ h1 (lN l j) (by simp)
  exact this rfl
theorem right_all {l : List Lb} (h : l.length ≤ 8) (k : okUpto l l.length) : rightL l := by
  unfold okUpto at k
  rw [List.take_length] at k
  exact ⟨h, k⟩
theorem run_lb_to (b off n c k : Nat) (h1 : k ≤ n) (h2 : n ≤ c) (h0 : 0 < n) (W : World) : (Instr.slice 28 (.slice (some ⟨b, off, none⟩) n c) none (some (.int .i64 (k : Int))) none).run Tryz.prog W = .ok (.slice (some ⟨b, off, none⟩) k c) W := by
  rw [run_slice_h W 28 _ _ _ (by kernel_rfl) .i64 (k : Int) (by omega) (by omega), size_lb]
  have : c ≠ 0 := by omega
  simp [Result.andThen, sliced, this, Addr.add]
theorem right9_any (a : Option Addr) (n c : Nat) (l : List Lb) (w : World) (h : LbAt w a n c l) :
    Calls Tryz.prog 86 #[.slice a n c] w fun e w' => e = .returned (.bool (decide (rightL l))) ∧ Below w.heap.size w w' := by
  have hln := h.1
  have hnc := h.2.1
  have h63 := h.2.2.1
  have HL := hid h
  clear h
  have HLN := hid hln
  clear hln
  by_cases hn : n ≤ 8
  · have hnz : ¬ (8 : Int) < (n : Int) := by omega
    have HZ := hid (show okUpto l 0 from ⟨by simp, by simp [keysL]⟩)
    go_enter Tryz.func86, Tryz.ntmps86
    go_wp2_with fail
    go_loopw [10] (fun vi wr => ∃ (j : Nat), vi = .int .i64 (j : Int) ∧ j ≤ n ∧ Hid (okUpto l j) ∧ Hid (Below w.heap.size w wr)) (fun vi _ => n - (intOf vi).toNat)
    case atStart => exact ⟨0, rfl, Nat.zero_le _, HZ, hid (Below.refl _ _)⟩
    case round =>
      obtain ⟨j, rfl, hj, HU, HB⟩ := hrel
      clear HZ
      by_cases hjn : j < n
      · have hjz : (j : Int) < (n : Int) := by omega
        have hj0 : (0 : Int) ≤ (j : Int) := by omega
        obtain ⟨pb, po, e1, hpb, x0, x1⟩ := HL.out.at_ j hjn
        rw [← HB.out.cell hpb] at x0 x1
        subst e1
        have hsl := fun W => run_lb_to pb po n c j hj hnc (by omega) W
        have hjl : j < l.length := by rw [HLN.out]; exact hjn
        have HSN := hid (fun h1 h2 h3 => okUpto_snoc hjl HU.out h1 h2 h3)
        have HN1 := hid (not_right_key hjl)
        have HN2 := hid (not_right_dup hjl)
        have hszw : w.heap.size ≤ wr.heap.size := HB.out.size
        have B2 := (Below.refl wr.heap.size wr).alloc (Nat.le_refl _) (.cells #[.string (bs (lN l j)), .string (bs (lV l j))] 100)
        have X2 := hid (show BoxL (wr.alloc (.cells #[.string (bs (lN l j)), .string (bs (lV l j))] 100)) wr.heap.size (lN l j) (lV l j) from heap_new wr _)
        have hs2 : (wr.alloc (.cells #[.string (bs (lN l j)), .string (bs (lV l j))] 100)).heap.size = wr.heap.size + 1 := by simp
        have T0 := hid (HL.out.keep HB.out |>.keep B2 |>.to_ j hj)
        have B3 := hid (HB.out.trans (B2.mono hszw))
        clear HU B2 HB
        generalize hk0 : l.take j = lj at *
        clear hk0 hjl
        generalize lN l j = nm at *
        generalize lV l j = vl at *
        go_wp2_with fail
        generalize wr.alloc (.cells #[.string (bs nm), .string (bs vl)] 100) = W2 at *
        generalize wr.heap.size = B at *
        have b0 := X2.out.x0
        have b1 := X2.out.x1
        have hpb2 : pb < W2.heap.size := by omega
        by_cases k1 : keyB nm
        · have hK1 := fun W => key_any nm W
          rw [decide_eq_true k1] at hK1
          have HK1 := hid hK1
          clear hK1
          by_cases k2 : keyB vl
          · have hK2 := fun W => key_any vl W
            rw [decide_eq_true k2] at hK2
            have HK2 := hid hK2
            have TD : Hid (LbAt W2.drew (some ⟨pb, po, none⟩) j c lj) := T0
            have HD := hid (hasName_any pb po j c lj nm W2.drew TD.out hpb2)
            clear hK2 x0 x1
            by_cases k3 : nm ∈ keysL lj
            · rw [decide_eq_true k3] at HD
              go_region_held3 (fun w' => w'.cell? ⟨B, 0, none⟩ = some (.string (bs nm)) ∧ w'.cell? ⟨B, 1, none⟩ = some (.string (bs vl)))
                (first
                  | exact ⟨d0.out, d1.out⟩
                  | exact ⟨b0, b1⟩
                  | go_keep)
                (first
                  | (go_at_call 153
                     (with_reducible refine (HK1.out _).mono ?_)
                     rintro e W6 ⟨rfl, rfl⟩)
                  | (go_at_call 153
                     (with_reducible refine (HK2.out _).mono ?_)
                     rintro e W6 ⟨rfl, rfl⟩)
                  | (go_at_call 154
                     (with_reducible refine HD.out.mono ?_)
                     rintro e W6 ⟨rfl, hb6⟩
                     have d0 := hid ((hb6.cell (p := ⟨B, 0, none⟩) (show B < W2.drew.heap.size from hs2 ▸ Nat.lt_succ_self B)).trans b0)
                     have d1 := hid ((hb6.cell (p := ⟨B, 1, none⟩) (show B < W2.drew.heap.size from hs2 ▸ Nat.lt_succ_self B)).trans b1))
                  | fail)
              go_wp2
              go_ret
              exact ⟨ret_bool (decide_eq_false (HN2.out k3)).symm, (bel_drew B3.out).trans (hb6.mono B3.out.size)⟩
            · rw [decide_eq_false k3] at HD
              go_region_held3 (fun w' => w'.cell? ⟨B, 0, none⟩ = some (.string (bs nm)) ∧ w'.cell? ⟨B, 1, none⟩ = some (.string (bs vl)))
                (first
                  | exact ⟨d0.out, d1.out⟩
                  | exact ⟨b0, b1⟩
                  | go_keep)
                (first
                  | (go_at_call 153
                     (with_reducible refine (HK1.out _).mono ?_)
                     rintro e W6 ⟨rfl, rfl⟩)
                  | (go_at_call 153
                     (with_reducible refine (HK2.out _).mono ?_)
                     rintro e W6 ⟨rfl, rfl⟩)
                  | (go_at_call 154
                     (with_reducible refine HD.out.mono ?_)
                     rintro e W6 ⟨rfl, hb6⟩
                     have d0 := hid ((hb6.cell (p := ⟨B, 0, none⟩) (show B < W2.drew.heap.size from hs2 ▸ Nat.lt_succ_self B)).trans b0)
                     have d1 := hid ((hb6.cell (p := ⟨B, 1, none⟩) (show B < W2.drew.heap.size from hs2 ▸ Nat.lt_succ_self B)).trans b1))
                  | fail)
              have B7 := hid ((bel_drew B3.out).trans (hb6.mono B3.out.size))
              have U7 := hid (HSN.out k1 k2 k3)
              clear d0 d1 b0 b1 hb6 HD TD T0 X2 B3
              go_wp2
              go_roundw
              case rel => exact ⟨j + 1, by go_num, by omega, U7, B7⟩
              case measure => simp [intOf]; omega
          · have hK2 := fun W => key_any vl W
            rw [decide_eq_false k2] at hK2
            have HK2 := hid hK2
            clear hK2 x0 x1
            go_quiet (first
              | with_reducible exact quietL (HK1.out _)
              | with_reducible exact quietL (HK2.out _))
            go_wp2
            go_ret
            exact ⟨ret_bool (decide_eq_false (HN1.out (fun h => k2 h.2))).symm, bel_drewN B3.out _⟩
        · have hK1 := fun W => key_any nm W
          rw [decide_eq_false k1] at hK1
          have HK1 := hid hK1
          clear hK1 x0 x1
          go_quiet (with_reducible exact quietL (HK1.out _))
          go_wp2
          go_ret
          exact ⟨ret_bool (decide_eq_false (HN1.out (fun h => k1 h.1))).symm, bel_drewN B3.out _⟩
      · have hjz : ¬ (j : Int) < (n : Int) := by omega
        obtain rfl : j = n := by omega
        go_wp2
        go_ret
        exact ⟨ret_bool (decide_eq_true (right_all (by rw [HLN.out]; exact hn) (by rw [HLN.out]; exact HU.out))).symm, HB.out⟩
  · have hnz : (8 : Int) < (n : Int) := by omega
    go_enter Tryz.func86, Tryz.ntmps86
    go_wp2
    go_ret
    exact ⟨ret_bool (decide_eq_false (fun hr => hn (by have := hr.1; rw [HLN.out] at this; exact this))).symm, Below.refl _ _⟩
end Go.Proofs.YtmifpfojhlmbkaaGreat
