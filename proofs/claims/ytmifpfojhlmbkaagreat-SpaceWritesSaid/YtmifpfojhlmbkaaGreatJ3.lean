/-
  Contracts.
-/
import Derived.Test.YtmifpfojhlmbkaaGreatJ2
namespace Go.Proofs.YtmifpfojhlmbkaaGreat
open Lib (hid)
set_option maxRecDepth 100000
set_option maxHeartbeats 16000000
open Go.RowKit
set_option linter.unusedVariables false
set_option linter.unusedSimpArgs false
inductive Role where
  | labs : Role
  | nams : Role
  | vals : Tx → Role
  | keys : Tx → Tx → Role
def Role.inN : Role → Prop
  | .labs => False
  | _ => True
abbrev Rho := Nat → Option Role
def Rho.upd (ρ : Rho) (b : Nat) (r : Role) : Rho := fun i => if i = b then some r else ρ i
theorem upd_same (ρ : Rho) (b : Nat) (r : Role) : ρ.upd b r b = some r := if_pos rfl
theorem upd_ne (ρ : Rho) {b i : Nat} (r : Role) (h : i ≠ b) : ρ.upd b r i = ρ i := if_neg h
def RhoOk (w : World) (ρ : Rho) : Prop := ∀ i r, ρ i = some r → ∃ es c, w.heap[i]? = some (.map es c)
theorem RhoOk.lt {w : World} {ρ : Rho} (h : RhoOk w ρ) {i : Nat} {r : Role} (e : ρ i = some r) : i < w.heap.size := by
  obtain ⟨es, c, hb⟩ := h i r e
  exact heap_lt hb
def RExt (w : World) (ρ ρ' : Rho) : Prop := ∀ i, i < w.heap.size → ρ' i = ρ i
theorem RExt.refl (w : World) (ρ : Rho) : RExt w ρ ρ := fun _ _ => rfl
theorem RExt.upd {w : World} {ρ : Rho} {b : Nat} (r : Role) (hb : w.heap.size ≤ b) : RExt w ρ (ρ.upd b r) := fun i hi => upd_ne ρ r (by omega)
theorem RExt.trans {w w' : World} {a b c : Rho} (h : RExt w a b) (k : RExt w' b c) (hs : w.heap.size ≤ w'.heap.size) : RExt w a c := fun i hi => (k i (by omega)).trans (h i hi)
def FV (ρ : Rho) (n : Tx) : Nat → Prop := fun i => ρ i = some (.vals n) ∨ ∃ v, ρ i = some (.keys n v)
def FN (ρ : Rho) : Nat → Prop := fun i => ∃ r, ρ i = some r ∧ r.inN
def FA (ρ : Rho) : Nat → Prop := fun i => ρ i ≠ none
theorem FV.n {ρ : Rho} {n : Tx} {i : Nat} (h : FV ρ n i) : FN ρ i := by
  rcases h with h | ⟨v, h⟩
  · exact ⟨_, h, trivial⟩
  · exact ⟨_, h, trivial⟩
theorem FN.a {ρ : Rho} {i : Nat} (h : FN ρ i) : FA ρ i := by
  obtain ⟨r, h, _⟩ := h
  unfold FA
  rw [h]; simp
theorem RhoOk.turn {w w' : World} {ρ : Rho} {b : Nat} (h : RhoOk w ρ) (g : w.grownBy w' (some b)) (hb : ∃ es c, w'.heap[b]? = some (.map es c)) : RhoOk w' ρ := by
  intro i r e
  by_cases hi : i = b
  · subst hi; exact hb
  · obtain ⟨es, c, k⟩ := h i r e
    exact ⟨es, c, (g.block i (heap_lt k) (by simpa using hi)).trans k⟩
theorem RhoOk.keep {w w' : World} {ρ : Rho} (h : RhoOk w ρ) (hb : Below w.heap.size w w') : RhoOk w' ρ := fun i r e => by
  obtain ⟨es, c, k⟩ := h i r e
  exact ⟨es, c, (hb.block i (heap_lt k)).trans k⟩
theorem RhoOk.upd {w : World} {ρ : Rho} {b : Nat} {r : Role} (h : RhoOk w ρ) (hb : ∃ es c, w.heap[b]? = some (.map es c)) : RhoOk w (ρ.upd b r) := by
  intro i q e
  by_cases hi : i = b
  · subst hi; exact hb
  · rw [upd_ne ρ r hi] at e; exact h i q e
def KeysAt (w : World) (c : Nat) (S : Tx → Prop) : Prop := ∃ L, MapAt w c L ∧ (∀ p ∈ L, p.2 = .agg #[]) ∧ ∀ k, k ∈ keysL L ↔ S k
def ValsAt (w : World) (b : Nat) (ρ : Rho) (n : Tx) (S : Tx → Tx → Prop) : Prop :=
  ∃ (K : Tx → Option Nat) (L : List (Tx × Value)), MapAt w b L ∧ (∀ v, look L v = (K v).map mp) ∧ (∀ v c, K v = some c → ρ c = some (.keys n v) ∧ KeysAt w c (S v)) ∧ (∀ v k, S v k → ∃ c, K v = some c)
def NamsAt (w : World) (b : Nat) (ρ : Rho) (S : Tx → Tx → Tx → Prop) : Prop :=
  ∃ (V : Tx → Option Nat) (L : List (Tx × Value)), MapAt w b L ∧ (∀ n, look L n = (V n).map mp) ∧ (∀ n c, V n = some c → ρ c = some (.vals n) ∧ ValsAt w c ρ n (S n)) ∧ (∀ n v k, S n v k → ∃ c, V n = some c)
theorem KeysAt.same {w w' : World} {c : Nat} {S S' : Tx → Prop} (h : KeysAt w c S) (e : w'.heap[c]? = w.heap[c]?) (hS : ∀ k, S k ↔ S' k) : KeysAt w' c S' := by
  obtain ⟨L, h1, h2, h3⟩ := h
  exact ⟨L, h1.same e, h2, fun k => by rw [h3, hS]⟩
theorem KeysAt.lt {w : World} {c : Nat} {S : Tx → Prop} (h : KeysAt w c S) : c < w.heap.size := by
  obtain ⟨L, h1, _⟩ := h
  exact h1.lt
theorem ValsAt.lt {w : World} {b : Nat} {ρ : Rho} {n : Tx} {S : Tx → Tx → Prop} (h : ValsAt w b ρ n S) : b < w.heap.size := by
  obtain ⟨K, L, h1, _⟩ := h
  exact h1.lt
theorem ValsAt.same {w w' : World} {b : Nat} {ρ ρ' : Rho} {n : Tx} {S S' : Tx → Tx → Prop} (h : ValsAt w b ρ n S) (hb : w'.heap[b]? = w.heap[b]?) (hr : RExt w ρ ρ')
    (hk : ∀ c v, c < w.heap.size → ρ c = some (.keys n v) → w'.heap[c]? = w.heap[c]?) (hS : ∀ v k, S v k ↔ S' v k) : ValsAt w' b ρ' n S' := by
  obtain ⟨K, L, h1, h2, h3, h4⟩ := h
  refine ⟨K, L, h1.same hb, h2, fun v c e => ?_, fun v k e => h4 v k ((hS v k).2 e)⟩
  obtain ⟨r, q⟩ := h3 v c e
  have hc := q.lt
  exact ⟨(hr c hc).trans r, q.same (hk c v hc r) (hS v)⟩
theorem NamsAt.lt {w : World} {b : Nat} {ρ : Rho} {S : Tx → Tx → Tx → Prop} (h : NamsAt w b ρ S) : b < w.heap.size := by
  obtain ⟨K, L, h1, _⟩ := h
  exact h1.lt
theorem NamsAt.same {w w' : World} {b : Nat} {ρ ρ' : Rho} {S S' : Tx → Tx → Tx → Prop} (h : NamsAt w b ρ S) (hb : w'.heap[b]? = w.heap[b]?) (hr : RExt w ρ ρ')
    (hk : ∀ c, c < w.heap.size → FN ρ c → w'.heap[c]? = w.heap[c]?) (hS : ∀ n v k, S n v k ↔ S' n v k) : NamsAt w' b ρ' S' := by
  obtain ⟨V, L, h1, h2, h3, h4⟩ := h
  refine ⟨V, L, h1.same hb, h2, fun n c e => ?_, fun n v k e => h4 n v k ((hS n v k).2 e)⟩
  obtain ⟨r, q⟩ := h3 n c e
  have hc := q.lt
  exact ⟨(hr c hc).trans r, q.same (hk c hc ⟨_, r, trivial⟩) hr (fun d v hd e => hk d hd ⟨_, e, trivial⟩) (hS n)⟩
theorem KeysAt.put {w : World} {c : Nat} {S S' : Tx → Prop} {L : List (Tx × Value)} {k : Tx} (h : MapAt w c (ups L k (.agg #[]))) (h2 : ∀ p ∈ L, p.2 = .agg #[]) (h3 : ∀ k, k ∈ keysL L ↔ S k) (hS : ∀ x, S' x ↔ x = k ∨ S x) : KeysAt w c S' := by
  refine ⟨_, h, fun p hp => ?_, fun x => by rw [keys_ups, h3, hS]⟩
  have hn := h.nodup
  by_cases e : p.1 = k
  · have e1 := mem_look hn (show (p.1, p.2) ∈ _ from hp)
    rw [e, look_ups_same] at e1
    simpa using e1.symm
  · have e1 := mem_look hn (show (p.1, p.2) ∈ _ from hp)
    rw [look_ups_ne _ e] at e1
    exact h2 _ (look_mem e1)
theorem vput_old {w w' : World} {b c : Nat} {ρ : Rho} {n v k : Tx} {S : Tx → Tx → Prop} {K : Tx → Option Nat} {L Lc : List (Tx × Value)} (hb : ρ b = some (.vals n))
    (h1 : MapAt w b L) (h2 : ∀ v, look L v = (K v).map mp) (h3 : ∀ v c, K v = some c → ρ c = some (.keys n v) ∧ KeysAt w c (S v)) (h4 : ∀ v k, S v k → ∃ c, K v = some c) (hc : K v = some c)
    (c2 : ∀ p ∈ Lc, p.2 = .agg #[]) (c3 : ∀ k, k ∈ keysL Lc ↔ S v k) (hm : MapAt w' c (ups Lc k (.agg #[]))) (g : w.grownBy w' (some c)) : ValsAt w' b ρ n (fun x y => S x y ∨ (x = v ∧ y = k)) := by
  obtain ⟨rc, qc⟩ := h3 v c hc
  refine ⟨K, L, h1.gb g (fun e => ?_), h2, fun x d e => ?_, fun x y e => ?_⟩
  · simp only [Option.some.injEq] at e
    rw [e, rc] at hb; simp at hb
  · obtain ⟨r, q⟩ := h3 x d e
    refine ⟨r, ?_⟩
    by_cases hd : d = c
    · subst hd
      rw [rc] at r
      simp only [Option.some.injEq, Role.keys.injEq] at r
      obtain ⟨_, rfl⟩ := r
      exact KeysAt.put hm c2 c3 (fun y => by simp only [true_and]; exact or_comm)
    · refine q.same (g.block d q.lt (by simpa using hd)) (fun y => ?_)
      have hx : x ≠ v := fun e' => by
        subst e'
        rw [hc] at e
        exact hd (by simpa using e.symm)
      simp [hx]
  · rcases e with e | ⟨rfl, rfl⟩
    · exact h4 x y e
    · exact ⟨c, hc⟩
theorem vput_new {w w2 w3 : World} {b : Nat} {ρ : Rho} {n v k : Tx} {S : Tx → Tx → Prop} {K : Tx → Option Nat} {L : List (Tx × Value)} (hok : RhoOk w ρ) (hb : ρ b = some (.vals n))
    (h2 : ∀ v, look L v = (K v).map mp) (h3 : ∀ v c, K v = some c → ρ c = some (.keys n v) ∧ KeysAt w c (S v)) (h4 : ∀ v k, S v k → ∃ c, K v = some c) (hc : K v = none)
    (hm2 : MapAt w2 b (ups L v (mp w.heap.size))) (g2 : (w.alloc (.map #[] 0)).grownBy w2 (some b)) (hm3 : MapAt w3 w.heap.size (ups [] k (.agg #[]))) (g3 : w2.grownBy w3 (some w.heap.size)) :
    ValsAt w3 b (ρ.upd w.heap.size (.keys n v)) n (fun x y => S x y ∨ (x = v ∧ y = k)) := by
  have hbs := hok.lt hb
  have s1 : (w.alloc (.map #[] 0)).heap.size = w.heap.size + 1 := by simp
  have s2 := g2.size
  refine ⟨fun x => if x = v then some w.heap.size else K x, _, hm2.gb g3 (by simp; omega), fun x => ?_, fun x d e => ?_, fun x y e => ?_⟩
  · dsimp only
    by_cases hx : x = v
    · subst hx; rw [look_ups_same, if_pos rfl]; rfl
    · rw [look_ups_ne _ hx, if_neg hx]; exact h2 x
  · dsimp only at e
    by_cases hx : x = v
    · subst hx
      rw [if_pos rfl] at e
      simp only [Option.some.injEq] at e
      subst e
      refine ⟨upd_same .., KeysAt.put (S := fun _ => False) hm3 (by simp) (by simp [keysL]) (fun y => ?_)⟩
      have : ¬ S x y := fun s => by obtain ⟨c, e⟩ := h4 x y s; rw [hc] at e; cases e
      simp [this]
    · rw [if_neg hx] at e
      obtain ⟨r, q⟩ := h3 x d e
      have hd := q.lt
      have hdb : d ≠ b := fun e' => by rw [e', hb] at r; simp at r
      refine ⟨by rw [upd_ne _ _ (by omega)]; exact r, q.same ?_ (fun y => by simp [hx])⟩
      rw [g3.block d (by omega) (by simp; omega), g2.block d (by omega) (by simpa using hdb), Below.heap_alloc _ _ _ hd]
  · dsimp only
    by_cases hx : x = v
    · exact ⟨_, by rw [if_pos hx]⟩
    · rcases e with e | e
      · obtain ⟨c, hc⟩ := h4 x y e
        exact ⟨c, by rw [if_neg hx]; exact hc⟩
      · exact absurd e.1 hx
theorem vput_ok (w : World) (b : Nat) (ρ : Rho) (n v k : Tx) (S : Tx → Tx → Prop) (h : ValsAt w b ρ n S) (hb : ρ b = some (.vals n)) (hok : RhoOk w ρ) :
    Calls Tryz.prog 261 #[mp b, .string (bs v), .string (bs k)] w fun e w' => e = .returned (.tuple #[]) ∧
      ∃ ρ', ValsAt w' b ρ' n (fun x y => S x y ∨ (x = v ∧ y = k)) ∧ RhoOk w' ρ' ∧ RExt w ρ ρ' ∧ Trn (FV ρ n) w w' := by
  have hmm := @run_makeMap Tryz.prog
  have heq := fun (r : Option Nat) (W : World) => run_eql_map_nil W 290 _ _ r Tryz.underlying290
  obtain ⟨K, L, h1, h2, h3, h4⟩ := h
  have H1 := hid h1
  cases hc : K v with
  | some c =>
    obtain ⟨rc, Lc, c1, c2, c3⟩ := h3 v c hc
    have hl : (look L v).getD (.map none) = mp c := by rw [h2, hc]; rfl
    have C1 := hid c1
    have HE := hid (fun w' hm g => vput_old (w' := w') (k := k) hb h1 h2 h3 h4 hc c2 c3 hm g)
    have HF := hid (show FV ρ n c from .inr ⟨v, rc⟩)
    clear h1 h2 h3 h4 c1 c2 c3 hb
    go_enter Tryz.func261, Tryz.ntmps261
    go_wp2_with (first
      | (at_lookup; refine wpList_lookup_m _ rfl _ _ 251 rfl 9 290 Tryz.underlying251 Tryz.underlying9 _ (Tryz.zeroValue290 _) b L rfl H1.out v _ rfl rfl _ hl ?_)
      | (at_mapUpdate; refine wpList_mapUpdate_m _ rfl _ _ _ 290 rfl 9 323 Tryz.underlying290 Tryz.underlying9 c Lc rfl C1.out k _ rfl rfl _ rfl ?_; intro w' hm g hs))
    go_end0
    exact ⟨rfl, ρ, HE.out _ hm g, hok.turn g hm.isMap, .refl _ _, .map g HF.out C1.out.isMap⟩
  | none =>
    have hl : (look L v).getD (.map none) = .map none := by rw [h2, hc]; rfl
    have hl2 : (look (ups L v (mp w.heap.size)) v).getD (.map none) = mp w.heap.size := by rw [look_ups_same]; rfl
    have HE := hid (fun w2 w3 hm2 g2 hm3 g3 => vput_new (w2 := w2) (w3 := w3) (k := k) hok hb h2 h3 h4 hc hm2 g2 hm3 g3)
    have HB : Hid (b < w.heap.size) := hid h1.lt
    have HF := hid (show FV ρ n b from .inl hb)
    have B1 := (Below.refl w.heap.size w).alloc (Nat.le_refl _) (.map #[] 0)
    have H1' := hid (h1.keep B1)
    have M1 := hid (MapAt.new w)
    have HR := hid (hok.keep B1)
    have HT := hid (Trn.of (F := FV ρ n) B1)
    clear h1 h2 h3 h4 hb B1
    go_enter Tryz.func261, Tryz.ntmps261
    go_wp2_with (first
      | (at_lookup; refine wpList_lookup_m _ rfl _ _ 251 rfl 9 290 Tryz.underlying251 Tryz.underlying9 _ (Tryz.zeroValue290 _) b L rfl H1.out v _ rfl rfl _ hl ?_; clear H1)
      | (at_mapUpdate; refine wpList_mapUpdate_m _ rfl _ _ _ 251 rfl 9 290 Tryz.underlying251 Tryz.underlying9 b L rfl H1'.out v _ rfl rfl (mp w.heap.size) rfl ?_; intro w2 hm2 g2 hs2; have M2 := hid (M1.out.gb g2 (by have := HB.out; simp; omega)); have R2 := hid (HR.out.turn g2 hm2.isMap); have T2 := hid (HT.out.trans (G := FV ρ n) (.map g2 HF.out H1'.out.isMap) (fun i _ h => h)); have HM2 := hid hm2; have G2 := hid g2; clear hm2 g2 H1' M1 HR HT hs2)
      | (at_lookup; refine wpList_lookup_m _ rfl _ _ 251 rfl 9 290 Tryz.underlying251 Tryz.underlying9 _ (Tryz.zeroValue290 _) b _ rfl HM2.out v _ rfl rfl _ hl2 ?_)
      | (at_mapUpdate; refine wpList_mapUpdate_m _ rfl _ _ _ 290 rfl 9 323 Tryz.underlying290 Tryz.underlying9 w.heap.size [] rfl M2.out k _ rfl rfl (.agg #[]) rfl ?_; intro w3 hm3 g3 hs3))
    go_end0
    refine ⟨rfl, ρ.upd w.heap.size (.keys n v), HE.out _ _ HM2.out G2.out hm3 g3, (R2.out.turn g3 hm3.isMap).upd hm3.isMap, .upd _ (Nat.le_refl _), ?_⟩
    exact T2.out.trans (G := fun i => i = w.heap.size) (.map g3 rfl M2.out.isMap) (fun i hi e => by omega)
theorem nams_put {w w' : World} {b : Nat} {ρ ρ' : Rho} {n : Tx} {S S' : Tx → Tx → Tx → Prop} {S1 : Tx → Tx → Prop} {V V' : Tx → Option Nat} {L' : List (Tx × Value)} (hbn : ρ b = some .nams)
    (h3 : ∀ m d, m ≠ n → V m = some d → ρ d = some (.vals m) ∧ ValsAt w d ρ m (S m)) (h4 : ∀ m x y, S m x y → ∃ d, V m = some d)
    (hblk : ∀ i, i < w.heap.size → ¬ FV ρ n i → i ≠ b → w'.heap[i]? = w.heap[i]?) (hr : RExt w ρ ρ') (hV : ∀ m, m ≠ n → V' m = V m)
    (hn : (∃ c, V' n = some c ∧ ρ' c = some (.vals n) ∧ ValsAt w' c ρ' n S1) ∨ (V' n = none ∧ ∀ x y, ¬ S1 x y)) (hm : MapAt w' b L') (hl : ∀ m, look L' m = (V' m).map mp)
    (hS1 : ∀ x y, S' n x y ↔ S1 x y) (hS2 : ∀ m x y, m ≠ n → (S' m x y ↔ S m x y)) : NamsAt w' b ρ' S' := by
  refine ⟨V', L', hm, hl, fun m d e => ?_, fun m x y e => ?_⟩
  · by_cases hmn : m = n
    · subst hmn
      rcases hn with ⟨c', e1, e2, e3⟩ | ⟨e1, _⟩
      · rw [e1] at e
        simp only [Option.some.injEq] at e
        subst e
        exact ⟨e2, e3.same rfl (.refl _ _) (fun _ _ _ _ => rfl) (fun x y => (hS1 x y).symm)⟩
      · rw [e1] at e; cases e
    · rw [hV m hmn] at e
      obtain ⟨r, q⟩ := h3 m d hmn e
      have nf : ∀ i x, (ρ i = some (.vals m) ∨ ρ i = some (.keys m x)) → ¬ FV ρ n i ∧ i ≠ b := by
        rintro i x (h | h)
        · exact ⟨fun f => by rcases f with f | ⟨y, f⟩ <;> rw [h] at f <;> simp at f; exact hmn f, fun e => by rw [e, hbn] at h; simp at h⟩
        · exact ⟨fun f => by rcases f with f | ⟨y, f⟩ <;> rw [h] at f <;> simp at f; exact hmn f.1, fun e => by rw [e, hbn] at h; simp at h⟩
      have hd := q.lt
      refine ⟨(hr d hd).trans r, q.same (hblk d hd (nf d [] (.inl r)).1 (nf d [] (.inl r)).2) hr (fun i x hi k => hblk i hi (nf i x (.inr k)).1 (nf i x (.inr k)).2) (fun x y => (hS2 m x y hmn).symm)⟩
  · by_cases hmn : m = n
    · subst hmn
      rcases hn with ⟨c', e1, _⟩ | ⟨_, e2⟩
      · exact ⟨c', e1⟩
      · exact absurd ((hS1 x y).1 e) (e2 x y)
    · obtain ⟨d, hd⟩ := h4 m x y ((hS2 m x y hmn).1 e)
      exact ⟨d, by rw [hV m hmn]; exact hd⟩
theorem vals_empty {w : World} {c : Nat} {ρ : Rho} {n : Tx} (h : MapAt w c []) : ValsAt w c ρ n (fun _ _ => False) :=
  ⟨fun _ => none, [], h, fun _ => rfl, fun _ _ e => by (cases e), fun _ _ e => e.elim⟩
def BoxL (w : World) (B : Nat) (n v : Tx) : Prop := w.heap[B]? = some (.cells #[.string (bs n), .string (bs v)] 100 (0, 0))
theorem BoxL.x0 {w : World} {B : Nat} {n v : Tx} (h : BoxL w B n v) : w.cell? ⟨B, 0, none⟩ = some (.string (bs n)) := by rw [cell_of h]; rfl
theorem BoxL.x1 {w : World} {B : Nat} {n v : Tx} (h : BoxL w B n v) : w.cell? ⟨B, 1, none⟩ = some (.string (bs v)) := by rw [cell_of h]; rfl
theorem BoxL.trn {F : Nat → Prop} {w w' : World} {B : Nat} {n v : Tx} (h : BoxL w B n v) (t : Trn F w w') : BoxL w' B n v := t.cells _ _ _ _ h
theorem nput_ok (w : World) (b : Nat) (ρ : Rho) (n v k : Tx) (S : Tx → Tx → Tx → Prop) (h : NamsAt w b ρ S) (hb : ρ b = some .nams) (hok : RhoOk w ρ) :
    Calls Tryz.prog 198 #[mp b, .agg #[.string (bs n), .string (bs v)], .string (bs k)] w fun e w' => e = .returned (.tuple #[]) ∧
      ∃ ρ', NamsAt w' b ρ' (fun m x y => S m x y ∨ (m = n ∧ x = v ∧ y = k)) ∧ RhoOk w' ρ' ∧ RExt w ρ ρ' ∧ Trn (FN ρ) w w' := by
  have hmm := @run_makeMap Tryz.prog
  have heq := fun (r : Option Nat) (W : World) => run_eql_map_nil W 251 _ _ r Tryz.underlying251
  have B1 := (Below.refl w.heap.size w).alloc (Nat.le_refl _) (.cells #[.string (bs n), .string (bs v)] 100)
  have X1 := hid (show BoxL (w.alloc (.cells #[.string (bs n), .string (bs v)] 100)) w.heap.size n v from heap_new w _)
  have HW : Hid (b < w.heap.size) := hid h.lt
  have R1 := hid (hok.keep B1)
  have N1 : NamsAt (w.alloc (.cells #[.string (bs n), .string (bs v)] 100)) b ρ S := h.same (B1.block b h.lt) (.refl _ _) (fun c hc _ => B1.block c hc) (fun _ _ _ => Iff.rfl)
  have T1 := hid (Trn.of (F := FN ρ) B1)
  have SZ : Hid ((w.alloc (.cells #[.string (bs n), .string (bs v)] 100)).heap.size = w.heap.size + 1) := hid (by simp)
  clear B1 h
  obtain ⟨V, L, h1, h2, h3, h4⟩ := N1
  have H1 := hid h1
  cases hc : V n with
  | some c =>
    obtain ⟨rc, qc⟩ := h3 n c hc
    have hl : (look L n).getD (.map none) = mp c := by rw [h2, hc]; rfl
    have HE := hid (fun (w' : World) (ρ' : Rho) (hv : ValsAt w' c ρ' n (fun x y => S n x y ∨ (x = v ∧ y = k))) (hr : RExt (w.alloc (.cells #[.string (bs n), .string (bs v)] 100)) ρ ρ') (ht : Trn (FV ρ n) (w.alloc (.cells #[.string (bs n), .string (bs v)] 100)) w') =>
      nams_put (V := V) (V' := V) (S' := fun m x y => S m x y ∨ (m = n ∧ x = v ∧ y = k)) hb (fun m d _ e => h3 m d e) h4 (fun i hi hf _ => ht.block i hi hf) hr (fun _ _ => rfl) (.inl ⟨c, hc, (hr c qc.lt).trans rc, hv⟩) (h1.same (ht.block b h1.lt (fun f => by rcases f with f | ⟨y, f⟩ <;> rw [hb] at f <;> simp at f))) h2
        (fun x y => by simp) (fun m x y hm => by simp [hm]))
    have QC := hid qc
    have RC := hid rc
    have x0 := X1.out.x0
    have x1 := X1.out.x1
    clear h1 h2 h3 h4 qc hb hok rc
    go_enter Tryz.func198, Tryz.ntmps198
    go_wp2_with (first
      | (at_lookup; refine wpList_lookup_m _ rfl _ _ 170 rfl 9 251 Tryz.underlying170 Tryz.underlying9 _ (Tryz.zeroValue251 _) b L rfl H1.out n _ rfl rfl _ hl ?_))
    refine (vput_ok _ c ρ n v k (S n) QC.out RC.out R1.out).mono ?_
    rintro e w' ⟨rfl, ρ', a1, a2, a3, a4⟩
    have HF := hid (HE.out w' ρ' a1 a3 a4)
    have A2 := hid a2
    have A3 := hid a3
    have A4 := hid a4
    clear a1 a2 a3 a4 x0 x1 H1 X1 QC
    go_wp2
    go_end0
    exact ⟨rfl, ρ', HF.out, A2.out, fun i hi => A3.out i (by have := SZ.out; omega), T1.out.trans A4.out (fun i _ f => f.n)⟩
  | none =>
    have hl : (look L n).getD (.map none) = .map none := by rw [h2, hc]; rfl
    have hl2 : (look (ups L n (mp (w.heap.size + 1))) n).getD (.map none) = mp (w.heap.size + 1) := by rw [look_ups_same]; rfl
    have B2 := (Below.refl (w.alloc (.cells #[.string (bs n), .string (bs v)] 100)).heap.size (w.alloc (.cells #[.string (bs n), .string (bs v)] 100))).alloc (Nat.le_refl _) (.map #[] 0)
    have HE := hid (fun (w3 w' : World) (ρ' : Rho) (hm3 : MapAt w3 b (ups L n (mp (w.heap.size + 1)))) (g3 : ((w.alloc (.cells #[.string (bs n), .string (bs v)] 100)).alloc (.map #[] 0)).grownBy w3 (some b)) (hv : ValsAt w' (w.heap.size + 1) ρ' n (fun x y => False ∨ (x = v ∧ y = k))) (hr : RExt w3 (ρ.upd (w.heap.size + 1) (.vals n)) ρ') (ht : Trn (FV (ρ.upd (w.heap.size + 1) (.vals n)) n) w3 w') =>
      nams_put (V := V) (V' := fun m => if m = n then some (w.heap.size + 1) else V m) (L' := ups L n (mp (w.heap.size + 1))) (w' := w') (ρ' := ρ') (S' := fun m x y => S m x y ∨ (m = n ∧ x = v ∧ y = k)) hb (fun m d _ e => h3 m d e) h4
        (fun i hi hf hib => by
          have s1 := SZ.out
          have s3 := g3.size
          simp only [World.size_alloc] at s3
          rw [ht.block i (by omega) (fun f => hf (by
            rcases f with f | ⟨y, f⟩
            · rw [upd_ne _ _ (by omega)] at f; exact .inl f
            · rw [upd_ne _ _ (by omega)] at f; exact .inr ⟨y, f⟩)), g3.block i (by simp only [World.size_alloc]; omega) (by simpa using hib)]
          exact B2.block i hi)
        (fun i hi => by
          have s1 := SZ.out
          have s3 := g3.size
          simp only [World.size_alloc] at s3
          rw [hr i (by omega), upd_ne _ _ (by omega)])
        (fun m hm => if_neg hm) (.inl ⟨w.heap.size + 1, if_pos rfl, by
          have s1 := SZ.out
          have s3 := g3.size
          simp only [World.size_alloc] at s3
          rw [hr _ (by omega), upd_same], hv⟩) (hm3.same (ht.block b hm3.lt (fun f => by
            have hbl := HW.out
            rcases f with f | ⟨y, f⟩ <;> rw [upd_ne _ _ (by omega), hb] at f <;> simp at f)))
        (fun m => by
          by_cases hm : m = n
          · subst hm; rw [look_ups_same, if_pos rfl]; rfl
          · rw [look_ups_ne _ hm, if_neg hm]; exact h2 m)
        (fun x y => by
          have : ¬ S n x y := fun s => by obtain ⟨d, e⟩ := h4 n x y s; rw [hc] at e; cases e
          simp [this]) (fun m x y hm => by simp [hm]))
    have H1' := hid (h1.keep B2)
    have M1 := hid (MapAt.new (w.alloc (.cells #[.string (bs n), .string (bs v)] 100)))
    have HR := hid (R1.out.keep B2)
    have HB := hid hb
    have x0 := X1.out.x0
    have x1 := X1.out.x1
    have X2 := X1.out.trn (F := fun _ => False) (.of B2)
    have y0 := X2.x0
    have T2 := hid (T1.out.thenB B2)
    clear h1 h2 h3 h4 hb hok B2
    go_enter Tryz.func198, Tryz.ntmps198
    go_wp2_with (first
      | (at_lookup; refine wpList_lookup_m _ rfl _ _ 170 rfl 9 251 Tryz.underlying170 Tryz.underlying9 _ (Tryz.zeroValue251 _) b L rfl H1.out n _ rfl rfl _ hl ?_; clear H1)
      | (at_mapUpdate; refine wpList_mapUpdate_m _ rfl _ _ _ 170 rfl 9 251 Tryz.underlying170 Tryz.underlying9 b L rfl H1'.out n _ rfl rfl (mp (w.heap.size + 1)) rfl ?_; intro w3 hm3 g3 hs3; have X3 := X2.trn (Trn.map (F := fun i => i = b) g3 rfl H1'.out.isMap); have z0 := X3.x0; have z1 := X3.x1; have HM3 := hid hm3; have G3 := hid g3; clear hm3 hs3)
      | (at_lookup; refine wpList_lookup_m _ rfl _ _ 170 rfl 9 251 Tryz.underlying170 Tryz.underlying9 _ (Tryz.zeroValue251 _) b _ rfl HM3.out n _ rfl rfl _ hl2 ?_))
    have M3 : MapAt w3 (w.heap.size + 1) [] := by
      have m := M1.out
      rw [SZ.out] at m
      exact m.gb g3 (by have := HW.out; simp; omega)
    have R3 := hid ((HR.out.turn g3 HM3.out.isMap).upd (r := .vals n) M3.isMap)
    have V3 := hid (vals_empty (ρ := ρ.upd (w.heap.size + 1) (.vals n)) (n := n) M3)
    have T3 := hid (T2.out.trans (G := fun i => i = b) (.map g3 rfl H1'.out.isMap) (fun i _ e => by subst e; exact ⟨_, HB.out, trivial⟩))
    have Z3 := hid g3.size
    clear M3 M1 HR T2 X2 X3 x0 x1 y0 g3 H1'
    refine (vput_ok w3 (w.heap.size + 1) (ρ.upd (w.heap.size + 1) (.vals n)) n v k (fun _ _ => False) V3.out (upd_same ..) R3.out).mono ?_
    rintro e w' ⟨rfl, ρ', a1, a2, a3, a4⟩
    have HF := hid (HE.out w3 w' ρ' HM3.out G3.out a1 a3 a4)
    have A2 := hid a2
    have A3 := hid a3
    have A4 := hid a4
    clear a1 a2 a3 a4 z0 z1 HM3 X1
    go_wp2
    go_end0
    refine ⟨rfl, ρ', HF.out, A2.out, fun i hi => ?_, T3.out.trans A4.out (fun i hi f => ?_)⟩
    · have s1 := SZ.out
      have s3 := Z3.out
      simp only [World.size_alloc] at s3
      rw [A3.out i (by omega), upd_ne _ _ (by omega)]
    · rcases f with f | ⟨y, f⟩
      · rw [upd_ne _ _ (by omega)] at f; exact ⟨_, f, trivial⟩
      · rw [upd_ne _ _ (by omega)] at f; exact ⟨_, f, trivial⟩
def takeV (S : Tx → Tx → Prop) (v k x y : Tx) : Prop := S x y ∧ ¬ (x = v ∧ y = k)
def takeN (S : Tx → Tx → Tx → Prop) (n v k m x y : Tx) : Prop := S m x y ∧ ¬ (m = n ∧ x = v ∧ y = k)
theorem vtake_end {w w1 w2 : World} {b c : Nat} {ρ : Rho} {n v k : Tx} {S : Tx → Tx → Prop} {K : Tx → Option Nat} {L Lc : List (Tx × Value)} (hb : ρ b = some (.vals n))
    (h1 : MapAt w b L) (h2 : ∀ v, look L v = (K v).map mp) (h3 : ∀ v c, K v = some c → ρ c = some (.keys n v) ∧ KeysAt w c (S v)) (h4 : ∀ v k, S v k → ∃ c, K v = some c) (hc : K v = some c)
    (c2 : ∀ p ∈ Lc, p.2 = .agg #[]) (c3 : ∀ k, k ∈ keysL Lc ↔ S v k) (hm : MapAt w1 c (dels Lc k)) (g : w.grownBy w1 (some c))
    (hw : ((dels Lc k).length ≠ 0 ∧ w2 = w1) ∨ ((dels Lc k).length = 0 ∧ MapAt w2 b (dels L v) ∧ w1.grownBy w2 (some b))) : ValsAt w2 b ρ n (takeV S v k) := by
  obtain ⟨rc, qc⟩ := h3 v c hc
  have hcb : b ≠ c := fun e => by rw [← e, hb] at rc; simp at rc
  have hother : ∀ x d, x ≠ v → K x = some d → ρ d = some (.keys n x) ∧ KeysAt w1 d (S x) ∧ d ≠ b := fun x d hx e => by
    obtain ⟨r, q⟩ := h3 x d e
    refine ⟨r, q.same (g.block d q.lt (by simp; exact fun e' => by rw [e', rc] at r; simp at r; exact hx r.symm)) (fun _ => Iff.rfl), fun e' => by rw [e', hb] at r; simp at r⟩
  have hkeys : ∀ y, y ∈ keysL (dels Lc k) ↔ S v y ∧ ¬ y = k := fun y => by rw [keys_dels, c3]
  rcases hw with ⟨hn, rfl⟩ | ⟨hz, hmb, gb⟩
  · refine ⟨K, L, h1.gb g (by simpa using hcb), h2, fun x d e => ?_, fun x y e => h4 x y e.1⟩
    by_cases hx : x = v
    · subst hx
      rw [hc] at e
      simp only [Option.some.injEq] at e
      subst e
      exact ⟨rc, _, hm, fun p hp => c2 p (mem_dels.1 hp).1, fun y => by rw [hkeys, takeV]; simp⟩
    · obtain ⟨r, q, _⟩ := hother x d hx e
      exact ⟨r, q.same rfl (fun y => by simp [takeV, hx])⟩
  · have he : dels Lc k = [] := List.eq_nil_of_length_eq_zero hz
    refine ⟨fun x => if x = v then none else K x, _, hmb, fun x => ?_, fun x d e => ?_, fun x y e => ?_⟩
    · dsimp only
      by_cases hx : x = v
      · subst hx; rw [look_dels_same, if_pos rfl]; rfl
      · rw [look_dels_ne hx, if_neg hx]; exact h2 x
    · dsimp only at e
      by_cases hx : x = v
      · rw [if_pos hx] at e; cases e
      · rw [if_neg hx] at e
        obtain ⟨r, q, hdb⟩ := hother x d hx e
        exact ⟨r, q.same (gb.block d q.lt (by simpa using hdb)) (fun y => by simp [takeV, hx])⟩
    · dsimp only
      by_cases hx : x = v
      · subst hx
        have hy := (hkeys y).2 ⟨e.1, fun e' => e.2 ⟨rfl, e'⟩⟩
        rw [he] at hy
        simp [keysL] at hy
      · rw [if_neg hx]; exact h4 x y e.1
theorem vtake_ok (w : World) (b : Nat) (ρ : Rho) (n v k : Tx) (S : Tx → Tx → Prop) (h : ValsAt w b ρ n S) (hb : ρ b = some (.vals n)) (hok : RhoOk w ρ) (hS : S v k) :
    Calls Tryz.prog 209 #[mp b, .string (bs v), .string (bs k)] w fun e w' => e = .returned (.tuple #[]) ∧
      ValsAt w' b ρ n (takeV S v k) ∧ RhoOk w' ρ ∧ Trn (FV ρ n) w w' := by
  obtain ⟨K, L, h1, h2, h3, h4⟩ := h
  obtain ⟨c, hc⟩ := h4 v k hS
  obtain ⟨rc, Lc, c1, c2, c3⟩ := h3 v c hc
  have hl : (look L v).getD (.map none) = mp c := by rw [h2, hc]; rfl
  have H1 := hid h1
  have C1 := hid c1
  have hcb : b ≠ c := fun e => by rw [← e, hb] at rc; simp at rc
  have HE := hid (fun w1 w2 hm g hw => vtake_end (w1 := w1) (w2 := w2) (k := k) hb h1 h2 h3 h4 hc c2 c3 hm g hw)
  have HFc := hid (show FV ρ n c from .inr ⟨v, rc⟩)
  have HFb := hid (show FV ρ n b from .inl hb)
  clear h1 h2 h3 h4 c1 c2 c3 hb hc hS
  obtain ⟨m, hm0⟩ : ∃ m, (dels Lc k).length = m := ⟨_, rfl⟩
  by_cases hz : m = 0
  · have hzb : ((m : Int) == 0) = true := by rw [hz]; rfl
    have HZ := hid hz
    clear hz
    go_enter Tryz.func209, Tryz.ntmps209
    go_wp2_with (first
      | (at_lookup; refine wpList_lookup_m _ rfl _ _ 251 rfl 9 290 Tryz.underlying251 Tryz.underlying9 _ (Tryz.zeroValue290 _) b L rfl H1.out v _ rfl rfl _ hl ?_)
      | (at_delete; refine wpList_delete_m _ rfl _ _ 290 9 rfl 323 Tryz.underlying290 Tryz.underlying9 c Lc rfl C1.out k _ rfl rfl ?_; intro w1 hm1 g1 hs1; have HM1 := hid hm1; have G1 := hid g1; have H2 := hid (H1.out.gb g1 (by simpa using hcb)); have T1 := hid (Trn.map (F := FV ρ n) g1 HFc.out C1.out.isMap); have R1 := hid (hok.turn g1 hm1.isMap); clear hm1 g1 hs1 C1)
      | (at_len; refine wpList_len_m _ rfl _ 290 rfl 9 323 Tryz.underlying290 c _ rfl HM1.out m hm0 ?_)
      | (at_delete; refine wpList_delete_m _ rfl _ _ 251 9 rfl 290 Tryz.underlying251 Tryz.underlying9 b L rfl H2.out v _ rfl rfl ?_; intro w2 hm2 g2 hs2; have HM2 := hid hm2; have G2 := hid g2; have T2 := hid (T1.out.trans (Trn.map (F := FV ρ n) g2 HFb.out H2.out.isMap) (fun _ _ h => h)); have R2 := hid (R1.out.turn g2 hm2.isMap); clear hm2 g2 hs2))
    go_end0
    exact ⟨rfl, HE.out _ _ HM1.out G1.out (.inr ⟨hm0.trans HZ.out, HM2.out, G2.out⟩), R2.out, T2.out⟩
  · have hzb : ((m : Int) == 0) = false := by rw [beq_eq_false_iff_ne]; omega
    have HZ := hid hz
    clear hz
    go_enter Tryz.func209, Tryz.ntmps209
    go_wp2_with (first
      | (at_lookup; refine wpList_lookup_m _ rfl _ _ 251 rfl 9 290 Tryz.underlying251 Tryz.underlying9 _ (Tryz.zeroValue290 _) b L rfl H1.out v _ rfl rfl _ hl ?_)
      | (at_delete; refine wpList_delete_m _ rfl _ _ 290 9 rfl 323 Tryz.underlying290 Tryz.underlying9 c Lc rfl C1.out k _ rfl rfl ?_; intro w1 hm1 g1 hs1; have HM1 := hid hm1; have G1 := hid g1; have T1 := hid (Trn.map (F := FV ρ n) g1 HFc.out C1.out.isMap); have R1 := hid (hok.turn g1 hm1.isMap); clear hm1 g1 hs1)
      | (at_len; refine wpList_len_m _ rfl _ 290 rfl 9 323 Tryz.underlying290 c _ rfl HM1.out m hm0 ?_))
    go_end0
    exact ⟨rfl, HE.out _ _ HM1.out G1.out (.inl ⟨fun e => HZ.out (hm0.symm.trans e), rfl⟩), R1.out, T1.out⟩
theorem ntake_ok (w : World) (b : Nat) (ρ : Rho) (n v k : Tx) (S : Tx → Tx → Tx → Prop) (h : NamsAt w b ρ S) (hb : ρ b = some .nams) (hok : RhoOk w ρ) (hS : S n v k) :
    Calls Tryz.prog 141 #[mp b, .agg #[.string (bs n), .string (bs v)], .string (bs k)] w fun e w' => e = .returned (.tuple #[]) ∧
      NamsAt w' b ρ (takeN S n v k) ∧ RhoOk w' ρ ∧ Trn (FN ρ) w w' := by
  have B1 := (Below.refl w.heap.size w).alloc (Nat.le_refl _) (.cells #[.string (bs n), .string (bs v)] 100)
  have X1 := hid (show BoxL (w.alloc (.cells #[.string (bs n), .string (bs v)] 100)) w.heap.size n v from heap_new w _)
  have R1 := hid (hok.keep B1)
  have N1 : NamsAt (w.alloc (.cells #[.string (bs n), .string (bs v)] 100)) b ρ S := h.same (B1.block b h.lt) (.refl _ _) (fun c hc _ => B1.block c hc) (fun _ _ _ => Iff.rfl)
  have T1 := hid (Trn.of (F := FN ρ) B1)
  clear B1 h hok
  obtain ⟨V, L, h1, h2, h3, h4⟩ := N1
  have H1 := hid h1
  obtain ⟨c, hc⟩ := h4 n v k hS
  obtain ⟨rc, qc⟩ := h3 n c hc
  have hl : (look L n).getD (.map none) = mp c := by rw [h2, hc]; rfl
  have HE := hid (fun (w' w2 : World) (hT : Trn (FV ρ n) (w.alloc (.cells #[.string (bs n), .string (bs v)] 100)) w')
      (hw : (w2 = w' ∧ ValsAt w2 c ρ n (takeV (S n) v k)) ∨ ((∀ x y, ¬ takeV (S n) v k x y) ∧ MapAt w2 b (dels L n) ∧ w'.grownBy w2 (some b))) =>
    show NamsAt w2 b ρ (takeN S n v k) from by
      have fb : ¬ FV ρ n b := fun f => by rcases f with f | ⟨y, f⟩ <;> rw [hb] at f <;> simp at f
      rcases hw with ⟨rfl, hv⟩ | ⟨hno, hm, g⟩
      · exact nams_put (V := V) (V' := V) hb (fun m d _ e => h3 m d e) h4 (fun i hi hf _ => hT.block i hi hf) (.refl _ _) (fun _ _ => rfl) (.inl ⟨c, hc, rc, hv⟩) (h1.same (hT.block b h1.lt fb)) h2
          (fun x y => by simp [takeN, takeV]) (fun m x y hm => by simp [takeN, hm])
      · exact nams_put (V := V) (V' := fun m => if m = n then none else V m) (L' := dels L n) hb (fun m d _ e => h3 m d e) h4 (fun i hi hf hib => (g.block i (Nat.lt_of_lt_of_le hi hT.size) (by simpa using hib)).trans (hT.block i hi hf)) (.refl _ _) (fun m hm => if_neg hm)
          (.inr ⟨if_pos rfl, hno⟩) hm
          (fun m => by
            by_cases e : m = n
            · subst e; rw [look_dels_same, if_pos rfl]; rfl
            · rw [look_dels_ne e, if_neg e]; exact h2 m)
          (fun x y => by simp [takeN, takeV]) (fun m x y hm => by simp [takeN, hm]))
  have QC := hid qc
  have RC := hid rc
  have HB := hid hb
  have HS := hid hS
  have x0 := X1.out.x0
  have x1 := X1.out.x1
  have HBL := hid h1.lt
  clear h1 h2 h3 h4 qc rc hc hS
  go_enter Tryz.func141, Tryz.ntmps141
  go_wp2_with (first
    | (at_lookup; refine wpList_lookup_m _ rfl _ _ 170 rfl 9 251 Tryz.underlying170 Tryz.underlying9 _ (Tryz.zeroValue251 _) b L rfl H1.out n _ rfl rfl _ hl ?_))
  refine (vtake_ok _ c ρ n v k (S n) QC.out RC.out R1.out HS.out).mono ?_
  rintro e w' ⟨rfl, a1, a2, a3⟩
  have A1 := hid a1
  have A2 := hid a2
  have A3 := hid a3
  have X3 := X1.out.trn a3
  have z0 := X3.x0
  obtain ⟨K', Lc, c1, c2, c3, c4⟩ := a1
  have C1 := hid c1
  have H3 : Hid (MapAt w' b L) := hid (H1.out.same (a3.block b HBL.out (fun f => by rcases f with f | ⟨y, f⟩ <;> rw [hb] at f <;> simp at f)))
  have T3 := hid (T1.out.trans a3 (fun i _ f => f.n))
  have HK := hid (show Lc.length = 0 → ∀ x y, ¬ takeV (S n) v k x y from fun e x y hxy => by
    obtain ⟨d, hd⟩ := c4 x y hxy
    have hx := c2 x
    rw [List.eq_nil_of_length_eq_zero e, hd] at hx
    cases hx)
  clear a2 a3 c1 c2 c3 c4 x0 x1 X1 hb R1 QC
  obtain ⟨m, hm0⟩ : ∃ m, Lc.length = m := ⟨_, rfl⟩
  by_cases hz : m = 0
  · have hzb : ((m : Int) == 0) = true := by rw [hz]; rfl
    have HZ := hid hz
    clear hz
    go_wp2_with (first
      | (at_len; refine wpList_len_m _ rfl _ 251 rfl 9 290 Tryz.underlying251 c _ rfl C1.out m hm0 ?_)
      | (at_delete; refine wpList_delete_m _ rfl _ _ 170 9 rfl 251 Tryz.underlying170 Tryz.underlying9 b L rfl H3.out n _ rfl rfl ?_; intro w2 hm2 g2 hs2; have HM2 := hid hm2; have G2 := hid g2; have T2 := hid (T3.out.trans (Trn.map (F := fun i => i = b) g2 rfl H3.out.isMap) (fun i _ e => by subst e; exact ⟨_, HB.out, trivial⟩)); have R2 := hid (A2.out.turn g2 hm2.isMap); clear hm2 g2 hs2))
    go_end0
    exact ⟨rfl, HE.out _ _ A3.out (.inr ⟨HK.out (hm0.trans HZ.out), HM2.out, G2.out⟩), R2.out, T2.out⟩
  · have hzb : ((m : Int) == 0) = false := by rw [beq_eq_false_iff_ne]; omega
    clear hz
    go_wp2_with (first
      | (at_len; refine wpList_len_m _ rfl _ 251 rfl 9 290 Tryz.underlying251 c _ rfl C1.out m hm0 ?_))
    go_end0
    exact ⟨rfl, HE.out _ _ A3.out (.inl ⟨rfl, A1.out⟩), A2.out, T3.out⟩
end Go.Proofs.YtmifpfojhlmbkaaGreat
