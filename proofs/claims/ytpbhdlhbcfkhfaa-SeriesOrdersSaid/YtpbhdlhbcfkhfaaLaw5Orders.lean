/-
  The statement 'SeriesOrders' of layer 5: for every samples, those that come in another order make the same series, if all are retained, and the policy is the least, or the greatest one.
  No condition.
-/
import Derived.Test.YtpbhdlhbcfkhfaaSKnown
import Derived.Test.YtpbhdlhbcfkhfaaSOps
import Derived.Test.YtpbhdlhbcfkhfaaSFact
import Derived.ShutString
import Derived.ChangeOld
import Derived.Lib.SmallJoins
namespace Go.Proofs.Ytpbhdlhbcfkhfaa
namespace seriesOrders
open Go.ChangeShapes Go.WideShapes Go.ChangeAt Go.RowKit
set_option linter.unusedVariables false
set_option linter.unusedSimpArgs false

/-- A series that has no retention. -/
def Free (s : Ser) : Prop := s.ret = 0 ∧ s.line = 0
theorem trim_free {s : Ser} (h : Free s) (hz : ∀ u ∈ s.z, 0 ≤ u.1) (hr : Rising s.z) : trimS s = s := by
  have hl : lineS s = 0 := by unfold lineS; rw [h.1, if_neg (by omega)]; exact h.2
  unfold trimS
  rw [hl, drop_all hr (fun u hu => .inr (by have := hz u hu; omega))]
  cases s; simp [Free] at h; simp [h.2]
theorem add_free {s : Ser} (h : Free s) (hS : Std s) (T V p : Int) : addS5 s T V p = if addE s T V p = 0 then ⟨s.ret, s.pol, max s.mx T, s.line, insL s.z T (newV s.z T V (polS s p)).1⟩ else s := by
  unfold addS5
  split
  · rename_i he
    have hT : 0 ≤ T := by
      unfold addE at he
      split at he
      · omega
      · rename_i hb; unfold badS at hb; omega
    refine trim_free ⟨h.1, h.2⟩ ?_ (insL_rising hS.rise _ _)
    intro u hu
    rcases (insL_mem hS.rise _ _ u).1 hu with ⟨hx, _⟩ | rfl
    · exact hS.pos u hx
    · exact hT
  · rfl
theorem free_add {s : Ser} (h : Free s) (hS : Std s) (T V p : Int) : Free (addS5 s T V p) := by
  rw [add_free h hS]; split
  · exact ⟨h.1, h.2⟩
  · exact h
theorem addE_free {s : Ser} (h : Free s) (T V p : Int) (hT0 : 0 ≤ T) (hT1 : T < 1099511627776) (hp : 1 ≤ p ∧ p ≤ 6) : addE s T V p = (newV s.z T V p).2 ∧ polS s p = p := by
  have hq : polS s p = p := by unfold polS; rw [if_neg (by omega)]
  refine ⟨?_, hq⟩
  have hb : ¬ badS s T p := by unfold badS; rw [hq]; omega
  unfold addE
  rw [if_neg hb, if_neg (by rw [h.2]; omega), hq]

theorem own : ownKnob Try.prog.godebug = none := by kernel_rfl
theorem laidOut : laidOutB Try.prog = true := by kernel_rfl

def okT (t : Int) : Prop := 0 ≤ t ∧ t < 1099511627776
def leP (p v u : Int) : Prop := if p = 4 then v ≤ u else u ≤ v
theorem leP_refl (p v : Int) : leP p v v := by unfold leP; split <;> omega
theorem leP_anti {p v u : Int} (h : leP p v u) (k : leP p u v) : v = u := by unfold leP at *; split at h <;> simp_all <;> omega
theorem leP_trans {p v u x : Int} (h : leP p v u) (k : leP p u x) : leP p v x := by unfold leP at *; split at h <;> simp_all <;> omega
/-- The value that the policy leaves at a time. -/
def isBest (p : Int) (l : List (Int × Int)) (t v : Int) : Prop := (t, v) ∈ l ∧ ∀ u, (t, u) ∈ l → leP p v u
def isMx (l : List (Int × Int)) (m : Int) : Prop := -1 ≤ m ∧ (∀ x ∈ l, okT x.1 → x.1 ≤ m) ∧ (m = -1 ∨ ∃ x ∈ l, okT x.1 ∧ x.1 = m)
structure Made (p : Int) (l : List (Int × Int)) (s : Ser) : Prop where
  mem : ∀ t v, (t, v) ∈ s.z ↔ okT t ∧ isBest p l t v
  mx : isMx l s.mx
  free : Free s
  pol : s.pol = p
theorem best_one {p t v u : Int} {l : List (Int × Int)} (h : isBest p l t v) (k : isBest p l t u) : v = u := leP_anti (h.2 u k.1) (k.2 v h.1)
theorem merge_best {p : Int} (hp : p = 4 ∨ p = 5) (a b : Int) : (mergeS p a b).2 = 0 ∧ ((mergeS p a b).1 = a ∨ (mergeS p a b).1 = b) ∧ leP p (mergeS p a b).1 a ∧ leP p (mergeS p a b).1 b := by
  rcases hp with rfl | rfl
  · unfold mergeS leP; simp; omega
  · unfold mergeS leP; simp; omega
theorem Made.add {p : Int} (hp : p = 4 ∨ p = 5) {l : List (Int × Int)} {s : Ser} (h : Made p l s) (hS : Std s) (T V : Int) : Made p (l ++ [(T, V)]) (addS5 s T V 0) := by
  have hq : polS s 0 = p := by unfold polS; rw [if_pos rfl]; exact h.pol
  by_cases hT : okT T
  · have hnb : ¬ badS s T 0 := by unfold badS; rw [hq]; unfold okT at hT; omega
    have hE : addE s T V 0 = (newV s.z T V p).2 := by unfold addE; rw [if_neg hnb, if_neg (by rw [h.free.2]; unfold okT at hT; omega), hq]
    have hB : (newV s.z T V p).2 = 0 ∧ isBest p (l ++ [(T, V)]) T (newV s.z T V p).1 := by
      unfold newV
      by_cases hat : bef s.z T < upt s.z T
      · rw [if_pos hat]
        obtain ⟨h1, h2⟩ := (at_time hS.rise T).1 hat
        obtain ⟨m1, m2, m3, m4⟩ := merge_best hp (vOf s.z (bef s.z T)) V
        have hm : (T, vOf s.z (bef s.z T)) ∈ s.z := by have := at_mem h1; rw [h2] at this; exact this
        obtain ⟨_, hb1, hb2⟩ := (h.mem _ _).1 hm
        refine ⟨m1, ?_, ?_⟩
        · rcases m2 with e | e
          · rw [e]; simp [hb1]
          · rw [e]; simp
        · intro u hu
          rcases List.mem_append.1 hu with hu | hu
          · exact leP_trans m3 (hb2 u hu)
          · simp at hu; subst hu; exact m4
      · rw [if_neg hat]
        refine ⟨rfl, by simp, fun u hu => ?_⟩
        rcases List.mem_append.1 hu with hu | hu
        · exfalso
          -- some value of that time is the best one: it is there
          have : ∃ v, isBest p l T v := by
            clear h hS hq hnb hE hat
            induction l with
            | nil => cases hu
            | cons x l ih =>
              by_cases hex : ∃ w, (T, w) ∈ l
              · obtain ⟨w, hw⟩ := hex
                obtain ⟨v, hv1, hv2⟩ : ∃ v, isBest p l T v := by
                  have key : ∀ (l : List (Int × Int)), (∃ w, (T, w) ∈ l) → ∃ v, isBest p l T v := by
                    intro l
                    induction l with
                    | nil => rintro ⟨w, hw⟩; cases hw
                    | cons y l ih2 =>
                      rintro ⟨w, hw⟩
                      by_cases hex2 : ∃ w, (T, w) ∈ l
                      · obtain ⟨v, hv1, hv2⟩ := ih2 hex2
                        by_cases hy : y.1 = T
                        · obtain ⟨yt, yv⟩ := y
                          simp at hy; subst hy
                          by_cases hle : leP p yv v
                          · exact ⟨yv, by simp, fun u hu => by
                              rcases List.mem_cons.1 hu with e | e
                              · simp at e; subst e; exact leP_refl _ _
                              · exact leP_trans hle (hv2 u e)⟩
                          · refine ⟨v, by simp [hv1], fun u hu => ?_⟩
                            rcases List.mem_cons.1 hu with e | e
                            · simp at e; subst e
                              unfold leP at hle ⊢
                              split at hle <;> simp_all <;> omega
                            · exact hv2 u e
                        · refine ⟨v, by simp [hv1], fun u hu => ?_⟩
                          rcases List.mem_cons.1 hu with e | e
                          · exact absurd (by rw [← e]) hy
                          · exact hv2 u e
                      · rcases List.mem_cons.1 hw with e | e
                        · exact ⟨w, by simp [e], fun u hu => by
                            rcases List.mem_cons.1 hu with e2 | e2
                            · rw [← e] at e2; simp at e2; subst e2; exact leP_refl _ _
                            · exact absurd ⟨u, e2⟩ hex2⟩
                        · exact absurd ⟨w, e⟩ hex2
                  exact key l ⟨w, hw⟩
                by_cases hy : x.1 = T
                · obtain ⟨yt, yv⟩ := x
                  simp at hy; subst hy
                  by_cases hle : leP p yv v
                  · exact ⟨yv, by simp, fun u hu => by
                      rcases List.mem_cons.1 hu with e | e
                      · simp at e; subst e; exact leP_refl _ _
                      · exact leP_trans hle (hv2 u e)⟩
                  · refine ⟨v, by simp [hv1], fun u hu => ?_⟩
                    rcases List.mem_cons.1 hu with e | e
                    · simp at e; subst e
                      unfold leP at hle ⊢
                      split at hle <;> simp_all <;> omega
                    · exact hv2 u e
                · refine ⟨v, by simp [hv1], fun u hu => ?_⟩
                  rcases List.mem_cons.1 hu with e | e
                  · exact absurd (by rw [← e]) hy
                  · exact hv2 u e
              · rcases List.mem_cons.1 hu with e | e
                · exact ⟨u, by simp [e], fun u' hu' => by
                    rcases List.mem_cons.1 hu' with e2 | e2
                    · rw [← e] at e2; simp at e2; subst e2; exact leP_refl _ _
                    · exact absurd ⟨u', e2⟩ hex⟩
                · exact absurd ⟨u, e⟩ hex
          obtain ⟨v, hv⟩ := this
          have hm := (h.mem T v).2 ⟨hT, hv⟩
          obtain ⟨i, hi, ht, _⟩ := mem_at hm
          have := at_is hS.rise T i hi ht
          omega
        · simp at hu; subst hu; exact leP_refl _ _
    have hA := add_free h.free hS T V 0
    rw [hE, hB.1, if_pos rfl, hq] at hA
    rw [hA]
    refine ⟨fun t v => ?_, ?_, ⟨h.free.1, h.free.2⟩, h.pol⟩
    · show (t, v) ∈ insL s.z T _ ↔ _
      rw [insL_mem hS.rise]
      by_cases htT : t = T
      · subst htT
        constructor
        · rintro (⟨_, hc⟩ | e)
          · exact absurd rfl hc
          · simp at e; rw [e]; exact ⟨hT, hB.2⟩
        · rintro ⟨_, hb⟩
          exact .inr (by rw [best_one hb hB.2])
      · have hiff : isBest p (l ++ [(T, V)]) t v ↔ isBest p l t v := by
          unfold isBest
          constructor
          · rintro ⟨h1, h2⟩
            refine ⟨?_, fun u hu => h2 u (by simp [hu])⟩
            rcases List.mem_append.1 h1 with e | e
            · exact e
            · simp at e; exact absurd e.1 htT
          · rintro ⟨h1, h2⟩
            refine ⟨by simp [h1], fun u hu => ?_⟩
            rcases List.mem_append.1 hu with e | e
            · exact h2 u e
            · simp at e; exact absurd e.1 htT
        rw [hiff, ← h.mem t v]
        constructor
        · rintro (⟨h1, _⟩ | e)
          · exact h1
          · simp at e; exact absurd e.1 htT
        · intro h1; exact .inl ⟨h1, htT⟩
    · obtain ⟨m0, m1, m2⟩ := h.mx
      show isMx _ (max s.mx T)
      refine ⟨by omega, fun x hx ho => ?_, ?_⟩
      · rcases List.mem_append.1 hx with e | e
        · have := m1 x e ho; omega
        · simp at e; subst e; show T ≤ _; omega
      · by_cases hle : s.mx ≤ T
        · exact .inr ⟨(T, V), by simp, hT, by show T = _; omega⟩
        · rcases m2 with e | ⟨x, hx, ho, e⟩
          · unfold okT at hT; omega
          · exact .inr ⟨x, by simp [hx], ho, by omega⟩
  · have hE : addE s T V 0 = 1 := by unfold addE; rw [if_pos (by unfold badS; unfold okT at hT; omega)]
    have hA := add_free h.free hS T V 0
    rw [hE, if_neg (by omega)] at hA
    rw [hA]
    refine ⟨fun t v => ?_, ?_, h.free, h.pol⟩
    · rw [h.mem]
      constructor
      · rintro ⟨ho, h1, h2⟩
        refine ⟨ho, by simp [h1], fun u hu => ?_⟩
        rcases List.mem_append.1 hu with e | e
        · exact h2 u e
        · simp at e; rw [e.1] at ho; exact absurd ho hT
      · rintro ⟨ho, h1, h2⟩
        refine ⟨ho, ?_, fun u hu => h2 u (by simp [hu])⟩
        rcases List.mem_append.1 h1 with e | e
        · exact e
        · simp at e; rw [e.1] at ho; exact absurd ho hT
    · obtain ⟨m0, m1, m2⟩ := h.mx
      refine ⟨m0, fun x hx ho => ?_, ?_⟩
      · rcases List.mem_append.1 hx with e | e
        · exact m1 x e ho
        · simp at e; subst e; exact absurd ho hT
      · rcases m2 with e | ⟨x, hx, ho, e⟩
        · exact .inl e
        · exact .inr ⟨x, by simp [hx], ho, e⟩
theorem Made.new (p : Int) : Made p [] (newSer 0 p) :=
  ⟨fun t v => by simp [newSer, isBest], ⟨by show (-1 : Int) ≤ -1; omega, by simp, .inl rfl⟩, ⟨rfl, rfl⟩, rfl⟩
theorem mx_one {l k : List (Int × Int)} (h : ∀ x, x ∈ l ↔ x ∈ k) {m n : Int} (hm : isMx l m) (hn : isMx k n) : m = n := by
  obtain ⟨a0, a1, a2⟩ := hm
  obtain ⟨b0, b1, b2⟩ := hn
  have h1 : m ≤ n := by
    rcases a2 with e | ⟨x, hx, ho, e⟩
    · omega
    · have := b1 x ((h x).1 hx) ho; omega
  have h2 : n ≤ m := by
    rcases b2 with e | ⟨x, hx, ho, e⟩
    · omega
    · have := a1 x ((h x).2 hx) ho; omega
  omega
theorem pw_ext : ∀ (x y : List (Int × Int)), x.Pairwise (fun a b => a.1 < b.1) → y.Pairwise (fun a b => a.1 < b.1) → (∀ u, u ∈ x ↔ u ∈ y) → x = y
  | [], [], _, _, _ => rfl
  | [], b :: y, _, _, h => by have := (h b).2 (by simp); cases this
  | a :: x, [], _, _, h => by have := (h a).1 (by simp); cases this
  | a :: x, b :: y, hx, hy, h => by
    obtain ⟨hx1, hx2⟩ := List.pairwise_cons.1 hx
    obtain ⟨hy1, hy2⟩ := List.pairwise_cons.1 hy
    have hab : a = b := by
      have h1 := (h a).1 (by simp)
      have h2 := (h b).2 (by simp)
      rcases List.mem_cons.1 h1 with e | e
      · exact e
      · rcases List.mem_cons.1 h2 with e2 | e2
        · exact e2.symm
        · have := hy1 a e; have := hx1 b e2; omega
    subst hab
    congr 1
    refine pw_ext x y hx2 hy2 fun u => ⟨fun hu => ?_, fun hu => ?_⟩
    · rcases List.mem_cons.1 ((h u).1 (by simp [hu])) with e | e
      · subst e; have := hx1 u hu; omega
      · exact e
    · rcases List.mem_cons.1 ((h u).2 (by simp [hu])) with e | e
      · subst e; have := hy1 u hu; omega
      · exact e
theorem made_same {p : Int} {l k : List (Int × Int)} {s t : Ser} (hs : Made p l s) (ht : Made p k t) (h : ∀ x, x ∈ l ↔ x ∈ k) (hrs : Rising s.z) (hrt : Rising t.z) : s.z = t.z ∧ s.mx = t.mx := by
  refine ⟨pw_ext _ _ ((rising_pw _).1 hrs) ((rising_pw _).1 hrt) fun u => ?_, mx_one h hs.mx ht.mx⟩
  obtain ⟨t0, v0⟩ := u
  rw [hs.mem, ht.mem]
  unfold isBest
  simp only [h]
theorem take_rev {n j k : Nat} {z : List (Int × Int)} (hk : k + j + 1 = n) (hn : n ≤ z.length) : (z.take n).reverse.take (j + 1) = (z.take n).reverse.take j ++ [(tOf z k, vOf z k)] := by
  have hj : j < (z.take n).reverse.length := by simp; omega
  rw [List.take_succ_eq_append_getElem hj]
  congr 2
  simp only [List.getElem_reverse, List.getElem_take, List.length_take]
  have e : min n z.length - 1 - j = k := by omega
  simp only [e]
  unfold tOf vOf
  rw [List.getD_eq_getElem?_getD, List.getElem?_eq_getElem (by omega), Option.getD_some]
theorem take_fw {j : Nat} {z : List (Int × Int)} (hj : j < z.length) : z.take (j + 1) = z.take j ++ [(tOf z j, vOf z j)] := by
  rw [List.take_succ_eq_append_getElem hj]
  unfold tOf vOf
  rw [List.getD_eq_getElem?_getD, List.getElem?_eq_getElem hj, Option.getD_some]
theorem in_all {s : Ser} (h : Std s) : s.z.filter (inB 0 1099511627776) = s.z := by
  rw [List.filter_eq_self]
  intro u hu
  have h1 := h.z0 u hu
  have h2 := h.z1 u hu
  have h3 := h.l0
  have h4 := h.m1
  unfold inB; simp; omega
set_option maxRecDepth 100000 in
set_option maxHeartbeats 8000000 in
theorem walk (a : Option Addr) (len cap : Nat) (zz : List (Int × Int)) (g : Bool) (w : World) (hz : SampAt w a len cap zz) :
    Calls Try.prog 4 #[.slice a len cap, .bool g] w fun e w' => e = .returned (.bool true) ∧ Below w.heap.size w w' := by
  have hlen := hz.2.2.1
  have hzl := hz.1
  have HZ := Lib.hid hz
  have H64 := Lib.hid hz.2.2.2.1
  clear hz
  obtain ⟨n, hm⟩ : ∃ n, n = min len 60 := ⟨_, rfl⟩
  have hm1 : n ≤ len := by omega
  have hm2 : n ≤ 60 := by omega
  have hm3 : len ≤ n ∨ 60 ≤ n := by omega
  have HNZ := Lib.hid (show n ≤ zz.length from by omega)
  clear hm
  cases g
  · rcases Nat.lt_or_ge 60 len with h60 | h60
    · obtain rfl : n = 60 := by omega
      go_enter Try.func4, Try.ntmps4
      go_wp2_with fail
      refine (snew_at 128 0 4 w (by omega) (by omega) (by decide)).mono ?_
      rintro e W0 ⟨b, rfl, S0', hb, B0⟩
      have S0 := Lib.hid S0'
      have ST0 := Lib.hid (Std.new (ret := 0) (p := 4) (by decide))
      have hbw := S0'.lt
      clear S0'
      go_wp2_with fail
      refine (snew_at 300 0 4 W0 (by omega) (by omega) (by decide)).mono ?_
      rintro e W1 ⟨c, rfl, S1', hc, b1⟩
      have S1 := Lib.hid S1'
      have S01 := Lib.hid (S0.out.keepB b1)
      have B1 := B0.trans (b1.mono B0.size)
      have hbc : b ≠ c := by omega
      have hcw : w.heap.size ≤ c := by have := B0.size; omega
      clear S1' b1
      go_wp2_with fail
      go_loopw [11] (fun i wr => ∃ (j : Nat) (s t : Ser), j ≤ 60 ∧ i = .int .i64 (j : Int) ∧ SerAt wr b 128 s ∧ SerAt wr c 300 t ∧ Std s ∧ Std t ∧ Made 4 (zz.take j) s ∧ Made 4 ((zz.take 60).reverse.take j) t ∧ s.z.length ≤ j ∧ t.z.length ≤ j ∧ Below w.heap.size w wr) (fun i _ => 60 - (intOf i).toNat)
      case atStart => exact ⟨0, newSer 0 4, newSer 0 4, Nat.zero_le _, rfl, S01.out, S1.out, ST0.out, ST0.out, by simpa using Made.new 4, by simpa using Made.new 4, Nat.le_refl _, Nat.le_refl _, B1⟩
      case round =>
        obtain ⟨j, s, t, hj, rfl, hS, hT, hSs, hSt, hMs, hMt, hsl, htl, B2⟩ := hrel
        have HS := Lib.hid hS
        have HT := Lib.hid hT
        have HSs := Lib.hid hSs
        have HSt := Lib.hid hSt
        have HMs := Lib.hid hMs
        have HMt := Lib.hid hMt
        clear hS hT hSs hSt hMs hMt
        by_cases hjn : j < 60
        · have hjn' : (j : Int) < 60 := by omega
          have hjl : j < len := by omega
          obtain ⟨k, hk⟩ : ∃ k, k + j + 1 = 60 := ⟨60 - 1 - j, by omega⟩
          have hkl : k < len := by omega
          obtain ⟨q, o, hqe, hq, x0, x1⟩ := HZ.out.at_ j hjl
          obtain ⟨q2, o2, hqe2, hq2, y0, y1⟩ := HZ.out.at_ k hkl
          obtain ⟨rfl, rfl⟩ : q = q2 ∧ o = o2 := by rw [hqe] at hqe2; simpa using hqe2
          subst hqe
          have Y0 := Lib.hid y0
          have Y1 := Lib.hid y1
          rw [← B2.cell hq] at x0 x1
          have h64 := (all64_at H64.out j).2
          have h64k := (all64_at H64.out k).2
          have FW := Lib.hid (take_fw (z := zz) (j := j) (by omega))
          have RV := Lib.hid (take_rev (z := zz) (n := 60) hk HNZ.out)
          clear y0 y1
          generalize tOf zz j = T at *
          generalize vOf zz j = V at *
          generalize tOf zz k = T2 at *
          generalize vOf zz k = V2 at *
          have hj0 : (0 : Int) ≤ (j : Int) := by omega
          have hj1 : (j : Int) < (len : Int) := by omega
          go_wp2_with fail
          refine (add_ser b 128 s T V 0 wr HS.out HSs.out (by omega) (by omega) (by omega) h64).mono ?_
          rintro e W3 ⟨rfl, S3, g3⟩
          have HS3 := Lib.hid S3
          have HT3 := Lib.hid (HT.out.keepS g3 (Ne.symm hbc) HS.out)
          have B3 := bel_gb B2 B2.size hb g3
          have HSs3 := Lib.hid (HSs.out.add T V 0 h64)
          have hl3 : (addS5 s T V 0).z.length ≤ j + 1 := by have := add_len HSs.out.rise T V 0; omega
          have HM3 := Lib.hid (HMs.out.add (by omega) HSs.out T V)
          rw [← FW.out] at HM3
          clear S3 g3 x0 x1
          generalize addE s T V 0 = er at *
          generalize addS5 s T V 0 = s3 at *
          have y0 : W3.cell? ⟨q, o + k * 2, none⟩ = some (.int .i64 T2) := by rw [B3.cell hq]; exact Y0.out
          have y1 : W3.cell? ⟨q, o + k * 2 + 1, none⟩ = some (.int .i64 V2) := by rw [B3.cell hq]; exact Y1.out
          have hk2 : (59 : Int) - (j : Int) = (k : Int) := by omega
          have hk0 : (0 : Int) ≤ (k : Int) := by omega
          have hk1 : (k : Int) < (len : Int) := by omega
          go_wp2_with fail
          refine (add_ser c 300 t T2 V2 0 W3 HT3.out HSt.out (by omega) (by omega) (by omega) h64k).mono ?_
          rintro e W4 ⟨rfl, S4, g4⟩
          have HT4 := Lib.hid S4
          have HS4 := Lib.hid (HS3.out.keepS g4 hbc HT3.out)
          have B4 := bel_gb B3 B3.size hcw g4
          have HSt4 := Lib.hid (HSt.out.add T2 V2 0 h64k)
          have hl4 : (addS5 t T2 V2 0).z.length ≤ j + 1 := by have := add_len HSt.out.rise T2 V2 0; omega
          have HM4 := Lib.hid (HMt.out.add (by omega) HSt.out T2 V2)
          rw [← RV.out] at HM4
          clear S4 g4 y0 y1
          generalize addE t T2 V2 0 = er2 at *
          generalize addS5 t T2 V2 0 = t4 at *
          go_wp2
          go_roundw
          case rel => exact ⟨j + 1, s3, t4, by omega, by go_num, HS4.out, HT4.out, HSs3.out, HSt4.out, HM3.out, HM4.out, hl3, hl4, B4⟩
          case measure => simp [intOf]; omega
        · have hjn' : ¬ (j : Int) < 60 := by omega
          obtain rfl : j = 60 := by omega
          have HSAME := Lib.hid (made_same HMs.out HMt.out (fun u => by rw [List.take_of_length_le (l := (zz.take _).reverse) (by simp; omega)]; simp) HSs.out.rise HSt.out.rise)
          have HIA := Lib.hid (in_all HSs.out)
          have HIB := Lib.hid (in_all HSt.out)
          rw [← HSAME.out.1] at HIB
          go_wp2_with fail
          refine (range_ser b 128 s 0 1099511627776 wr HS.out (by omega) HSs.out.rise (by omega)).mono ?_
          rintro e W5 ⟨a5, c5, rfl, L5, b5⟩
          rw [HIA.out] at L5
          rw [HIA.out]
          have B5 := B2.trans (b5.mono B2.size)
          have HS5 := Lib.hid (HS.out.keepB b5)
          have HT5 := Lib.hid (HT.out.keepB b5)
          have HL5 := Lib.hid L5
          clear b5 L5
          go_wp2_with fail
          refine (range_ser c 300 t 0 1099511627776 W5 HT5.out (by omega) HSt.out.rise (by omega)).mono ?_
          rintro e W6 ⟨a6, c6, rfl, L6, b6⟩
          rw [← HSAME.out.1, HIB.out] at L6
          rw [← HSAME.out.1, HIB.out]
          have B6 := B5.trans (b6.mono B5.size)
          have HS6 := Lib.hid (HS5.out.keepB b6)
          have HT6 := Lib.hid (HT5.out.keepB b6)
          have HL6 := Lib.hid L6
          have HL56 := Lib.hid (HL5.out.keepB b6)
          clear b6 L6
          go_wp2_with fail
          refine (same_any a5 a6 _ _ c5 c6 _ _ W6 HL56.out.1 HL6.out.1).mono ?_
          rintro e W7 ⟨rfl, d7⟩
          have B7 := B6.trans ((drew_below d7).mono B6.size)
          have HS7 := Lib.hid (HS6.out.keepB (drew_below d7))
          have HT7 := Lib.hid (HT6.out.keepB (drew_below d7))
          clear d7
          rw [decide_eq_true (rfl : s.z = s.z)]
          go_wp2_with fail
          refine (smax_ok b 128 s W7 HS7.out (by omega)).mono ?_
          rintro e w' ⟨rfl, rfl⟩
          go_wp2_with fail
          refine (smax_ok c 300 t W7 HT7.out (by omega)).mono ?_
          rintro e w' ⟨rfl, rfl⟩
          rw [← HSAME.out.2]
          go_wp2_with fail
          refine (len_ser b 128 s W7 HS7.out (by omega) (by omega)).mono ?_
          rintro e w' ⟨rfl, rfl⟩
          go_wp2_with fail
          refine (len_ser c 300 t W7 HT7.out (by omega) (by omega)).mono ?_
          rintro e w' ⟨rfl, rfl⟩
          rw [← HSAME.out.1]
          go_wp2_with fail
          refine (sknown_any W7).mono ?_
          rintro e W9 ⟨rfl, b9⟩
          have B9 := B7.trans (b9.mono B7.size)
          clear b9
          go_wp2
          go_ret
          exact ⟨rfl, B9⟩
    · obtain rfl : len = n := by omega
      go_enter Try.func4, Try.ntmps4
      go_wp2_with fail
      refine (snew_at 128 0 4 w (by omega) (by omega) (by decide)).mono ?_
      rintro e W0 ⟨b, rfl, S0', hb, B0⟩
      have S0 := Lib.hid S0'
      have ST0 := Lib.hid (Std.new (ret := 0) (p := 4) (by decide))
      have hbw := S0'.lt
      clear S0'
      go_wp2_with fail
      refine (snew_at 300 0 4 W0 (by omega) (by omega) (by decide)).mono ?_
      rintro e W1 ⟨c, rfl, S1', hc, b1⟩
      have S1 := Lib.hid S1'
      have S01 := Lib.hid (S0.out.keepB b1)
      have B1 := B0.trans (b1.mono B0.size)
      have hbc : b ≠ c := by omega
      have hcw : w.heap.size ≤ c := by have := B0.size; omega
      clear S1' b1
      go_wp2_with fail
      go_loopw [11] (fun i wr => ∃ (j : Nat) (s t : Ser), j ≤ len ∧ i = .int .i64 (j : Int) ∧ SerAt wr b 128 s ∧ SerAt wr c 300 t ∧ Std s ∧ Std t ∧ Made 4 (zz.take j) s ∧ Made 4 ((zz.take len).reverse.take j) t ∧ s.z.length ≤ j ∧ t.z.length ≤ j ∧ Below w.heap.size w wr) (fun i _ => len - (intOf i).toNat)
      case atStart => exact ⟨0, newSer 0 4, newSer 0 4, Nat.zero_le _, rfl, S01.out, S1.out, ST0.out, ST0.out, by simpa using Made.new 4, by simpa using Made.new 4, Nat.le_refl _, Nat.le_refl _, B1⟩
      case round =>
        obtain ⟨j, s, t, hj, rfl, hS, hT, hSs, hSt, hMs, hMt, hsl, htl, B2⟩ := hrel
        have HS := Lib.hid hS
        have HT := Lib.hid hT
        have HSs := Lib.hid hSs
        have HSt := Lib.hid hSt
        have HMs := Lib.hid hMs
        have HMt := Lib.hid hMt
        clear hS hT hSs hSt hMs hMt
        by_cases hjn : j < len
        · have hjn' : (j : Int) < (len : Int) := by omega
          have hjl : j < len := by omega
          obtain ⟨k, hk⟩ : ∃ k, k + j + 1 = len := ⟨len - 1 - j, by omega⟩
          have hkl : k < len := by omega
          obtain ⟨q, o, hqe, hq, x0, x1⟩ := HZ.out.at_ j hjl
          obtain ⟨q2, o2, hqe2, hq2, y0, y1⟩ := HZ.out.at_ k hkl
          obtain ⟨rfl, rfl⟩ : q = q2 ∧ o = o2 := by rw [hqe] at hqe2; simpa using hqe2
          subst hqe
          have Y0 := Lib.hid y0
          have Y1 := Lib.hid y1
          rw [← B2.cell hq] at x0 x1
          have h64 := (all64_at H64.out j).2
          have h64k := (all64_at H64.out k).2
          have FW := Lib.hid (take_fw (z := zz) (j := j) (by omega))
          have RV := Lib.hid (take_rev (z := zz) (n := len) hk HNZ.out)
          clear y0 y1
          generalize tOf zz j = T at *
          generalize vOf zz j = V at *
          generalize tOf zz k = T2 at *
          generalize vOf zz k = V2 at *
          have hj0 : (0 : Int) ≤ (j : Int) := by omega
          have hj1 : (j : Int) < (len : Int) := by omega
          go_wp2_with fail
          refine (add_ser b 128 s T V 0 wr HS.out HSs.out (by omega) (by omega) (by omega) h64).mono ?_
          rintro e W3 ⟨rfl, S3, g3⟩
          have HS3 := Lib.hid S3
          have HT3 := Lib.hid (HT.out.keepS g3 (Ne.symm hbc) HS.out)
          have B3 := bel_gb B2 B2.size hb g3
          have HSs3 := Lib.hid (HSs.out.add T V 0 h64)
          have hl3 : (addS5 s T V 0).z.length ≤ j + 1 := by have := add_len HSs.out.rise T V 0; omega
          have HM3 := Lib.hid (HMs.out.add (by omega) HSs.out T V)
          rw [← FW.out] at HM3
          clear S3 g3 x0 x1
          generalize addE s T V 0 = er at *
          generalize addS5 s T V 0 = s3 at *
          have y0 : W3.cell? ⟨q, o + k * 2, none⟩ = some (.int .i64 T2) := by rw [B3.cell hq]; exact Y0.out
          have y1 : W3.cell? ⟨q, o + k * 2 + 1, none⟩ = some (.int .i64 V2) := by rw [B3.cell hq]; exact Y1.out
          have hk2 : (len : Int) - 1 - (j : Int) = (k : Int) := by omega
          have hk0 : (0 : Int) ≤ (k : Int) := by omega
          have hk1 : (k : Int) < (len : Int) := by omega
          go_wp2_with fail
          refine (add_ser c 300 t T2 V2 0 W3 HT3.out HSt.out (by omega) (by omega) (by omega) h64k).mono ?_
          rintro e W4 ⟨rfl, S4, g4⟩
          have HT4 := Lib.hid S4
          have HS4 := Lib.hid (HS3.out.keepS g4 hbc HT3.out)
          have B4 := bel_gb B3 B3.size hcw g4
          have HSt4 := Lib.hid (HSt.out.add T2 V2 0 h64k)
          have hl4 : (addS5 t T2 V2 0).z.length ≤ j + 1 := by have := add_len HSt.out.rise T2 V2 0; omega
          have HM4 := Lib.hid (HMt.out.add (by omega) HSt.out T2 V2)
          rw [← RV.out] at HM4
          clear S4 g4 y0 y1
          generalize addE t T2 V2 0 = er2 at *
          generalize addS5 t T2 V2 0 = t4 at *
          go_wp2
          go_roundw
          case rel => exact ⟨j + 1, s3, t4, by omega, by go_num, HS4.out, HT4.out, HSs3.out, HSt4.out, HM3.out, HM4.out, hl3, hl4, B4⟩
          case measure => simp [intOf]; omega
        · have hjn' : ¬ (j : Int) < (len : Int) := by omega
          have hjl : j = len := by omega
          subst hjl
          have HSAME := Lib.hid (made_same HMs.out HMt.out (fun u => by rw [List.take_of_length_le (l := (zz.take _).reverse) (by simp; omega)]; simp) HSs.out.rise HSt.out.rise)
          have HIA := Lib.hid (in_all HSs.out)
          have HIB := Lib.hid (in_all HSt.out)
          rw [← HSAME.out.1] at HIB
          go_wp2_with fail
          refine (range_ser b 128 s 0 1099511627776 wr HS.out (by omega) HSs.out.rise (by omega)).mono ?_
          rintro e W5 ⟨a5, c5, rfl, L5, b5⟩
          rw [HIA.out] at L5
          rw [HIA.out]
          have B5 := B2.trans (b5.mono B2.size)
          have HS5 := Lib.hid (HS.out.keepB b5)
          have HT5 := Lib.hid (HT.out.keepB b5)
          have HL5 := Lib.hid L5
          clear b5 L5
          go_wp2_with fail
          refine (range_ser c 300 t 0 1099511627776 W5 HT5.out (by omega) HSt.out.rise (by omega)).mono ?_
          rintro e W6 ⟨a6, c6, rfl, L6, b6⟩
          rw [← HSAME.out.1, HIB.out] at L6
          rw [← HSAME.out.1, HIB.out]
          have B6 := B5.trans (b6.mono B5.size)
          have HS6 := Lib.hid (HS5.out.keepB b6)
          have HT6 := Lib.hid (HT5.out.keepB b6)
          have HL6 := Lib.hid L6
          have HL56 := Lib.hid (HL5.out.keepB b6)
          clear b6 L6
          go_wp2_with fail
          refine (same_any a5 a6 _ _ c5 c6 _ _ W6 HL56.out.1 HL6.out.1).mono ?_
          rintro e W7 ⟨rfl, d7⟩
          have B7 := B6.trans ((drew_below d7).mono B6.size)
          have HS7 := Lib.hid (HS6.out.keepB (drew_below d7))
          have HT7 := Lib.hid (HT6.out.keepB (drew_below d7))
          clear d7
          rw [decide_eq_true (rfl : s.z = s.z)]
          go_wp2_with fail
          refine (smax_ok b 128 s W7 HS7.out (by omega)).mono ?_
          rintro e w' ⟨rfl, rfl⟩
          go_wp2_with fail
          refine (smax_ok c 300 t W7 HT7.out (by omega)).mono ?_
          rintro e w' ⟨rfl, rfl⟩
          rw [← HSAME.out.2]
          go_wp2_with fail
          refine (len_ser b 128 s W7 HS7.out (by omega) (by omega)).mono ?_
          rintro e w' ⟨rfl, rfl⟩
          go_wp2_with fail
          refine (len_ser c 300 t W7 HT7.out (by omega) (by omega)).mono ?_
          rintro e w' ⟨rfl, rfl⟩
          rw [← HSAME.out.1]
          go_wp2_with fail
          refine (sknown_any W7).mono ?_
          rintro e W9 ⟨rfl, b9⟩
          have B9 := B7.trans (b9.mono B7.size)
          clear b9
          go_wp2
          go_ret
          exact ⟨rfl, B9⟩
  · rcases Nat.lt_or_ge 60 len with h60 | h60
    · obtain rfl : n = 60 := by omega
      go_enter Try.func4, Try.ntmps4
      go_wp2_with fail
      refine (snew_at 128 0 5 w (by omega) (by omega) (by decide)).mono ?_
      rintro e W0 ⟨b, rfl, S0', hb, B0⟩
      have S0 := Lib.hid S0'
      have ST0 := Lib.hid (Std.new (ret := 0) (p := 5) (by decide))
      have hbw := S0'.lt
      clear S0'
      go_wp2_with fail
      refine (snew_at 300 0 5 W0 (by omega) (by omega) (by decide)).mono ?_
      rintro e W1 ⟨c, rfl, S1', hc, b1⟩
      have S1 := Lib.hid S1'
      have S01 := Lib.hid (S0.out.keepB b1)
      have B1 := B0.trans (b1.mono B0.size)
      have hbc : b ≠ c := by omega
      have hcw : w.heap.size ≤ c := by have := B0.size; omega
      clear S1' b1
      go_wp2_with fail
      go_loopw [11] (fun i wr => ∃ (j : Nat) (s t : Ser), j ≤ 60 ∧ i = .int .i64 (j : Int) ∧ SerAt wr b 128 s ∧ SerAt wr c 300 t ∧ Std s ∧ Std t ∧ Made 5 (zz.take j) s ∧ Made 5 ((zz.take 60).reverse.take j) t ∧ s.z.length ≤ j ∧ t.z.length ≤ j ∧ Below w.heap.size w wr) (fun i _ => 60 - (intOf i).toNat)
      case atStart => exact ⟨0, newSer 0 5, newSer 0 5, Nat.zero_le _, rfl, S01.out, S1.out, ST0.out, ST0.out, by simpa using Made.new 5, by simpa using Made.new 5, Nat.le_refl _, Nat.le_refl _, B1⟩
      case round =>
        obtain ⟨j, s, t, hj, rfl, hS, hT, hSs, hSt, hMs, hMt, hsl, htl, B2⟩ := hrel
        have HS := Lib.hid hS
        have HT := Lib.hid hT
        have HSs := Lib.hid hSs
        have HSt := Lib.hid hSt
        have HMs := Lib.hid hMs
        have HMt := Lib.hid hMt
        clear hS hT hSs hSt hMs hMt
        by_cases hjn : j < 60
        · have hjn' : (j : Int) < 60 := by omega
          have hjl : j < len := by omega
          obtain ⟨k, hk⟩ : ∃ k, k + j + 1 = 60 := ⟨60 - 1 - j, by omega⟩
          have hkl : k < len := by omega
          obtain ⟨q, o, hqe, hq, x0, x1⟩ := HZ.out.at_ j hjl
          obtain ⟨q2, o2, hqe2, hq2, y0, y1⟩ := HZ.out.at_ k hkl
          obtain ⟨rfl, rfl⟩ : q = q2 ∧ o = o2 := by rw [hqe] at hqe2; simpa using hqe2
          subst hqe
          have Y0 := Lib.hid y0
          have Y1 := Lib.hid y1
          rw [← B2.cell hq] at x0 x1
          have h64 := (all64_at H64.out j).2
          have h64k := (all64_at H64.out k).2
          have FW := Lib.hid (take_fw (z := zz) (j := j) (by omega))
          have RV := Lib.hid (take_rev (z := zz) (n := 60) hk HNZ.out)
          clear y0 y1
          generalize tOf zz j = T at *
          generalize vOf zz j = V at *
          generalize tOf zz k = T2 at *
          generalize vOf zz k = V2 at *
          have hj0 : (0 : Int) ≤ (j : Int) := by omega
          have hj1 : (j : Int) < (len : Int) := by omega
          go_wp2_with fail
          refine (add_ser b 128 s T V 0 wr HS.out HSs.out (by omega) (by omega) (by omega) h64).mono ?_
          rintro e W3 ⟨rfl, S3, g3⟩
          have HS3 := Lib.hid S3
          have HT3 := Lib.hid (HT.out.keepS g3 (Ne.symm hbc) HS.out)
          have B3 := bel_gb B2 B2.size hb g3
          have HSs3 := Lib.hid (HSs.out.add T V 0 h64)
          have hl3 : (addS5 s T V 0).z.length ≤ j + 1 := by have := add_len HSs.out.rise T V 0; omega
          have HM3 := Lib.hid (HMs.out.add (by omega) HSs.out T V)
          rw [← FW.out] at HM3
          clear S3 g3 x0 x1
          generalize addE s T V 0 = er at *
          generalize addS5 s T V 0 = s3 at *
          have y0 : W3.cell? ⟨q, o + k * 2, none⟩ = some (.int .i64 T2) := by rw [B3.cell hq]; exact Y0.out
          have y1 : W3.cell? ⟨q, o + k * 2 + 1, none⟩ = some (.int .i64 V2) := by rw [B3.cell hq]; exact Y1.out
          have hk2 : (59 : Int) - (j : Int) = (k : Int) := by omega
          have hk0 : (0 : Int) ≤ (k : Int) := by omega
          have hk1 : (k : Int) < (len : Int) := by omega
          go_wp2_with fail
          refine (add_ser c 300 t T2 V2 0 W3 HT3.out HSt.out (by omega) (by omega) (by omega) h64k).mono ?_
          rintro e W4 ⟨rfl, S4, g4⟩
          have HT4 := Lib.hid S4
          have HS4 := Lib.hid (HS3.out.keepS g4 hbc HT3.out)
          have B4 := bel_gb B3 B3.size hcw g4
          have HSt4 := Lib.hid (HSt.out.add T2 V2 0 h64k)
          have hl4 : (addS5 t T2 V2 0).z.length ≤ j + 1 := by have := add_len HSt.out.rise T2 V2 0; omega
          have HM4 := Lib.hid (HMt.out.add (by omega) HSt.out T2 V2)
          rw [← RV.out] at HM4
          clear S4 g4 y0 y1
          generalize addE t T2 V2 0 = er2 at *
          generalize addS5 t T2 V2 0 = t4 at *
          go_wp2
          go_roundw
          case rel => exact ⟨j + 1, s3, t4, by omega, by go_num, HS4.out, HT4.out, HSs3.out, HSt4.out, HM3.out, HM4.out, hl3, hl4, B4⟩
          case measure => simp [intOf]; omega
        · have hjn' : ¬ (j : Int) < 60 := by omega
          obtain rfl : j = 60 := by omega
          have HSAME := Lib.hid (made_same HMs.out HMt.out (fun u => by rw [List.take_of_length_le (l := (zz.take _).reverse) (by simp; omega)]; simp) HSs.out.rise HSt.out.rise)
          have HIA := Lib.hid (in_all HSs.out)
          have HIB := Lib.hid (in_all HSt.out)
          rw [← HSAME.out.1] at HIB
          go_wp2_with fail
          refine (range_ser b 128 s 0 1099511627776 wr HS.out (by omega) HSs.out.rise (by omega)).mono ?_
          rintro e W5 ⟨a5, c5, rfl, L5, b5⟩
          rw [HIA.out] at L5
          rw [HIA.out]
          have B5 := B2.trans (b5.mono B2.size)
          have HS5 := Lib.hid (HS.out.keepB b5)
          have HT5 := Lib.hid (HT.out.keepB b5)
          have HL5 := Lib.hid L5
          clear b5 L5
          go_wp2_with fail
          refine (range_ser c 300 t 0 1099511627776 W5 HT5.out (by omega) HSt.out.rise (by omega)).mono ?_
          rintro e W6 ⟨a6, c6, rfl, L6, b6⟩
          rw [← HSAME.out.1, HIB.out] at L6
          rw [← HSAME.out.1, HIB.out]
          have B6 := B5.trans (b6.mono B5.size)
          have HS6 := Lib.hid (HS5.out.keepB b6)
          have HT6 := Lib.hid (HT5.out.keepB b6)
          have HL6 := Lib.hid L6
          have HL56 := Lib.hid (HL5.out.keepB b6)
          clear b6 L6
          go_wp2_with fail
          refine (same_any a5 a6 _ _ c5 c6 _ _ W6 HL56.out.1 HL6.out.1).mono ?_
          rintro e W7 ⟨rfl, d7⟩
          have B7 := B6.trans ((drew_below d7).mono B6.size)
          have HS7 := Lib.hid (HS6.out.keepB (drew_below d7))
          have HT7 := Lib.hid (HT6.out.keepB (drew_below d7))
          clear d7
          rw [decide_eq_true (rfl : s.z = s.z)]
          go_wp2_with fail
          refine (smax_ok b 128 s W7 HS7.out (by omega)).mono ?_
          rintro e w' ⟨rfl, rfl⟩
          go_wp2_with fail
          refine (smax_ok c 300 t W7 HT7.out (by omega)).mono ?_
          rintro e w' ⟨rfl, rfl⟩
          rw [← HSAME.out.2]
          go_wp2_with fail
          refine (len_ser b 128 s W7 HS7.out (by omega) (by omega)).mono ?_
          rintro e w' ⟨rfl, rfl⟩
          go_wp2_with fail
          refine (len_ser c 300 t W7 HT7.out (by omega) (by omega)).mono ?_
          rintro e w' ⟨rfl, rfl⟩
          rw [← HSAME.out.1]
          go_wp2_with fail
          refine (sknown_any W7).mono ?_
          rintro e W9 ⟨rfl, b9⟩
          have B9 := B7.trans (b9.mono B7.size)
          clear b9
          go_wp2
          go_ret
          exact ⟨rfl, B9⟩
    · obtain rfl : len = n := by omega
      go_enter Try.func4, Try.ntmps4
      go_wp2_with fail
      refine (snew_at 128 0 5 w (by omega) (by omega) (by decide)).mono ?_
      rintro e W0 ⟨b, rfl, S0', hb, B0⟩
      have S0 := Lib.hid S0'
      have ST0 := Lib.hid (Std.new (ret := 0) (p := 5) (by decide))
      have hbw := S0'.lt
      clear S0'
      go_wp2_with fail
      refine (snew_at 300 0 5 W0 (by omega) (by omega) (by decide)).mono ?_
      rintro e W1 ⟨c, rfl, S1', hc, b1⟩
      have S1 := Lib.hid S1'
      have S01 := Lib.hid (S0.out.keepB b1)
      have B1 := B0.trans (b1.mono B0.size)
      have hbc : b ≠ c := by omega
      have hcw : w.heap.size ≤ c := by have := B0.size; omega
      clear S1' b1
      go_wp2_with fail
      go_loopw [11] (fun i wr => ∃ (j : Nat) (s t : Ser), j ≤ len ∧ i = .int .i64 (j : Int) ∧ SerAt wr b 128 s ∧ SerAt wr c 300 t ∧ Std s ∧ Std t ∧ Made 5 (zz.take j) s ∧ Made 5 ((zz.take len).reverse.take j) t ∧ s.z.length ≤ j ∧ t.z.length ≤ j ∧ Below w.heap.size w wr) (fun i _ => len - (intOf i).toNat)
      case atStart => exact ⟨0, newSer 0 5, newSer 0 5, Nat.zero_le _, rfl, S01.out, S1.out, ST0.out, ST0.out, by simpa using Made.new 5, by simpa using Made.new 5, Nat.le_refl _, Nat.le_refl _, B1⟩
      case round =>
        obtain ⟨j, s, t, hj, rfl, hS, hT, hSs, hSt, hMs, hMt, hsl, htl, B2⟩ := hrel
        have HS := Lib.hid hS
        have HT := Lib.hid hT
        have HSs := Lib.hid hSs
        have HSt := Lib.hid hSt
        have HMs := Lib.hid hMs
        have HMt := Lib.hid hMt
        clear hS hT hSs hSt hMs hMt
        by_cases hjn : j < len
        · have hjn' : (j : Int) < (len : Int) := by omega
          have hjl : j < len := by omega
          obtain ⟨k, hk⟩ : ∃ k, k + j + 1 = len := ⟨len - 1 - j, by omega⟩
          have hkl : k < len := by omega
          obtain ⟨q, o, hqe, hq, x0, x1⟩ := HZ.out.at_ j hjl
          obtain ⟨q2, o2, hqe2, hq2, y0, y1⟩ := HZ.out.at_ k hkl
          obtain ⟨rfl, rfl⟩ : q = q2 ∧ o = o2 := by rw [hqe] at hqe2; simpa using hqe2
          subst hqe
          have Y0 := Lib.hid y0
          have Y1 := Lib.hid y1
          rw [← B2.cell hq] at x0 x1
          have h64 := (all64_at H64.out j).2
          have h64k := (all64_at H64.out k).2
          have FW := Lib.hid (take_fw (z := zz) (j := j) (by omega))
          have RV := Lib.hid (take_rev (z := zz) (n := len) hk HNZ.out)
          clear y0 y1
          generalize tOf zz j = T at *
          generalize vOf zz j = V at *
          generalize tOf zz k = T2 at *
          generalize vOf zz k = V2 at *
          have hj0 : (0 : Int) ≤ (j : Int) := by omega
          have hj1 : (j : Int) < (len : Int) := by omega
          go_wp2_with fail
          refine (add_ser b 128 s T V 0 wr HS.out HSs.out (by omega) (by omega) (by omega) h64).mono ?_
          rintro e W3 ⟨rfl, S3, g3⟩
          have HS3 := Lib.hid S3
          have HT3 := Lib.hid (HT.out.keepS g3 (Ne.symm hbc) HS.out)
          have B3 := bel_gb B2 B2.size hb g3
          have HSs3 := Lib.hid (HSs.out.add T V 0 h64)
          have hl3 : (addS5 s T V 0).z.length ≤ j + 1 := by have := add_len HSs.out.rise T V 0; omega
          have HM3 := Lib.hid (HMs.out.add (by omega) HSs.out T V)
          rw [← FW.out] at HM3
          clear S3 g3 x0 x1
          generalize addE s T V 0 = er at *
          generalize addS5 s T V 0 = s3 at *
          have y0 : W3.cell? ⟨q, o + k * 2, none⟩ = some (.int .i64 T2) := by rw [B3.cell hq]; exact Y0.out
          have y1 : W3.cell? ⟨q, o + k * 2 + 1, none⟩ = some (.int .i64 V2) := by rw [B3.cell hq]; exact Y1.out
          have hk2 : (len : Int) - 1 - (j : Int) = (k : Int) := by omega
          have hk0 : (0 : Int) ≤ (k : Int) := by omega
          have hk1 : (k : Int) < (len : Int) := by omega
          go_wp2_with fail
          refine (add_ser c 300 t T2 V2 0 W3 HT3.out HSt.out (by omega) (by omega) (by omega) h64k).mono ?_
          rintro e W4 ⟨rfl, S4, g4⟩
          have HT4 := Lib.hid S4
          have HS4 := Lib.hid (HS3.out.keepS g4 hbc HT3.out)
          have B4 := bel_gb B3 B3.size hcw g4
          have HSt4 := Lib.hid (HSt.out.add T2 V2 0 h64k)
          have hl4 : (addS5 t T2 V2 0).z.length ≤ j + 1 := by have := add_len HSt.out.rise T2 V2 0; omega
          have HM4 := Lib.hid (HMt.out.add (by omega) HSt.out T2 V2)
          rw [← RV.out] at HM4
          clear S4 g4 y0 y1
          generalize addE t T2 V2 0 = er2 at *
          generalize addS5 t T2 V2 0 = t4 at *
          go_wp2
          go_roundw
          case rel => exact ⟨j + 1, s3, t4, by omega, by go_num, HS4.out, HT4.out, HSs3.out, HSt4.out, HM3.out, HM4.out, hl3, hl4, B4⟩
          case measure => simp [intOf]; omega
        · have hjn' : ¬ (j : Int) < (len : Int) := by omega
          have hjl : j = len := by omega
          subst hjl
          have HSAME := Lib.hid (made_same HMs.out HMt.out (fun u => by rw [List.take_of_length_le (l := (zz.take _).reverse) (by simp; omega)]; simp) HSs.out.rise HSt.out.rise)
          have HIA := Lib.hid (in_all HSs.out)
          have HIB := Lib.hid (in_all HSt.out)
          rw [← HSAME.out.1] at HIB
          go_wp2_with fail
          refine (range_ser b 128 s 0 1099511627776 wr HS.out (by omega) HSs.out.rise (by omega)).mono ?_
          rintro e W5 ⟨a5, c5, rfl, L5, b5⟩
          rw [HIA.out] at L5
          rw [HIA.out]
          have B5 := B2.trans (b5.mono B2.size)
          have HS5 := Lib.hid (HS.out.keepB b5)
          have HT5 := Lib.hid (HT.out.keepB b5)
          have HL5 := Lib.hid L5
          clear b5 L5
          go_wp2_with fail
          refine (range_ser c 300 t 0 1099511627776 W5 HT5.out (by omega) HSt.out.rise (by omega)).mono ?_
          rintro e W6 ⟨a6, c6, rfl, L6, b6⟩
          rw [← HSAME.out.1, HIB.out] at L6
          rw [← HSAME.out.1, HIB.out]
          have B6 := B5.trans (b6.mono B5.size)
          have HS6 := Lib.hid (HS5.out.keepB b6)
          have HT6 := Lib.hid (HT5.out.keepB b6)
          have HL6 := Lib.hid L6
          have HL56 := Lib.hid (HL5.out.keepB b6)
          clear b6 L6
          go_wp2_with fail
          refine (same_any a5 a6 _ _ c5 c6 _ _ W6 HL56.out.1 HL6.out.1).mono ?_
          rintro e W7 ⟨rfl, d7⟩
          have B7 := B6.trans ((drew_below d7).mono B6.size)
          have HS7 := Lib.hid (HS6.out.keepB (drew_below d7))
          have HT7 := Lib.hid (HT6.out.keepB (drew_below d7))
          clear d7
          rw [decide_eq_true (rfl : s.z = s.z)]
          go_wp2_with fail
          refine (smax_ok b 128 s W7 HS7.out (by omega)).mono ?_
          rintro e w' ⟨rfl, rfl⟩
          go_wp2_with fail
          refine (smax_ok c 300 t W7 HT7.out (by omega)).mono ?_
          rintro e w' ⟨rfl, rfl⟩
          rw [← HSAME.out.2]
          go_wp2_with fail
          refine (len_ser b 128 s W7 HS7.out (by omega) (by omega)).mono ?_
          rintro e w' ⟨rfl, rfl⟩
          go_wp2_with fail
          refine (len_ser c 300 t W7 HT7.out (by omega) (by omega)).mono ?_
          rintro e w' ⟨rfl, rfl⟩
          rw [← HSAME.out.1]
          go_wp2_with fail
          refine (sknown_any W7).mono ?_
          rintro e W9 ⟨rfl, b9⟩
          have B9 := B7.trans (b9.mono B7.size)
          clear b9
          go_wp2
          go_ret
          exact ⟨rfl, B9⟩
set_option maxRecDepth 100000 in
theorem lifted (os : Os) (started : os.Started) (H : Type) (enc : TypeId × Value → H) :
    ReturnsInHanded {} Try.checked os 4 .any (Rows.seriesOrdersSpec.pre6 enc Try.prog Try.f4 Rows.seriesOrdersRow.domain false) (Rows.seriesOrdersSpec.post enc Try.prog Try.f4 false true false false) := by
  refine returnsInHanded_of_change (C := Try.checked) own started (by kernel_rfl) Try.func4
    (ChangeSpec.witness6 (enc := enc) (C := Try.checked) false ⟨#[], #[.slice none 0 0, .bool false], []⟩ 8 (by kernel_rfl) (by kernel_rfl) (by kernel_rfl) (by kernel_rfl)) ?_
  intro W base args ds gs before hval0 hW hcnd _
  have hval : ∀ (j : Nat) t v, Try.f4.params[j]? = some t → args[j]? = some v → Value.okWide Try.prog W .any base t v := hval0
  have hW' := hW
  obtain ⟨p, q, hA0, hV, rfl, hfz, hnd⟩ := hW
  have hA : DataW.TrodAll enc Try.prog W 0 (fun _ => true) true Try.f4.params.toList args.toList ds p := hA0
  rw [Try.params4] at hA hval
  obtain ⟨v0, vs0, d0, ds0, p0, q0, hargs, rfl, rfl, h0, r0⟩ := trodAll_cons hA
  obtain ⟨v1, vs1, d1, ds1, p1, q1, rfl, rfl, rfl, h1, r1⟩ := trodAll_cons r0
  obtain ⟨rfl, rfl, rfl⟩ := trodAll_nil r1
  obtain rfl : args = #[v0, v1] := by cases args; simp_all
  obtain ⟨rfl, rfl⟩ := trodVars_none hV
  obtain ⟨a0, len0, cap0, rfl⟩ := okWide_slice Try.underlying40 (hval 0 40 v0 rfl rfl)
  have k0 := h0
  have lt0 : ∀ x ∈ p0, x.block < W.heap.size := by obtain ⟨m, hm⟩ := k0; exact DataW.trod_lt m _ _ _ hm
  obtain ⟨z0, w0⟩ := open_samps h0
  obtain ⟨a1, rfl, rfl, rfl⟩ := open_bool Try.underlying4 (hval 1 4 v1 rfl rfl) h1
  clear hA0 hval0
  refine (walk a0 len0 cap0 z0 a1 W w0 ).mono fun e W' ⟨he, bel⟩ => ?_
  subst he
  exact ⟨_, rfl, _, _, _, [], _, [], hW', trodAll_mk1 (shut_bool Try.underlying4 _), (trodAll_cons_mk (Below.trod laidOut (by kernel_rfl) (of_decide_eq_true (by kernel_rfl)) k0 bel lt0) (trodAll_cons_mk (shut_bool Try.underlying4 _) trodAll_mk0)), rfl, bel.frame _, fun h => by cases h⟩

theorem over : Rows.seriesOrdersRow.holds Try.pinned (OpenSpec.ofChange Rows.seriesOrdersSpec) :=
  OpenClaim.holds_of_wide 4 Try.f4 rfl rfl rfl rfl rfl rfl rfl ⟨rfl, rfl, rfl, rfl, rfl⟩ rfl rfl rfl rfl rfl (by kernel_rfl) Try.func4 (by kernel_rfl)
    (of_decide_eq_true (by kernel_rfl)) (by unfold Func.isWrapper; first | (rw [if_pos (by decide +kernel)]; kernel_rfl) | (rw [if_neg (by decide +kernel)]; exact ⟨rfl, rfl⟩))
    (fun os started H enc _ => lifted os started H enc)

theorem proved : Rows.SeriesOrdersSaid := over
end seriesOrders
theorem seriesOrders_holds : Rows.SeriesOrdersSaid := seriesOrders.proved
#print axioms seriesOrders_holds
end Go.Proofs.Ytpbhdlhbcfkhfaa
