/- Proved here: texts joined: AlnStep, AlnFns, AddrK, Steps. -/
import Derived.Test.YtoopdgohdeddoaaGreatDoorBs01
import Derived.Test.YtoopdgohdeddoaaGreatDoorBs10
import Derived.Test.YtoopdgohdeddoaaGreatDoorBs12
import Derived.Test.YtoopdgohdeddoaaGreatDoorChecked
import Derived.WalkLawsBesides
import Derived.Deep.QuietTactic
import Derived.BigQuiet
import Derived.Maps.AppendAt
import Derived.OwnWalk
import Derived.IntWalk
import Derived.Deep.RegionLaw
/- Proved here, without conditions: the document's chunks (layer 5), stable places one by one: they are those of the matches. -/
namespace Go.Proofs.YtoopdgohdeddoaaGreatDoor
set_option linter.unusedVariables false

/-- Where chunks of n sides end. -/
def endB (out : List Ck) : Int := match out.getLast? with | none => 0 | some c => c.2.1.2
def endA (n : Nat) (out : List Ck) : List Int := match out.getLast? with | none => List.replicate n 0 | some c => ends c
theorem endB_snoc (l : List Ck) (c : Ck) : endB (l ++ [c]) = c.2.1.2 := by simp [endB]
theorem endA_snoc (n : Nat) (l : List Ck) (c : Ck) : endA n (l ++ [c]) = ends c := by simp [endA]
/-- Do place k, and the one ahead, stand together? -/
def tog (ms : List (List Int)) (k : Nat) : Prop := 0 < k ∧ allP ms ((k : Int) - 1) = true ∧ ∀ l ∈ ms, pl l k = pl l ((k : Int) - 1) + 1
/-- Two chunks as one. -/
def longerC (c d : Ck) : Ck := (c.1, (c.2.1.1, d.2.1.2), List.zipWith (fun (s t : Sp) => (s.1, t.2)) c.2.2 d.2.2)
/-- The document's chunks, as far as place k: the last run may go on. -/
def RefIn (m : Nat) (sizes : List Int) (ms : List (List Int)) (k : Nat) (out : List Ck) : Prop :=
  ((∀ j : Int, 0 ≤ j → j < k → allP ms j = false) ∧ out = []) ∨
  ∃ (cs : List Ck) (p : Option Bool) (b : Int) (a : List Int) (e t : Nat), CutIn m sizes ms cs p b a ∧ b ≤ e ∧ e < t ∧ t ≤ k ∧ (∀ j, b ≤ j → j < e → allP ms j = false) ∧ allP ms e = true ∧ (∀ j : Int, (e : Int) < j → j < t → allP ms j = true ∧ ∀ l ∈ ms, pl l j = pl l (j - 1) + 1) ∧
    (∀ j : Int, (t : Int) ≤ j → j < k → allP ms j = false) ∧ out = putC cs (ckOf false b e a (plAll ms e)) ++ [ckOf true e t (plAll ms e) (plUp ms ((t : Int) - 1))]

section
variable {m k : Nat} {sizes : List Int} {ms : List (List Int)} {out : List Ck}
theorem RefIn.start (m : Nat) (sizes : List Int) (ms : List (List Int)) : RefIn m sizes ms 0 [] := .inl ⟨fun j h1 h2 => by omega, rfl⟩
theorem RefIn.miss (h : RefIn m sizes ms k out) (hk : allP ms k = false) : RefIn m sizes ms (k + 1) out := by
  rcases h with ⟨h1, h2⟩ | ⟨cs, p, b, a, e, t, h1, h2, h3, h4, h5, h6, h7, h8, h9⟩
  · refine .inl ⟨fun j j1 j2 => ?_, h2⟩
    rcases Int.lt_or_le j k with h | h
    · exact h1 j j1 h
    · rw [show j = k by push_cast at j2; omega]; exact hk
  · refine .inr ⟨cs, p, b, a, e, t, h1, h2, h3, by omega, h5, h6, h7, fun j j1 j2 => ?_, h9⟩
    rcases Int.lt_or_le j k with h | h
    · exact h8 j j1 h
    · rw [show j = k by push_cast at j2; omega]; exact hk
theorem ck_ends {st : Bool} {b e : Int} {a f : List Int} (h : a.length = f.length) : ends (ckOf st b e a f) = f := zip_ends h st b e
/-- A run that is over. -/
theorem RefIn.cut (hm : ∀ (k : Nat) (l : List Int) (z : Int), ms[k]? = some l → sizes[k]? = some z → IsMatch m l z) (hml : ms.length = sizes.length) (h : RefIn m sizes ms k out) (hkm : k ≤ m) (hno : ¬ tog ms k ∨ k = m) :
    ∃ p, CutIn m sizes ms out p (endB out) (endA sizes.length out) ∧ endB out ≤ k ∧ ∀ j, endB out ≤ j → j < k → allP ms j = false := by
  rcases h with ⟨h1, rfl⟩ | ⟨cs, p, b, a, e, t, h1, h2, h3, h4, h5, h6, h7, h8, rfl⟩
  · exact ⟨none, CutIn.start m sizes ms, Int.natCast_nonneg k, h1⟩
  · have hrun : ∀ j : Int, (e : Int) < j → j < t → ∀ l ∈ ms, pl l j = pl l (j - 1) + 1 := fun j j1 j2 => (h7 j j1 j2).2
    have ht1 : allP ms ((t : Int) - 1) = true := by
      rcases Int.lt_or_le e ((t : Int) - 1) with h | h
      · exact (h7 _ h (by omega)).1
      · rw [show (t : Int) - 1 = e by omega]; exact h6
    have hend : (t : Int) < m → ∃ l ∈ ms, pl l t ≠ pl l ((t : Int) - 1) + 1 := by
      intro htm
      rcases Nat.lt_or_ge t k with htk | htk
      · have hx := h8 t (Int.le_refl _) (by omega)
        unfold allP at hx
        rw [List.all_eq_false] at hx
        obtain ⟨l, hl, hx⟩ := hx
        refine ⟨l, hl, fun e => ?_⟩
        have := allP_mem ht1 hl
        simp at hx
        omega
      · have htk2 : t = k := by omega
        subst htk2
        rcases hno with hno | hno
        · apply Classical.byContradiction
          intro hc
          apply hno
          refine ⟨by omega, ht1, fun l hl => ?_⟩
          apply Classical.byContradiction
          intro hne
          exact hc ⟨l, hl, hne⟩
        · omega
    have hs := h1.step hm hml (e := e) (t := t) h2 (by omega) (by omega) h5 h6 hrun hend
    have hf : emptyB (ckOf true e t (plAll ms e) (plUp ms ((t : Int) - 1))) = false := full_of (by omega)
    have hput : putC (putC cs (ckOf false b e a (plAll ms e))) (ckOf true e t (plAll ms e) (plUp ms ((t : Int) - 1))) = putC cs (ckOf false b e a (plAll ms e)) ++ [ckOf true e t (plAll ms e) (plUp ms ((t : Int) - 1))] := by
      conv => lhs; rw [putC]
      rw [if_neg (by rw [hf]; simp)]
    rw [hput] at hs
    refine ⟨some true, ?_, ?_, fun j j1 j2 => ?_⟩
    · rw [endB_snoc, endA_snoc, ck_ends (by rw [plAll_len, plUp_len])]
      exact hs
    · rw [endB_snoc]
      show (t : Int) ≤ k
      omega
    · rw [endB_snoc] at j1
      exact h8 j j1 j2
theorem gap_eq (hm : ∀ (k : Nat) (l : List Int) (z : Int), ms[k]? = some l → sizes[k]? = some z → IsMatch m l z) (hml : ms.length = sizes.length) {cs : List Ck} {p : Option Bool} {b : Int} {a : List Int} (h : CutIn m sizes ms cs p b a) (hbk : b ≤ k) (hk : allP ms k = true)
    (hem : emptyB (ckOf false b k a (plAll ms k)) = true) : b = k ∧ a = plAll ms k := by
  obtain ⟨p1, p2⟩ := empty_parts hem
  refine ⟨by omega, ?_⟩
  refine List.ext_getElem? fun s => ?_
  have hl := h.len
  have hpl := plAll_len ms k
  rcases Nat.lt_or_ge s a.length with hs | hs
  · have hu : a[s]? = some a[s] := List.getElem?_eq_getElem hs
    have hv : (plAll ms k)[s]? = some ((plAll ms k)[s]'(by omega)) := List.getElem?_eq_getElem _
    obtain ⟨l, hl2, hlv⟩ := plAll_at hv
    have k1 := h.ahead hm hml hbk hk hu hl2
    have k2 := p2 s _ _ hu hv
    rw [hu, hv]
    congr 1
    omega
  · rw [List.getElem?_eq_none hs, List.getElem?_eq_none (by omega)]
/-- A run that begins. -/
theorem RefIn.fresh (hm : ∀ (k : Nat) (l : List Int) (z : Int), ms[k]? = some l → sizes[k]? = some z → IsMatch m l z) (hml : ms.length = sizes.length) (h : RefIn m sizes ms k out) (hkm : k < m) (hk : allP ms k = true) (hno : ¬ tog ms k) :
    endB (putC out (ckOf false (endB out) k (endA sizes.length out) (plAll ms k))) = k ∧ endA sizes.length (putC out (ckOf false (endB out) k (endA sizes.length out) (plAll ms k))) = plAll ms k ∧
      RefIn m sizes ms (k + 1) (putC out (ckOf false (endB out) k (endA sizes.length out) (plAll ms k)) ++ [ckOf true k (k + 1 : Nat) (plAll ms k) (plUp ms k)]) := by
  obtain ⟨p, hc, hle, hz⟩ := h.cut hm hml (by omega) (.inl hno)
  have hlen := hc.len
  refine ⟨?_, ?_, .inr ⟨out, p, _, _, k, k + 1, hc, hle, by omega, Nat.le_refl _, hz, hk, fun j j1 j2 => by push_cast at j2; omega, fun j j1 j2 => by push_cast at j1 j2; omega, ?_⟩⟩
  · by_cases hem : emptyB (ckOf false (endB out) k (endA sizes.length out) (plAll ms k)) = true
    · rw [putC, if_pos hem]
      exact (gap_eq hm hml hc hle hk hem).1
    · rw [putC, if_neg hem, endB_snoc]
      rfl
  · by_cases hem : emptyB (ckOf false (endB out) k (endA sizes.length out) (plAll ms k)) = true
    · rw [putC, if_pos hem]
      exact (gap_eq hm hml hc hle hk hem).2
    · rw [putC, if_neg hem, endA_snoc, ck_ends (by rw [plAll_len, hml]; exact hlen)]
  · rw [show (((k + 1 : Nat) : Int) - 1) = (k : Int) by push_cast; omega]
/-- A run that goes on. -/
theorem RefIn.joined (hml : ms.length = sizes.length) (h : RefIn m sizes ms k out) (ht : tog ms k) (hk : allP ms k = true) :
    endB out = k ∧ endA sizes.length out = plAll ms k ∧ emptyB (ckOf false (endB out) k (endA sizes.length out) (plAll ms k)) = true ∧
      ∃ cs c, out = cs ++ [c] ∧ c.2.2.length = ms.length ∧ RefIn m sizes ms (k + 1) (cs ++ [longerC c (ckOf true k (k + 1 : Nat) (plAll ms k) (plUp ms k))]) := by
  obtain ⟨h0, hst, hall⟩ := ht
  rcases h with ⟨h1, -⟩ | ⟨cs, p, b, a, e, t, h1, h2, h3, h4, h5, h6, h7, h8, rfl⟩
  · rw [h1 ((k : Int) - 1) (by omega) (by omega)] at hst
    cases hst
  · have htk : t = k := by
      rcases Nat.lt_or_ge t k with hlt | hge
      · rw [h8 ((k : Int) - 1) (by omega) (by omega)] at hst
        cases hst
      · omega
    subst htk
    have hup : plUp ms ((t : Int) - 1) = plAll ms t := by
      unfold plUp plAll
      exact List.map_congr_left fun l hl => (hall l hl).symm
    have e1 : endB (putC cs (ckOf false b e a (plAll ms e)) ++ [ckOf true e t (plAll ms e) (plUp ms ((t : Int) - 1))]) = t := endB_snoc _ _
    have e2 : endA sizes.length (putC cs (ckOf false b e a (plAll ms e)) ++ [ckOf true e t (plAll ms e) (plUp ms ((t : Int) - 1))]) = plAll ms t := by rw [endA_snoc, ck_ends (by rw [plAll_len, plUp_len]), hup]
    refine ⟨e1, e2, ?_, putC cs (ckOf false b e a (plAll ms e)), _, rfl, ?_, ?_⟩
    · rw [e1, e2]
      unfold emptyB ckOf
      simp only [Bool.not_eq_true', Bool.or_eq_false_iff, decide_eq_false_iff_not, List.any_eq_false, decide_eq_true_eq]
      refine ⟨by omega, fun sp hsp => ?_⟩
      obtain ⟨s, hs⟩ := List.mem_iff_getElem?.1 hsp
      obtain ⟨u1, u2⟩ := zip_at hs
      rw [u1] at u2
      injection u2 with u2
      omega
    · show (List.zip (plAll ms e) (plUp ms ((t : Int) - 1))).length = _
      rw [List.length_zip, plAll_len, plUp_len]
      omega
    · refine .inr ⟨cs, p, b, a, e, t + 1, h1, h2, by omega, Nat.le_refl _, h5, h6, fun j j1 j2 => ?_, fun j j1 j2 => by push_cast at j1 j2; omega, ?_⟩
      · rcases Int.lt_or_le j t with hj | hj
        · exact h7 j j1 hj
        · rw [show j = t by push_cast at j2; omega]
          exact ⟨hk, hall⟩
      · congr 2
        unfold longerC ckOf
        rw [show (((t + 1 : Nat) : Int) - 1) = (t : Int) by push_cast; omega]
        congr 2
        refine List.ext_getElem? fun s => ?_
        rw [List.getElem?_zipWith]
        rcases Nat.lt_or_ge s ms.length with hs | hs
        · have q1 : (plAll ms e)[s]? = some (pl ms[s] e) := by unfold plAll; rw [List.getElem?_map, List.getElem?_eq_getElem hs]; rfl
          have q2 : (plUp ms ((t : Int) - 1))[s]? = some (pl ms[s] ((t : Int) - 1) + 1) := by unfold plUp; rw [List.getElem?_map, List.getElem?_eq_getElem hs]; rfl
          have q3 : (plAll ms t)[s]? = some (pl ms[s] t) := by unfold plAll; rw [List.getElem?_map, List.getElem?_eq_getElem hs]; rfl
          have q4 : (plUp ms t)[s]? = some (pl ms[s] t + 1) := by unfold plUp; rw [List.getElem?_map, List.getElem?_eq_getElem hs]; rfl
          have z1 : (List.zip (plAll ms e) (plUp ms ((t : Int) - 1)))[s]? = some (pl ms[s] e, pl ms[s] ((t : Int) - 1) + 1) := List.getElem?_zip_eq_some.2 ⟨q1, q2⟩
          have z2 : (List.zip (plAll ms t) (plUp ms t))[s]? = some (pl ms[s] t, pl ms[s] t + 1) := List.getElem?_zip_eq_some.2 ⟨q3, q4⟩
          have z3 : (List.zip (plAll ms e) (plUp ms t))[s]? = some (pl ms[s] e, pl ms[s] t + 1) := List.getElem?_zip_eq_some.2 ⟨q1, q4⟩
          rw [z1, z2, z3]
        · rw [List.getElem?_eq_none (by rw [List.length_zip, plAll_len, plUp_len]; omega), List.getElem?_eq_none (by rw [List.length_zip, plAll_len, plUp_len]; omega), List.getElem?_eq_none (by rw [List.length_zip, plAll_len, plUp_len]; omega)]
/-- The end. -/
theorem RefIn.finish (hm : ∀ (k : Nat) (l : List Int) (z : Int), ms[k]? = some l → sizes[k]? = some z → IsMatch m l z) (hml : ms.length = sizes.length) (hz : ∀ z ∈ sizes, 0 ≤ z) (h : RefIn m sizes ms m out) :
    IsCut m sizes ms (putC out (ckOf false (endB out) m (endA sizes.length out) sizes)) := by
  obtain ⟨p, hc, hle, hno⟩ := h.cut hm hml (Nat.le_refl _) (.inr rfl)
  exact hc.finish hm hml hz hno
end
end Go.Proofs.YtoopdgohdeddoaaGreatDoor
/- Proved here: contracts of the document's own small functions of layer 5 that Align calls: stable, together, places. -/
namespace Go.Proofs.YtoopdgohdeddoaaGreatDoor
open Go.RowKit
set_option linter.unusedVariables false

/-- Matches of m places: -1, or a place. -/
def MsR (m : Nat) (ms : List (List Int)) : Prop := ∀ l ∈ ms, l.length = m ∧ ∀ u ∈ l, u ≠ -1 → 0 ≤ u ∧ u ≤ 1000000
theorem MsR.at_ {m : Nat} {ms : List (List Int)} (h : MsR m ms) {i k : Nat} {l : List Int} {u : Int} (hl : ms[i]? = some l) (hu : l[k]? = some u) : pl l k = u ∧ (u = -1 ∨ (0 ≤ u ∧ u ≤ 1000000)) := by
  refine ⟨by unfold pl; rw [Int.toNat_natCast, hu]; rfl, ?_⟩
  by_cases e : u = -1
  · exact .inl e
  · exact .inr ((h l (List.mem_of_getElem? hl)).2 u (List.mem_of_getElem? hu) e)
theorem allP_no {ms : List (List Int)} {i : Nat} {l : List Int} {k : Int} (hl : ms[i]? = some l) (h : pl l k = -1) : false = allP ms k := by
  unfold allP
  rw [eq_comm, List.all_eq_false]
  exact ⟨l, List.mem_of_getElem? hl, by rw [h]; simp⟩
theorem allP_step {ms : List (List Int)} {i : Nat} {l : List Int} {k : Int} (hq : allP (ms.take i) k = true) (hl : ms[i]? = some l) (h : 0 ≤ pl l k) : allP (ms.take (i + 1)) k = true := by
  unfold allP at hq ⊢
  rw [take_at hl, List.all_append, hq]
  simp [h]

set_option maxRecDepth 100000 in
set_option maxHeartbeats 1000000 in
theorem rStable_any (A : Option Addr) (n c B m k : Nat) (rows : List (Option Addr × Nat × Nat)) (ms : List (List Int)) (w : World) (hn : n ≤ 100) (hk : k < m) (hms : MsR m ms) (hA : RowsN w B A n rows ms) :
    Calls Tryz.prog 86 #[.slice A n c, .int .i64 k] w fun e w' => e = .returned (.bool (allP ms k)) ∧ w' = w := by
  have hl := hA.len
  have hmsh := Lib.hid hms
  have hAh := Lib.hid hA
  clear hms hA
  go_enter Tryz.func86, Tryz.ntmps86
  go_wp2
  go_loop [5] (fun s5 => ∃ i : Nat, i ≤ n ∧ s5 = .int .i64 i ∧ Hid (allP (ms.take i) k = true)) (fun s5 => n - (intOf s5).toNat)
  case atStart => exact ⟨0, Nat.zero_le _, rfl, Lib.hid rfl⟩
  case round =>
    obtain ⟨i, hin, rfl, hq⟩ := hrel
    by_cases hlt : i < n
    · obtain ⟨b, o, A1, n1, c1, l, rfl, hb, hml, hc, hN⟩ := hAh.out.at_ hlt
      have hll := (hmsh.out l (List.mem_of_getElem? hml)).1
      have hn1 : n1 = m := by have := hN.len; omega
      subst hn1
      obtain ⟨b1, o1, u, rfl, hb1, hu, hc1⟩ := hN.at_ hk
      obtain ⟨hpl, hur⟩ := hmsh.out.at_ hml hu
      have i1 : (0 : Int) ≤ (i : Int) := by omega
      have i2 : (i : Int) < (n : Int) := by omega
      have i3 : (0 : Int) ≤ (k : Int) := by omega
      have i4 : (k : Int) < (n1 : Int) := by omega
      by_cases hu1 : u = -1
      · have hno := Lib.hid (allP_no hml (hpl.trans hu1))
        subst hu1
        clear hml hu hpl hur hN
        go_wp2
        go_ret
        exact ⟨ret_bool hno.out, rfl⟩
      · have hyes := Lib.hid (allP_step hq.out hml (k := k) (by rw [hpl]; rcases hur with h | h; exact absurd h hu1; exact h.1))
        have hd : (u == -1) = false := by simpa using hu1
        clear hml hu hpl hur hN hu1
        go_wp2
        go_round
        case rel => exact ⟨i + 1, by omega, by go_num, hyes⟩
        case measure => simp [intOf]; omega
    · obtain rfl : i = n := by omega
      have hall : allP ms k = true := by have := hq.out; rwa [List.take_of_length_le (by omega)] at this
      have hallh := Lib.hid hall
      clear hall
      go_wp2
      go_ret
      exact ⟨ret_bool hallh.out.symm, rfl⟩

/-- Do they stand together? -/
def togB (ms : List (List Int)) (k : Nat) : Bool := decide (0 < k) && (allP ms ((k : Int) - 1) && ms.all fun l => pl l k == pl l ((k : Int) - 1) + 1)
theorem togB_iff (ms : List (List Int)) (k : Nat) : togB ms k = true ↔ tog ms k := by
  unfold togB tog
  simp [List.all_eq_true]

theorem tog_no {ms : List (List Int)} {i : Nat} {l : List Int} {k r : Int} (hl : ms[i]? = some l) (h : pl l k ≠ pl l r + 1) : false = ms.all fun l => pl l k == pl l r + 1 := by
  rw [eq_comm, List.all_eq_false]
  exact ⟨l, List.mem_of_getElem? hl, by simpa using h⟩
theorem tog_step {ms : List (List Int)} {i : Nat} {l : List Int} {k r : Int} (hq : ((ms.take i).all fun l => pl l k == pl l r + 1) = true) (hl : ms[i]? = some l) (h : pl l k = pl l r + 1) : ((ms.take (i + 1)).all fun l => pl l k == pl l r + 1) = true := by
  rw [take_at hl, List.all_append, hq]
  simp [h]

set_option maxRecDepth 100000 in
set_option maxHeartbeats 2000000 in
theorem rTogether_any (A : Option Addr) (n c B m k : Nat) (rows : List (Option Addr × Nat × Nat)) (ms : List (List Int)) (w : World) (hn : n ≤ 100) (hk : k < m) (hm : m ≤ 1000000) (hms : MsR m ms) (hA : RowsN w B A n rows ms) :
    Calls Tryz.prog 90 #[.slice A n c, .int .i64 k] w fun e w' => e = .returned (.bool (togB ms k)) ∧ ∃ q, w' = w.drewN q := by
  have hl := hA.len
  rcases Nat.eq_zero_or_pos k with rfl | hpos
  · have e0 : togB ms 0 = false := by simp [togB]
    rw [e0]
    clear hA hms
    go_enter Tryz.func90, Tryz.ntmps90
    go_wp2
    go_ret
    exact ⟨rfl, 0, rfl⟩
  · obtain ⟨r, hr⟩ : ∃ r, k = r + 1 := ⟨k - 1, by omega⟩
    have hS := Lib.hid (rStable_any A n c B m r rows ms w hn (by omega) hms hA)
    have e1 : (k : Int) - 1 = (r : Int) := by omega
    have hT : togB ms k = (allP ms r && ms.all fun l => pl l k == pl l r + 1) := by
      unfold togB
      rw [e1]
      simp [hpos]
    rw [hT]
    obtain ⟨st, hst⟩ : ∃ st, allP ms r = st := ⟨_, rfl⟩
    rw [hst] at hS ⊢
    have hAh := Lib.hid hA
    have hmsh := Lib.hid hms
    have hsth := Lib.hid hst
    have hlh := Lib.hid hl
    have hd0 : ((k : Int) == 0) = false := by simp; omega
    have hrm := Lib.hid (show r < m by omega)
    have hkm := Lib.hid hk
    have i3 : (0 : Int) ≤ (k : Int) := by omega
    have i5 : (0 : Int) ≤ (r : Int) := by omega
    have hkk : (k : Int) ≤ 1000000 := by omega
    have hw1 : IntKind.i64.wrap ((k : Int) - 1) = (r : Int) := by rw [e1]; exact IntWalk.i64_in _ (by omega)
    have hw2 : IntKind.i64.wrap (r : Int) = (r : Int) := IntWalk.i64_in _ (by omega)
    clear hA hms hT hst hpos hr hk hm hl
    cases st
    · go_enter Tryz.func90, Tryz.ntmps90
      go_wp2_with (go_at_call 86; refine hS.out.mono ?_; rintro e w1 ⟨rfl, rfl⟩)
      go_ret
      exact ⟨rfl, 0, rfl⟩
    · go_enter Tryz.func90, Tryz.ntmps90
      go_wp2_with (go_at_call 86; refine hS.out.mono ?_; rintro e w1 ⟨rfl, rfl⟩)
      go_loopw [5] (fun s5 wr => ∃ i : Nat, i ≤ n ∧ s5 = .int .i64 i ∧ Hid (((ms.take i).all fun l => pl l k == pl l r + 1) = true) ∧ Hid (∃ q, wr = w1.drewN q)) (fun s5 _ => n - (intOf s5).toNat)
      case atStart => exact ⟨0, Nat.zero_le _, rfl, Lib.hid rfl, Lib.hid ⟨0, rfl⟩⟩
      case round =>
        obtain ⟨i, hin, rfl, hq, hw⟩ := hrel
        obtain ⟨wo, rfl⟩ : ∃ wo : World, wo = wr := ⟨_, rfl⟩
        have hdr : Hid (∀ j, ∃ q, wo.drewN j = w1.drewN q) := Lib.hid (fun j => by obtain ⟨q, rfl⟩ := hw.out; exact ⟨_, World.drewN_drewN _ _ _⟩)
        have hAo : Hid (RowsN wo B A n rows ms) := Lib.hid (by obtain ⟨q, rfl⟩ := hw.out; exact hAh.out.drewN q)
        by_cases hlt : i < n
        · obtain ⟨b, o, A1, n1, c1, l, rfl, hb, hml, hc, hN⟩ := hAo.out.at_ hlt
          have hn1 : n1 = m := by have := hN.len; have := (hmsh.out l (List.mem_of_getElem? hml)).1; omega
          subst hn1
          obtain ⟨b1, o1, u, rfl, hb1, hu, hc1⟩ := hN.at_ hkm.out
          obtain ⟨b2, o2, v, he, hb2, hv, hc2⟩ := hN.at_ hrm.out
          injection he with he
          injection he with he1 he2
          subst he1
          subst he2
          obtain ⟨hpl, hur⟩ := hmsh.out.at_ hml hu
          obtain ⟨hpv, hvr⟩ := hmsh.out.at_ hml hv
          have i1 : (0 : Int) ≤ (i : Int) := by omega
          have i2 : (i : Int) < (n : Int) := by omega
          have i4 : (k : Int) < (n1 : Int) := by have := hkm.out; omega
          have i6 : (r : Int) < (n1 : Int) := by have := hrm.out; omega
          have hw3 : IntKind.i64.wrap (v + 1) = v + 1 := IntWalk.i64_in _ (by omega)
          by_cases huv : u = v + 1
          · have hyes := Lib.hid (tog_step hq.out hml (k := k) (r := r) (by rw [hpl, hpv]; exact huv))
            have hd : (u != v + 1) = false := by simpa using huv
            clear hml hu hpl hur hv hpv hvr hN huv
            go_wp2
            go_quiet (fail)
            obtain ⟨z1, rfl⟩ : ∃ z1, z1 = nq := ⟨_, rfl⟩
            go_wp2
            go_roundw
            case rel => exact ⟨i + 1, by omega, by go_num, hyes, Lib.hid (hdr.out z1)⟩
            case measure => simp [intOf]; omega
          · have hno := Lib.hid (tog_no hml (k := k) (r := r) (by rw [hpl, hpv]; exact huv))
            have hd : (u != v + 1) = true := by simpa using huv
            clear hml hu hpl hur hv hpv hvr hN huv
            go_wp2
            go_quiet (fail)
            obtain ⟨z1, rfl⟩ : ∃ z1, z1 = nq := ⟨_, rfl⟩
            go_wp2
            go_ret
            exact ⟨ret_bool (by rw [Bool.true_and]; exact hno.out), hdr.out z1⟩
        · obtain rfl : i = n := by omega
          have hall := Lib.hid (show (ms.all fun l => pl l k == pl l r + 1) = true by have := hq.out; rwa [List.take_of_length_le (by rw [hlh.out]; exact Nat.le_refl _)] at this)
          go_wp2
          go_ret
          exact ⟨ret_bool (by rw [hall.out]; rfl), hw.out⟩
end Go.Proofs.YtoopdgohdeddoaaGreatDoor
/- Proved here: a place in a block. -/
namespace Go.Proofs.YtoopdgohdeddoaaGreatDoor
open Go.RowKit
theorem addr_add (g k : Nat) : (⟨g, 0, none⟩ : Addr).add k = ⟨g, k, none⟩ := by unfold Addr.add; split <;> simp_all
/-- What a result's block holds. -/
theorem piece_at {w : World} {L : Nat} {t : TypeId} {u0 u1 u2 u3 : Value} (h : w.heap[L]? = some (.cells #[u0, u1, u2, u3] t (0, 0))) : w.cell? ⟨L, 0, none⟩ = some u0 ∧ w.cell? ⟨L, 1, none⟩ = some u1 ∧ w.cell? ⟨L, 2, none⟩ = some u2 ∧ w.cell? ⟨L, 3, none⟩ = some u3 ∧ w.frozen? ⟨L, 0, none⟩ = false ∧ w.frozen? ⟨L, 1, none⟩ = false ∧ w.frozen? ⟨L, 2, none⟩ = false ∧ w.frozen? ⟨L, 3, none⟩ = false :=
  ⟨by rw [cells_of h]; rfl, by rw [cells_of h]; rfl, by rw [cells_of h]; rfl, by rw [cells_of h]; rfl, unfrozen_of h 0, unfrozen_of h 1, unfrozen_of h 2, unfrozen_of h 3⟩
end Go.Proofs.YtoopdgohdeddoaaGreatDoor
/- Proved here, without conditions on the program: append as a step of a region that draws its order; a part of what reads as a list. -/
namespace Go.Proofs.YtoopdgohdeddoaaGreatDoor
open Go.RowKit
set_option linter.unusedVariables false

/-- append onto a row of the call's own, as one step of a region that draws. -/
theorem appendO_step {P : Program} {ops : Array Oper} {o : Oper} {a : Act} {w : World} {K : Act → World → Prop} {Q : Exit → Act → World → Prop} {G : Prop}
    (hg : o.guard = none) (s x : Operand) (t : TypeId) (hop : o.op = Op.call { callee := Callee.builtin Builtin.append, args := #[s, x], argTypes := #[t, t] })
    (base : Nat) (e : TypeId) (i : TypeInfo) (z : Value) (size bytes : Nat) (h1 : P.underlying t = some (.slice e)) (h2 : P.info? e = some i) (h3 : i.zero = some z) (h4 : i.size = size) (h5 : i.bytes = bytes) (h6 : z.cells.size = size) (h7 : 0 < size)
    (v : Value) (n : Nat) (xs : List Value) (hs : a.eval s = v) (hown : w.ownsRow base e size v n xs)
    (ad : Addr) (m c : Nat) (news : List Value) (hx : a.eval x = .slice (some ad) m c) (hn : news.length = m * size) (hc : ∀ j u, news[j]? = some u → w.cell? (ad.add j) = some u) (h1c : ∀ u ∈ news, u.oneCell' = true)
    (b1 : n + m ≤ maxLen) (b2 : (n + m) * bytes ≤ 140737488355328) (hbase : base ≤ w.heap.size)
    (hK : ∀ v' w', w'.ownsRow base e size v' (n + m) (xs ++ news) → w.grownBy w' v.ownBlock → (v'.ownBlock = v.ownBlock ∨ v'.ownBlock = some w.heap.size) → K (a.put o.dst v') w') :
    if Region.wanted o (yielded ops a.tmps) = true then Oper.wp P o a w K Q else G := by
  have hw : Region.wanted o (yielded ops a.tmps) = true := by simp [Region.wanted, hg]
  rw [if_pos hw]
  obtain ⟨v', w', hrun, r1, r2, _, r4⟩ := run_append_own_at (P := P) w base t o.type e i z size bytes h1 h2 h3 h4 h5 h6 h7 v n xs hown ad m c news hn hc h1c b1 b2 hbase
  unfold Oper.wp
  simp [execOp, hop, resolve, invoke, builtin, hs, hx, hrun, Result.andThen]
  exact hK v' w' r1 r2 r4

theorem appendR_step {P : Program} {ops : Array Oper} {o : Oper} {a : Act} {w : World} {K : Act → World → Prop} {Q : Exit → Act → World → Prop} {E : Prop} (hg : o.guard = none) (s x : Operand) (t : TypeId)
    (ho : o.op = .call { callee := .builtin .append, args := #[s, x], argTypes := #[t, t] })
    (base : Nat) (e : TypeId) (i : TypeInfo) (z : Value) (bytes : Nat) (ht : P.underlying t = some (.slice e)) (hi : P.info? e = some i) (hz : i.zero = some z)
    (hsize : i.size = 1) (hby : i.bytes = bytes) (hzs : z.cells.size = 1)
    (v : Value) (n : Nat) (xs : List Value) (hs : a.eval s = v) (hown : w.ownsRow base e 1 v n xs)
    (B : Nat) (A : Option Addr) (m c : Nat) (news : List Value) (hx : a.eval x = .slice A m c) (hr : Reads w B A m news) (h1 : ∀ u ∈ news, u.oneCell' = true)
    (h63 : n + m ≤ maxLen) (hbytes : (n + m) * bytes ≤ 140737488355328) (hbase : base ≤ w.heap.size)
    (h : ∀ v' w', w'.ownsRow base e 1 v' (n + m) (xs ++ news) → w.grownBy w' v.ownBlock → K (a.put o.dst v') w') : if Region.wanted o (yielded ops a.tmps) = true then Oper.wp P o a w K Q else E := by
  rw [if_pos (by simp [Region.wanted, hg])]
  exact wp_append_reads w s x t ho base e i z bytes ht hi hz hsize hby hzs v n xs hs hown B A m c news hx hr h1 h63 hbytes hbase h

theorem Reads.part {w : World} {B n b o : Nat} {xs : List Value} (h : Reads w B (some ⟨b, o, none⟩) n xs) {a m : Nat} (ham : a + m ≤ n) : Reads w B (some ⟨b, o + a, none⟩) m ((xs.drop a).take m) := by
  have hl := h.1
  refine ⟨by simp; omega, fun hm => ?_⟩
  obtain ⟨b', o', e, hb, hc⟩ := h.2 (by omega)
  injection e with e
  injection e with e1 e2
  subst e1
  subst e2
  refine ⟨b, o + a, rfl, hb, fun j u hu => ?_⟩
  rw [Nat.add_assoc]
  refine hc (a + j) u ?_
  rw [← hu, List.getElem?_take]
  have hj : j < m := by
    have := (List.getElem?_eq_some_iff.1 hu).1
    simp at this; omega
  rw [if_pos hj, List.getElem?_drop]

end Go.Proofs.YtoopdgohdeddoaaGreatDoor
