/- Proved here, out of the contracts of package align: the walk of AlignUnique. -/
import Derived.Test.YtijinhhlikhjfaaAlignLawC
namespace Go.Proofs.Ytijinhhlikhjfaa
open Go.RowKit
set_option linter.unusedVariables false

/-- Chunks that came in. -/
def ArgCks (w : World) (A : Option Addr) (n c : Nat) (cs : List Ck) : Prop := n ≤ c ∧ c ≤ maxLen ∧ CksR cs ∧ Cks w w.heap.size A n cs
/-- Sides' places, as far as side s, at place k. -/
def SideUp (ms : List (List Int)) (c : Ck) (s : Nat) (k : Int) : Prop := c.1 = true → ∀ (s' : Nat) (l : List Int) (sp : Sp), s' < s → ms[s']? = some l → c.2.2[s']? = some sp → pl l k = sp.1 + k - c.2.1.1
def PlaceAt (ms : List (List Int)) (c : Ck) (k : Int) : Prop := allP ms k = c.1 ∧ (c.1 = true → ∀ (s : Nat) (l : List Int) (sp : Sp), ms[s]? = some l → c.2.2[s]? = some sp → pl l k = sp.1 + k - c.2.1.1)
theorem sideUp_step {ms : List (List Int)} {c : Ck} {s : Nat} {k x : Int} {l : List Int} {sp : Sp} (hl : ms[s]? = some l) (hs : c.2.2[s]? = some sp) (hx : pl l k = x) : SideUp ms c (s + 1) k ↔ (SideUp ms c s k ∧ (c.1 = true → x = sp.1 + k - c.2.1.1)) := by
  constructor
  · intro h
    refine ⟨fun hc s' l' sp' h1 => h hc s' l' sp' (by omega), fun hc => ?_⟩
    rw [← hx]
    exact h hc s l sp (by omega) hl hs
  · rintro ⟨h1, h2⟩ hc s' l' sp' h3 h4 h5
    rcases Nat.lt_or_ge s' s with h | h
    · exact h1 hc s' l' sp' h h4 h5
    · obtain rfl : s' = s := by omega
      rw [hl] at h4
      rw [hs] at h5
      injection h4 with h4
      injection h5 with h5
      subst h4
      subst h5
      rw [hx]
      exact h2 hc
theorem placeAt_iff {ms : List (List Int)} {c : Ck} {k : Int} : PlaceAt ms c k ↔ (SideUp ms c ms.length k ∧ allP ms k = c.1) := by
  constructor
  · rintro ⟨h1, h2⟩
    exact ⟨fun hc s l sp _ h3 h4 => h2 hc s l sp h3 h4, h1⟩
  · rintro ⟨h1, h2⟩
    exact ⟨h2, fun hc s l sp h3 h4 => h1 hc s l sp (List.getElem?_eq_some_iff.1 h3).1 h3 h4⟩
theorem upto_step {P : Int → Prop} {F K : Nat} (h : F ≤ K) : (∀ k : Int, (F : Int) ≤ k → k < ((K + 1 : Nat) : Int) → P k) ↔ ((∀ k : Int, (F : Int) ≤ k → k < (K : Int) → P k) ∧ P K) := by
  constructor
  · intro g
    exact ⟨fun k h1 h2 => g k h1 (by omega), g K (by omega) (by omega)⟩
  · rintro ⟨g1, g2⟩ k h1 h2
    rcases Int.lt_or_le k K with h3 | h3
    · exact g1 k h1 h3
    · obtain rfl : k = (K : Int) := by omega
      exact g2
theorem take_all {α : Type} {P : α → Prop} {l : List α} {i : Nat} {c : α} (h : l[i]? = some c) : (∀ d ∈ l.take (i + 1), P d) ↔ ((∀ d ∈ l.take i, P d) ∧ P c) := by
  rw [take_at h]
  constructor
  · intro g
    exact ⟨fun d hd => g d (List.mem_append_left _ hd), g c (by simp)⟩
  · rintro ⟨g1, g2⟩ d hd
    rcases List.mem_append.1 hd with hd | hd
    · exact g1 d hd
    · obtain rfl : d = c := by simpa using hd
      exact g2

def IsRange (cs : List Ck) : Prop := ∀ c ∈ cs, 0 ≤ c.2.1.1 ∧ c.2.1.1 ≤ c.2.1.2 ∧ c.2.1.2 ≤ 30 ∧ ∀ s ∈ c.2.2, 0 ≤ s.1 ∧ s.1 ≤ s.2 ∧ s.2 ≤ 30

section
variable (H : AlignOk)
include H

set_option maxRecDepth 100000 in
set_option maxHeartbeats 8000000 in
theorem AlignUnique_walk (A : Option Addr) (n c : Nat) (base : List UInt8) (A' : Option Addr) (n' c' : Nat) (rows : List (Option Addr × Nat × Nat)) (sides : List (List UInt8)) (AL : Option Addr) (nL cL : Nat) (ls : List Ck) (w : World) (hA : ArgBy w A n c base) (hA' : ArgRB w A' n' c' rows sides) (hL : ArgCks w AL nL cL ls) :
    Calls Try.prog 5 #[.slice A n c, .slice A' n' c', .slice AL nL cL] w fun e w' => e = .returned (.bool true) ∧ Below w.heap.size w w' := by
  have hbl : base.length = n := hA.2.2.len
  have hsl : sides.length = n' := hA'.2.2.len
  obtain ⟨fb, hfb⟩ : ∃ fb : Bool, fb = true ↔ fewD base sides := by
    by_cases h : fewD base sides
    · exact ⟨true, by simp [h]⟩
    · exact ⟨false, by simp [h]⟩
  have hF := Lib.hid (fun (w1 : World) (hb : Below w.heap.size w w1) => Few_any A n c base A' n' c' rows sides w1 (Nat.le_trans hA.1 hA.2.1) (Nat.le_trans hA'.1 hA'.2.1) (hA.2.2.up hb) (hA'.2.2.up hb) fb hfb)
  cases fb
  · clear hA hA' hfb hL
    go_enter Try.func5, Try.ntmps5
    go_wp2_with fail
    refine (awake_any H _).mono ?_
    rintro e w1 ⟨rfl, hB1⟩
    have hF1 := Lib.hid (hF.out w1 hB1)
    go_wp2_with (go_at_call 9; refine hF1.out.mono ?_; rintro e w' ⟨rfl, rfl⟩)
    go_ret
    exact ⟨rfl, hB1⟩
  by_cases hgt : 100 < nL
  · clear hA hA' hfb hL
    have g1 : (100 : Int) < (nL : Int) := by omega
    have g2 : decide ((100 : Int) < (nL : Int)) = true := by simp; omega
    go_enter Try.func5, Try.ntmps5
    go_wp2_with fail
    refine (awake_any H _).mono ?_
    rintro e w1 ⟨rfl, hB1⟩
    have hF1 := Lib.hid (hF.out w1 hB1)
    go_wp2_with (go_at_call 9; refine hF1.out.mono ?_; rintro e w' ⟨rfl, rfl⟩)
    go_ret
    exact ⟨rfl, hB1⟩
  have g0 : ¬ (100 : Int) < (nL : Int) := by omega
  have g2 : decide ((100 : Int) < (nL : Int)) = false := by simp; omega
  obtain ⟨hb30, hs1, hs6, hs30⟩ := hfb.1 rfl
  clear hfb
  have h1 := Lib.hid (fun (w' : World) (hb : Below w.heap.size w w') => Ints_any A n c w'.heap.size base w' (by omega) (Nat.le_refl _) (hA.2.2.up hb))
  have h3 := Lib.hid (fun (w' : World) (hb : Below w.heap.size w w') => Lists_any A' n' c' rows sides w' (by omega) (fun s h => by have := hs30 s h; omega) (hA'.2.2.up hb))
  have h4 := Lib.hid (fun (A1 A2 : Option Addr) (n2 c1 c2 : Nat) (rs : List (Option Addr × Nat × Nat)) (w' : World) (e2 : n2 ≤ 1000) (k1 : Nums w' w'.heap.size A1 (ints base).length (ints base)) (k2 : RowsN w' w'.heap.size A2 n2 rs (sides.map ints)) => Matches_any A1 (ints base).length c1 (ints base) A2 n2 c2 rs (sides.map ints) w' (by rw [ints_len]; omega) e2 (fun s h => by obtain ⟨t, ht, rfl⟩ := List.mem_map.1 h; have := hs30 t ht; rw [ints_len]; omega) k1 k2)
  have h6 := Lib.hid (fun (w' : World) (hb : Below w.heap.size w w') => cut_any H A n c base A' n' c' rows sides w' (by omega) (by omega) (by omega) hs30 (hA.2.2.up hb) (hA'.2.2.up hb))
  obtain ⟨vb, hvb⟩ : ∃ vb : Bool, vb = true ↔ Cov n (sizesOf (sides.map ints)) ls none 0 (List.replicate n' 0) := by
    by_cases h : Cov n (sizesOf (sides.map ints)) ls none 0 (List.replicate n' 0)
    · exact ⟨true, by simp [h]⟩
    · exact ⟨false, by simp [h]⟩
  have h7 := Lib.hid (fun (A2 : Option Addr) (n2 c2 : Nat) (w' : World) (hb : Below w.heap.size w w') (e2 : n2 = n') (k2 : Nums w' w'.heap.size A2 n2 (sizesOf (sides.map ints))) =>
    covers_any AL nL cL w'.heap.size ls n A2 n2 c2 w'.heap.size (sizesOf (sides.map ints)) w' (Nat.le_trans hL.1 hL.2.1) (by omega) hL.2.2.1 (hL.2.2.2.up hb) k2 (Nat.le_refl _) (Nat.le_refl _) vb (by rw [e2]; exact hvb))
  have hvbh := Lib.hid hvb
  have hcov : Hid (vb = true → IsRange ls) := Lib.hid (fun h => cov_range (m := n) (K := 30) (by omega) (fun z hz => (sizes_few hs30 hz).2) (Int.le_refl _) (fun v hv => by rw [List.eq_of_mem_replicate hv]; omega) (hvb.1 h))
  have hcovl : Hid (vb = true → ∀ c ∈ ls, c.2.2.length = n' ∧ c.2.1.2 ≤ n) := Lib.hid (fun h c hc => by have := cov_all (hvb.1 h) c hc; rw [sizes_len, List.length_map, hsl] at this; exact this)
  have hend := Lib.hid (fun (fb : Bool) (hfb2 : fb = true ↔ (vb = true ∧ ∀ c ∈ ls, Places (msOf (ints base) (sides.map ints)) c)) (w' : World) (hb : Below w.heap.size w w') =>
    (show Calls Try.prog 13 #[.slice A n c, .slice A' n' c'] w' fun e w2 => ∃ A5 n5 c5, e = .returned (.slice A5 n5 c5) ∧ Calls Try.prog 15 #[.slice AL nL cL, .slice A5 n5 c5] w2 fun e w3 => e = .returned (.bool fb) ∧ Below w.heap.size w w3 from
      ((h6.out w' hb).mono fun e w2 h => by
        obtain ⟨A5, n5, c5, cs, rfl, hcut, hn5, q9, q10, q11, hb4⟩ := h
        have hB2 := hb.trans (hb4.mono hb.size)
        refine ⟨A5, n5, c5, rfl, (kSame_any AL A5 nL n5 cL c5 w2.heap.size w2.heap.size ls cs w2 (Nat.le_trans hL.1 hL.2.1) (Nat.le_trans q9 q10) (hL.2.2.2.up hB2) q11).mono fun e w3 h3 => ?_⟩
        obtain ⟨rfl, kk, rfl⟩ := h3
        refine ⟨?_, below_drewN hB2 kk⟩
        have : decide (ls = cs) = fb := by
          rw [Bool.eq_iff_iff, decide_eq_true_iff, hfb2, hvb]
          have e1 : (sizesOf (sides.map ints)).length = n' := by rw [sizes_len, List.length_map]; exact hsl
          have hc1 := hcut.1
          rw [hbl, e1] at hc1
          constructor
          · rintro rfl
            exact ⟨hc1, hcut.2⟩
          · rintro ⟨a1, a2⟩
            exact cov_one (by rw [ms_len, sizes_len]) a1 hc1 a2 hcut.2
        rw [this])))
  have hLu := Lib.hid (fun (w' : World) (hb : Below w.heap.size w w') => hL.2.2.2.up hb)
  have hLm : Hid (nL ≤ 100) := Lib.hid (by omega)
  have hszl : Hid ((sizesOf (sides.map ints)).length = n') := Lib.hid (by rw [sizes_len, List.length_map]; exact hsl)
  have hn6 : Hid (n' ≤ 6) := Lib.hid (by omega)
  have hslh := Lib.hid hsl
  have h8 := Lib.hid (fun (w' : World) (hb : Below w.heap.size w w') => And.intro (hA.2.2.up hb) (hA'.2.2.up hb))
  have hnm : Hid (n ≤ 30 ∧ base.length = n) := Lib.hid ⟨by omega, hbl⟩
  clear hA hA' hbl hsl hs30 hs1 hs6 hb30 hL hvb hgt
  go_enter Try.func5, Try.ntmps5
  go_wp2_with fail
  refine (awake_any H _).mono ?_
  rintro e w1 ⟨rfl, hB1⟩
  have hF1 := Lib.hid (hF.out w1 hB1)
  have h1' := Lib.hid (h1.out w1 hB1)
  have hB1h := Lib.hid hB1
  clear hB1
  go_wp2_with (first
    | (go_at_call 9; refine hF1.out.mono ?_; rintro e w' ⟨rfl, rfl⟩)
    | (go_at_call 14; refine h1'.out.mono ?_; rintro e wa ⟨u, rfl, hu, hba⟩; obtain ⟨A1, c1, rfl, -, -, q1⟩ := nums_of_own hu; have hBa := Lib.hid (hB1h.out.trans (hba.mono hB1h.out.size)); have h3' := Lib.hid (h3.out wa hBa.out); clear hu hba)
    | (go_at_call 11; refine h3'.out.mono ?_; rintro e w2 ⟨v, rs, rfl, hR, hb2⟩; obtain ⟨A2, c2, rfl, -, -, q2⟩ := hR.reads; have hB2 := Lib.hid (hBa.out.trans (hb2.mono hBa.out.size)); have hrl := hR.len; have h4' := Lib.hid (h4.out A1 A2 rs.length c1 c2 rs w2 (by rw [hrl, List.length_map]; have := hslh.out; have := hn6.out; omega) (q1.up hb2) q2); clear hR hrl hb2)
    | (go_at_call 10; refine h4'.out.mono ?_; rintro e w3 ⟨v1, v2, rs2, rfl, hM⟩; obtain ⟨A3, c3, rfl, -, -, q5⟩ := nums_of_own hM.own1; obtain ⟨A4, c4, rfl, -, -, q8⟩ := hM.rows2.reads; have hMl := Lib.hid hM.rows2.len; have q8h := Lib.hid q8; have hB3 := Lib.hid (hB2.out.trans (hM.below.mono hB2.out.size)); have h7' := Lib.hid (h7.out A3 (sizesOf (sides.map ints)).length c3 w3 hB3.out hszl.out q5); clear hM q5)
    | (go_at_call 12; refine h7'.out.mono ?_; rintro e w5 ⟨rfl, hb5⟩))
  have hB5 := Lib.hid (hB3.out.trans (hb5.mono hB3.out.size))
  have hR := q8h.out.up hb5
  have hK := hLu.out w5 hB5.out
  have hKh := Lib.hid hK
  have hRh := Lib.hid hR
  have hLl : Hid (ls.length = nL) := Lib.hid hK.len
  have hLm2 := hLm.out
  have hn'6 := hn6.out
  have hn30 := hnm.out.1
  have hrl : Hid (rs2.length = n') := Lib.hid (by rw [hMl.out, ms_len, List.length_map]; exact hslh.out)
  have hend' := Lib.hid (fun (fb : Bool) (hfb2 : fb = true ↔ (vb = true ∧ ∀ c ∈ ls, Places (msOf (ints base) (sides.map ints)) c)) (q : Nat) => hend.out fb hfb2 (w5.drewN q) (below_drewN hB5.out q))
  clear hK hR hb5 q8h q8 h7' h4' h3' hF1 h3 h4 h6 h7 hF h8 h1 h1' q1 q2 hend hLu hLm g0 g2
  go_loopw [10, 11, 12, 13, 14] (fun sf si _ _ _ wr => ∃ (i q : Nat) (fb : Bool), i ≤ nL ∧ sf = .bool fb ∧ si = .int .i64 i ∧ Hid (fb = true ↔ (vb = true ∧ ∀ c ∈ ls.take i, Places (msOf (ints base) (sides.map ints)) c)) ∧ wr = w5.drewN q) (fun _ si _ _ _ _ => nL - (intOf si).toNat)
  case atStart => exact ⟨0, 0, vb, Nat.zero_le _, rfl, rfl, Lib.hid (by simp), rfl⟩
  case round =>
    obtain ⟨i, q, fb, hi, rfl, rfl, hfi, rfl⟩ := hrel
    cases fb
    · have he := Lib.hid (hend'.out false (by
        constructor
        · intro h; cases h
        · rintro ⟨a1, a2⟩
          exact hfi.out.2 ⟨a1, fun c hc => a2 c (List.mem_of_mem_take hc)⟩) q)
      go_wp2_with (first
        | (go_at_call 13; refine he.out.mono ?_; rintro e w6 ⟨A5, n5, c5, rfl, hsm⟩; have hsmh := Lib.hid hsm; clear hsm)
        | (go_at_call 15; refine hsmh.out.mono ?_; rintro e w7 ⟨rfl, hB7⟩))
      go_ret
      exact ⟨rfl, hB7⟩
    by_cases hlt : i < nL
    · have hvt : vb = true := (hfi.out.1 rfl).1
      obtain ⟨b, o, ⟨st, ⟨f, t⟩, ss⟩, A1, n1, c1, rfl, hb, hx, d1, d2, d3, d4, hnc1, hm1, hS1⟩ := hKh.out.at_ (k := i) hlt
      obtain ⟨r1, r2, r3, r4⟩ := hcov.out hvt _ (List.mem_of_getElem? hx)
      obtain ⟨r5, r6⟩ := hcovl.out hvt _ (List.mem_of_getElem? hx)
      simp only at d1 d2 d3 r1 r2 r3 r4 r5 r6
      obtain ⟨F, rfl⟩ := Int.eq_ofNat_of_zero_le r1
      obtain ⟨Z, rfl⟩ := Int.eq_ofNat_of_zero_le (Int.le_trans r1 r2)
      have hn1 : n1 = n' := by have h2 := hS1.len; simp only at h2; omega
      subst hn1
      have hZn : Z ≤ n := by omega
      have r4h := Lib.hid r4
      have hS1h := Lib.hid hS1
      have i1 : (0 : Int) ≤ (i : Int) := by omega
      have i2 : (i : Int) < (nL : Int) := by omega
      have hnext : Hid (∀ fb2 : Bool, (fb2 = true ↔ ∀ k : Int, (F : Int) ≤ k → k < (Z : Int) → PlaceAt (msOf (ints base) (sides.map ints)) (st, (F, Z), ss) k) → (fb2 = true ↔ (vb = true ∧ ∀ c ∈ ls.take (i + 1), Places (msOf (ints base) (sides.map ints)) c))) := Lib.hid (fun fb2 h => by
        rw [take_all hx, h]
        exact ⟨fun h => ⟨hvt, (hfi.out.1 rfl).2, h⟩, fun h => h.2.2⟩)
      clear r4 hS1 hx r5 hvt
      go_wp2
      go_loopw [10, 12, 13, 14] (fun sf sk _ _ wr => ∃ (K q : Nat) (fb : Bool), F ≤ K ∧ K ≤ Z ∧ sf = .bool fb ∧ sk = .int .i64 K ∧ Hid (fb = true ↔ ∀ k : Int, (F : Int) ≤ k → k < (K : Int) → PlaceAt (msOf (ints base) (sides.map ints)) (st, (F, Z), ss) k) ∧ wr = w5.drewN q) (fun _ sk _ _ _ => Z - (intOf sk).toNat)
      case atStart => exact ⟨F, q, true, Nat.le_refl _, by omega, rfl, rfl, Lib.hid (by simp only [true_iff]; intro k h1 h2; omega), rfl⟩
      case round =>
        obtain ⟨K, q2, fk, hK1, hK2, rfl, rfl, hfk, rfl⟩ := hrel
        by_cases hKZ : K < Z
        · have j1 : (0 : Int) ≤ (K : Int) := by omega
          have j2 : (K : Int) < (n : Int) := by omega
          have hKZi : (K : Int) < (Z : Int) := by omega
          go_wp2
          go_loopw [10, 13, 14] (fun sf sa ss' wr => ∃ (s q : Nat) (ob fb : Bool), s ≤ n1 ∧ sf = .bool fb ∧ sa = .bool ob ∧ ss' = .int .i64 s ∧ Hid (ob = allP ((msOf (ints base) (sides.map ints)).take s) K) ∧ Hid (fb = true ↔ (fk = true ∧ SideUp (msOf (ints base) (sides.map ints)) (st, (F, Z), ss) s K)) ∧ wr = w5.drewN q) (fun _ _ ss' _ => n1 - (intOf ss').toNat)
          case atStart => exact ⟨0, q2, true, fk, Nat.zero_le _, rfl, rfl, rfl, Lib.hid rfl, Lib.hid ⟨fun h => ⟨h, fun _ s' _ _ h3 => absurd h3 (by omega)⟩, fun h => h.1⟩, rfl⟩
          case round =>
            obtain ⟨s, q3, ob, fs, hs, rfl, rfl, rfl, hob, hfs, rfl⟩ := hrel
            by_cases hsn : s < n1
            · obtain ⟨g, p, ⟨s1, s2⟩, rfl, hg, hsp, f1, f2⟩ := hS1h.out.at_ (k := s) hsn
              obtain ⟨g2, p2, A2', n2', c2', l, rfl, hg2, hl, f3, hNl⟩ := hRh.out.at_ (k := s) (by have := hrl.out; omega)
              obtain ⟨bs, hbs⟩ : ∃ bs, sides[s]? = some bs := ⟨_, List.getElem?_eq_getElem (by have := hslh.out; omega)⟩
              have hle : l = mt (ints base) (ints bs) 0 := by have := ms_at (base := base) hbs; rw [hl] at this; injection this
              subst hle
              have hn2 : n2' = n := by have := hNl.len; rw [mt_len, ints_len] at this; have h2 := hnm.out.2; omega
              subst hn2
              obtain ⟨g4, p4, x, rfl, hg4, hx, f5⟩ := hNl.at_ (k := K) (by omega)
              obtain ⟨u1, u2, u3⟩ := r4h.out _ (List.mem_of_getElem? hsp)
              simp only at f1 f2 u1 u2 u3
              have j3 : (0 : Int) ≤ (s : Int) := by omega
              have j4 : (s : Int) < (n1 : Int) := by omega
              have j5 : (s : Int) < (rs2.length : Int) := by have := hrl.out; omega
              have e1 : IntKind.i64.wrap (s1 + K) = s1 + K := IntWalk.i64_in _ (by omega)
              have e2 : IntKind.i64.wrap (s1 + K - F) = s1 + K - F := IntWalk.i64_in _ (by omega)
              have hstep := Lib.hid (allP_step hl (K : Int))
              have hup := Lib.hid (sideUp_step (c := (st, (F, Z), ss)) hl hsp (pl_at hx))
              have hxh := Lib.hid (pl_at hx)
              clear hx hsp hbs hl hNl
              cases ob
              · have hob2 : Hid (false = allP ((msOf (ints base) (sides.map ints)).take (s + 1)) K) := Lib.hid (by rw [hstep.out, ← hob.out]; simp)
                cases fs
                · have hfs2 : Hid (∀ fb2 : Bool, fb2 = false → (fb2 = true ↔ (fk = true ∧ SideUp (msOf (ints base) (sides.map ints)) (st, (F, Z), ss) (s + 1) K))) := Lib.hid (by rintro fb2 rfl; rw [hup.out, ← and_assoc, ← hfs.out]; simp)
                  go_wp2
                  go_quiet (fail)
                  obtain ⟨z1, rfl⟩ : ∃ z1, z1 = nq := ⟨_, rfl⟩
                  go_wp2
                  go_roundw
                  case rel => exact ⟨s + 1, q3 + z1, _, _, by omega, rfl, rfl, by go_num, hob2, Lib.hid (hfs2.out _ (by rfl)), by simp⟩
                  case measure => simp [intOf] <;> omega
                · cases st
                  · have hfs2 : Hid (∀ fb2 : Bool, fb2 = true → (fb2 = true ↔ (fk = true ∧ SideUp (msOf (ints base) (sides.map ints)) (false, (F, Z), ss) (s + 1) K))) := Lib.hid (by rintro fb2 rfl; rw [hup.out, ← and_assoc, ← hfs.out]; simp)
                    go_wp2
                    go_quiet (fail)
                    obtain ⟨z1, rfl⟩ : ∃ z1, z1 = nq := ⟨_, rfl⟩
                    go_wp2
                    go_roundw
                    case rel => exact ⟨s + 1, q3 + z1, _, _, by omega, rfl, rfl, by go_num, hob2, Lib.hid (hfs2.out _ (by rfl)), by simp⟩
                    case measure => simp [intOf] <;> omega
                  · by_cases hxe : x = s1 + K - F
                    · have hxeb : (x == s1 + K - F) = true := by simpa using hxe
                      have hfs2 : Hid (∀ fb2 : Bool, fb2 = true → (fb2 = true ↔ (fk = true ∧ SideUp (msOf (ints base) (sides.map ints)) (true, (F, Z), ss) (s + 1) K))) := Lib.hid (by rintro fb2 rfl; rw [hup.out, ← and_assoc, ← hfs.out]; simp [hxe])
                      clear hxe
                      go_wp2
                      go_quiet (fail)
                      obtain ⟨z1, rfl⟩ : ∃ z1, z1 = nq := ⟨_, rfl⟩
                      go_wp2
                      go_roundw
                      case rel => exact ⟨s + 1, q3 + z1, _, _, by omega, rfl, rfl, by go_num, hob2, Lib.hid (hfs2.out _ (by rfl)), by simp⟩
                      case measure => simp [intOf] <;> omega
                    · have hxeb : (x == s1 + K - F) = false := by simpa using hxe
                      have hfs2 : Hid (∀ fb2 : Bool, fb2 = false → (fb2 = true ↔ (fk = true ∧ SideUp (msOf (ints base) (sides.map ints)) (true, (F, Z), ss) (s + 1) K))) := Lib.hid (by rintro fb2 rfl; rw [hup.out, ← and_assoc, ← hfs.out]; simp [hxe])
                      clear hxe
                      go_wp2
                      go_quiet (fail)
                      obtain ⟨z1, rfl⟩ : ∃ z1, z1 = nq := ⟨_, rfl⟩
                      go_wp2
                      go_roundw
                      case rel => exact ⟨s + 1, q3 + z1, _, _, by omega, rfl, rfl, by go_num, hob2, Lib.hid (hfs2.out _ (by rfl)), by simp⟩
                      case measure => simp [intOf] <;> omega
              · by_cases hx0 : 0 ≤ x
                · have hx0b : decide (0 ≤ x) = true := by simpa using hx0
                  have hob2 : Hid (true = allP ((msOf (ints base) (sides.map ints)).take (s + 1)) K) := Lib.hid (by rw [hstep.out, ← hob.out, hxh.out]; simp [hx0])
                  cases fs
                  · have hfs2 : Hid (∀ fb2 : Bool, fb2 = false → (fb2 = true ↔ (fk = true ∧ SideUp (msOf (ints base) (sides.map ints)) (st, (F, Z), ss) (s + 1) K))) := Lib.hid (by rintro fb2 rfl; rw [hup.out, ← and_assoc, ← hfs.out]; simp)
                    go_wp2
                    go_quiet (fail)
                    obtain ⟨z1, rfl⟩ : ∃ z1, z1 = nq := ⟨_, rfl⟩
                    go_wp2
                    go_roundw
                    case rel => exact ⟨s + 1, q3 + z1, _, _, by omega, rfl, rfl, by go_num, hob2, Lib.hid (hfs2.out _ (by rfl)), by simp⟩
                    case measure => simp [intOf] <;> omega
                  · cases st
                    · have hfs2 : Hid (∀ fb2 : Bool, fb2 = true → (fb2 = true ↔ (fk = true ∧ SideUp (msOf (ints base) (sides.map ints)) (false, (F, Z), ss) (s + 1) K))) := Lib.hid (by rintro fb2 rfl; rw [hup.out, ← and_assoc, ← hfs.out]; simp)
                      go_wp2
                      go_quiet (fail)
                      obtain ⟨z1, rfl⟩ : ∃ z1, z1 = nq := ⟨_, rfl⟩
                      go_wp2
                      go_roundw
                      case rel => exact ⟨s + 1, q3 + z1, _, _, by omega, rfl, rfl, by go_num, hob2, Lib.hid (hfs2.out _ (by rfl)), by simp⟩
                      case measure => simp [intOf] <;> omega
                    · by_cases hxe : x = s1 + K - F
                      · have hxeb : (x == s1 + K - F) = true := by simpa using hxe
                        have hfs2 : Hid (∀ fb2 : Bool, fb2 = true → (fb2 = true ↔ (fk = true ∧ SideUp (msOf (ints base) (sides.map ints)) (true, (F, Z), ss) (s + 1) K))) := Lib.hid (by rintro fb2 rfl; rw [hup.out, ← and_assoc, ← hfs.out]; simp [hxe])
                        clear hxe
                        go_wp2
                        go_quiet (fail)
                        obtain ⟨z1, rfl⟩ : ∃ z1, z1 = nq := ⟨_, rfl⟩
                        go_wp2
                        go_roundw
                        case rel => exact ⟨s + 1, q3 + z1, _, _, by omega, rfl, rfl, by go_num, hob2, Lib.hid (hfs2.out _ (by rfl)), by simp⟩
                        case measure => simp [intOf] <;> omega
                      · have hxeb : (x == s1 + K - F) = false := by simpa using hxe
                        have hfs2 : Hid (∀ fb2 : Bool, fb2 = false → (fb2 = true ↔ (fk = true ∧ SideUp (msOf (ints base) (sides.map ints)) (true, (F, Z), ss) (s + 1) K))) := Lib.hid (by rintro fb2 rfl; rw [hup.out, ← and_assoc, ← hfs.out]; simp [hxe])
                        clear hxe
                        go_wp2
                        go_quiet (fail)
                        obtain ⟨z1, rfl⟩ : ∃ z1, z1 = nq := ⟨_, rfl⟩
                        go_wp2
                        go_roundw
                        case rel => exact ⟨s + 1, q3 + z1, _, _, by omega, rfl, rfl, by go_num, hob2, Lib.hid (hfs2.out _ (by rfl)), by simp⟩
                        case measure => simp [intOf] <;> omega
                · have hx0b : decide (0 ≤ x) = false := by simpa using hx0
                  have hob2 : Hid (false = allP ((msOf (ints base) (sides.map ints)).take (s + 1)) K) := Lib.hid (by rw [hstep.out, ← hob.out, hxh.out]; simp [hx0])
                  cases fs
                  · have hfs2 : Hid (∀ fb2 : Bool, fb2 = false → (fb2 = true ↔ (fk = true ∧ SideUp (msOf (ints base) (sides.map ints)) (st, (F, Z), ss) (s + 1) K))) := Lib.hid (by rintro fb2 rfl; rw [hup.out, ← and_assoc, ← hfs.out]; simp)
                    go_wp2
                    go_quiet (fail)
                    obtain ⟨z1, rfl⟩ : ∃ z1, z1 = nq := ⟨_, rfl⟩
                    go_wp2
                    go_roundw
                    case rel => exact ⟨s + 1, q3 + z1, _, _, by omega, rfl, rfl, by go_num, hob2, Lib.hid (hfs2.out _ (by rfl)), by simp⟩
                    case measure => simp [intOf] <;> omega
                  · cases st
                    · have hfs2 : Hid (∀ fb2 : Bool, fb2 = true → (fb2 = true ↔ (fk = true ∧ SideUp (msOf (ints base) (sides.map ints)) (false, (F, Z), ss) (s + 1) K))) := Lib.hid (by rintro fb2 rfl; rw [hup.out, ← and_assoc, ← hfs.out]; simp)
                      go_wp2
                      go_quiet (fail)
                      obtain ⟨z1, rfl⟩ : ∃ z1, z1 = nq := ⟨_, rfl⟩
                      go_wp2
                      go_roundw
                      case rel => exact ⟨s + 1, q3 + z1, _, _, by omega, rfl, rfl, by go_num, hob2, Lib.hid (hfs2.out _ (by rfl)), by simp⟩
                      case measure => simp [intOf] <;> omega
                    · by_cases hxe : x = s1 + K - F
                      · have hxeb : (x == s1 + K - F) = true := by simpa using hxe
                        have hfs2 : Hid (∀ fb2 : Bool, fb2 = true → (fb2 = true ↔ (fk = true ∧ SideUp (msOf (ints base) (sides.map ints)) (true, (F, Z), ss) (s + 1) K))) := Lib.hid (by rintro fb2 rfl; rw [hup.out, ← and_assoc, ← hfs.out]; simp [hxe])
                        clear hxe
                        go_wp2
                        go_quiet (fail)
                        obtain ⟨z1, rfl⟩ : ∃ z1, z1 = nq := ⟨_, rfl⟩
                        go_wp2
                        go_roundw
                        case rel => exact ⟨s + 1, q3 + z1, _, _, by omega, rfl, rfl, by go_num, hob2, Lib.hid (hfs2.out _ (by rfl)), by simp⟩
                        case measure => simp [intOf] <;> omega
                      · have hxeb : (x == s1 + K - F) = false := by simpa using hxe
                        have hfs2 : Hid (∀ fb2 : Bool, fb2 = false → (fb2 = true ↔ (fk = true ∧ SideUp (msOf (ints base) (sides.map ints)) (true, (F, Z), ss) (s + 1) K))) := Lib.hid (by rintro fb2 rfl; rw [hup.out, ← and_assoc, ← hfs.out]; simp [hxe])
                        clear hxe
                        go_wp2
                        go_quiet (fail)
                        obtain ⟨z1, rfl⟩ : ∃ z1, z1 = nq := ⟨_, rfl⟩
                        go_wp2
                        go_roundw
                        case rel => exact ⟨s + 1, q3 + z1, _, _, by omega, rfl, rfl, by go_num, hob2, Lib.hid (hfs2.out _ (by rfl)), by simp⟩
                        case measure => simp [intOf] <;> omega
            · obtain rfl : s = n1 := by omega
              have j5 : ¬ (s : Int) < (rs2.length : Int) := by have := hrl.out; omega
              have hlen : (msOf (ints base) (sides.map ints)).length = s := by rw [ms_len, List.length_map]; exact hslh.out
              have hfin : Hid (∀ fb2 : Bool, fb2 = (fs && (ob == st)) → (fb2 = true ↔ ∀ k : Int, (F : Int) ≤ k → k < ((K + 1 : Nat) : Int) → PlaceAt (msOf (ints base) (sides.map ints)) (st, (F, Z), ss) k)) := Lib.hid (fun fb2 h => by
                have h1 := hob.out
                rw [List.take_of_length_le (by omega)] at h1
                rw [upto_step hK1, placeAt_iff, hlen, h, Bool.and_eq_true, hfs.out, hfk.out, beq_iff_eq, h1, and_assoc])
              clear hlen
              cases fs <;> cases ob <;> cases st
              all_goals
                go_wp2
                go_roundw
                case rel => exact ⟨K + 1, q3, _, by omega, by omega, rfl, by go_num, Lib.hid (hfin.out _ (by rfl)), rfl⟩
                case measure => simp [intOf] <;> omega
        · obtain rfl : K = Z := by omega
          have hres := Lib.hid (hnext.out fk hfk.out)
          go_wp2
          go_roundw
          case rel => exact ⟨i + 1, q2, fk, by omega, rfl, by go_num, hres, rfl⟩
          case measure => simp [intOf] <;> omega
    · obtain rfl : i = nL := by omega
      have he := Lib.hid (hend'.out true (by
        have h1 := hfi.out
        rw [List.take_of_length_le (by have := hLl.out; omega)] at h1
        exact h1) q)
      go_wp2_with (first
        | (go_at_call 13; refine he.out.mono ?_; rintro e w6 ⟨A5, n5, c5, rfl, hsm⟩; have hsmh := Lib.hid hsm; clear hsm)
        | (go_at_call 15; refine hsmh.out.mono ?_; rintro e w7 ⟨rfl, hB7⟩))
      go_ret
      exact ⟨rfl, hB7⟩
end
end Go.Proofs.Ytijinhhlikhjfaa
