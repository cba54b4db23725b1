/- What the statements of layer 5 ask of package align, and what follows of it: awake, cut. -/
import Derived.Test.YtijinhhlikhjfaaAlignMats
import Derived.Test.YtijinhhlikhjfaaAlignSame
namespace Go.Proofs.Ytijinhhlikhjfaa
open Go.RowKit
set_option linter.unusedVariables false

/-- Chunks were made, and nothing that was there has turned. -/
def CkOut (w w' : World) (e : Ending) (er : Int) (cs : List Ck) : Prop := ∃ A n c, e = .returned (.tuple #[.slice A n c, .int .i64 er]) ∧ n = cs.length ∧ n ≤ c ∧ c ≤ maxLen ∧ Cks w' w'.heap.size A n cs ∧ Below w.heap.size w w'
/-- The chunks of matches. -/
def IsCut (m : Int) (sizes : List Int) (ms : List (List Int)) (cs : List Ck) : Prop := Cov m sizes cs none 0 (List.replicate sizes.length 0) ∧ ∀ c ∈ cs, Places ms c
/-- A match of m places to z: numbers that aren't -1 rise, from 0 on, below z. -/
def IsMatch (m : Nat) (l : List Int) (z : Int) : Prop := l.length = m ∧ (∀ u ∈ l, u ≠ -1 → 0 ≤ u ∧ u < z) ∧ l.Pairwise (fun u v => u ≠ -1 → v ≠ -1 → u < v)
/-- How Align ends, of matches that may be. -/
def AlignOut (w w' : World) (e : Ending) (m : Int) (sizes : List Int) (ms : List (List Int)) : Prop := ∃ cs, IsCut m sizes ms cs ∧ CkOut w w' e 0 cs

/-- The contracts of package align. -/
structure AlignOk : Prop where
  align_ok : ∀ (A : Option Addr) (n c : Nat) (sizes : List Int) (A' : Option Addr) (n' c' : Nat) (rows : List (Option Addr × Nat × Nat)) (ms : List (List Int)) (m : Nat) (w : World), 1 ≤ n → n ≤ 16 → n ≤ c → c ≤ maxLen → n' ≤ c' → c' ≤ maxLen → ms.length = n → m ≤ 2000 →
    (∀ z ∈ sizes, 0 ≤ z ∧ z ≤ 2000) → (∀ (k : Nat) (l : List Int) (z : Int), ms[k]? = some l → sizes[k]? = some z → IsMatch m l z) → Nums w w.heap.size A n sizes → RowsN w w.heap.size A' n' rows ms →
    Calls Try.prog 18 #[.int .i64 m, .slice A n c, .slice A' n' c'] w fun e w' => AlignOut w w' e m sizes ms
  align_nil : ∀ (m : Nat) (w : World), m ≤ 2000 →
    Calls Try.prog 18 #[.int .i64 m, .slice none 0 0, .slice none 0 0] w fun e w' => CkOut w w' e 1 []

/-- The matches of lists may be. -/
theorem mt_match (a b : List Int) : IsMatch a.length (mt a b 0) b.length := by
  have hg := mt_good a b 0
  refine ⟨mt_len a b 0, fun u hu hne => ?_, ?_⟩
  · obtain ⟨i, hi⟩ := List.mem_iff_getElem?.1 hu
    obtain ⟨y, hy, ⟨x, _, hx⟩, _⟩ := hg i u hi hne
    have := (List.getElem?_eq_some_iff.1 hx).1
    omega
  · rw [List.pairwise_iff_getElem]
    intro i j hi hj hlt h1 h2
    obtain ⟨_, _, _, h⟩ := hg j _ (List.getElem?_eq_getElem hj) h2
    exact h i _ hlt (List.getElem?_eq_getElem hi)

section
variable {base : List UInt8} {sides : List (List UInt8)}
theorem sizes_len (l : List (List Int)) : (sizesOf l).length = l.length := by simp [sizesOf]
theorem ms_len (b : List Int) (l : List (List Int)) : (msOf b l).length = l.length := by simp [msOf]
theorem ms_match {b : List Int} {l : List (List Int)} {k : Nat} {x : List Int} {z : Int} (h1 : (msOf b l)[k]? = some x) (h2 : (sizesOf l)[k]? = some z) : IsMatch b.length x z := by
  unfold msOf at h1
  unfold sizesOf at h2
  rw [List.getElem?_map] at h1 h2
  cases hs : l[k]? with
  | none => rw [hs] at h1; cases h1
  | some s =>
    rw [hs] at h1 h2
    injection h1 with h1
    injection h2 with h2
    subst h1
    subst h2
    exact mt_match b s
end

/-- The chunks of a base and sides. -/
def CutOut (w w' : World) (e : Ending) (base : List UInt8) (sides : List (List UInt8)) : Prop :=
  ∃ A n c cs, e = .returned (.slice A n c) ∧ IsCut base.length (sizesOf (sides.map ints)) (msOf (ints base) (sides.map ints)) cs ∧ n = cs.length ∧ n ≤ c ∧ c ≤ maxLen ∧ Cks w' w'.heap.size A n cs ∧ Below w.heap.size w w'

theorem sizes_few {sides : List (List UInt8)} {z : Int} (hs : ∀ s ∈ sides, s.length ≤ 30) (h : z ∈ sizesOf (sides.map ints)) : 0 ≤ z ∧ z ≤ 30 := by
  unfold sizesOf at h
  rw [List.map_map] at h
  obtain ⟨s, h1, rfl⟩ := List.mem_map.1 h
  have := hs s h1
  simp [ints]
  omega

section
variable (H : AlignOk)
include H

set_option maxHeartbeats 2000000 in
theorem cut_any (A : Option Addr) (n c : Nat) (base : List UInt8) (A' : Option Addr) (n' c' : Nat) (rows : List (Option Addr × Nat × Nat)) (sides : List (List UInt8)) (w : World) (hn : n ≤ 30) (hn1 : 1 ≤ n') (hn' : n' ≤ 16) (hs : ∀ s ∈ sides, s.length ≤ 30) (hA : Byts w w.heap.size A n base) (hA' : RowsB w w.heap.size A' n' rows sides) :
    Calls Try.prog 13 #[.slice A n c, .slice A' n' c'] w fun e w' => CutOut w w' e base sides := by
  have hbl : base.length = n := hA.len
  have hsl : sides.length = n' := hA'.len
  have h1 := Lib.hid (Ints_any A n c w.heap.size base w (by omega) (Nat.le_refl _) hA)
  have h2 := Lib.hid (fun (w' : World) (hb : Below w.heap.size w w') => Lists_any A' n' c' rows sides w' (by omega) (fun s h => by have := hs s h; omega) (hA'.up hb))
  have h3 := Lib.hid (fun (A1 A2 : Option Addr) (n2 c1 c2 : Nat) (rs : List (Option Addr × Nat × Nat)) (w' : World) (e2 : n2 ≤ 1000) (k1 : Nums w' w'.heap.size A1 (ints base).length (ints base)) (k2 : RowsN w' w'.heap.size A2 n2 rs (sides.map ints)) => Matches_any A1 (ints base).length c1 (ints base) A2 n2 c2 rs (sides.map ints) w' (by rw [ints_len]; omega) e2 (fun s h => by obtain ⟨t, ht, rfl⟩ := List.mem_map.1 h; have := hs t ht; rw [ints_len]; omega) k1 k2)
  have h4 := Lib.hid (fun (A1 A2 : Option Addr) (n1 c1 n2 c2 : Nat) (rs : List (Option Addr × Nat × Nat)) (w' : World) (e1 : n1 = n') (a1 : n1 ≤ c1) (a2 : c1 ≤ maxLen) (a3 : n2 ≤ c2) (a4 : c2 ≤ maxLen) (k1 : Nums w' w'.heap.size A1 n1 (sizesOf (sides.map ints))) (k2 : RowsN w' w'.heap.size A2 n2 rs (msOf (ints base) (sides.map ints))) =>
    H.align_ok A1 n1 c1 (sizesOf (sides.map ints)) A2 n2 c2 rs (msOf (ints base) (sides.map ints)) n w' (by omega) (by omega) a1 a2 a3 a4 (by rw [ms_len, List.length_map]; omega) (by omega) (fun z hz => by have := sizes_few hs hz; omega) (fun k l z e1 e2 => by have := ms_match e1 e2; rw [ints_len, hbl] at this; exact this) k1 k2)
  have hszl : Hid ((sizesOf (sides.map ints)).length = n') := Lib.hid (by rw [sizes_len, List.length_map]; exact hsl)
  have hblh := Lib.hid hbl
  have hslh := Lib.hid hsl
  clear hs hA hA' hbl
  go_enter Try.func13, Try.ntmps13
  go_wp2_with (first
    | (go_at_call 14; refine h1.out.mono ?_; rintro e w1 ⟨u, rfl, hu, hb1⟩; obtain ⟨A1, c1, rfl, -, -, q1⟩ := nums_of_own hu; have h2' := Lib.hid (h2.out w1 hb1); clear hu)
    | (go_at_call 11; refine h2'.out.mono ?_; rintro e w2 ⟨v, rs, rfl, hR, hb2⟩; obtain ⟨A2, c2, rfl, -, -, q2⟩ := hR.reads; have hB2 := hb1.trans (hb2.mono hb1.size); have hrl := hR.len; have h3' := Lib.hid (h3.out A1 A2 rs.length c1 c2 rs w2 (by rw [hrl, List.length_map]; omega) (q1.up hb2) q2); clear hR hrl)
    | (go_at_call 10; refine h3'.out.mono ?_; rintro e w3 ⟨v1, v2, rs2, rfl, hM⟩; obtain ⟨A3, c3, rfl, q3, q4, q5⟩ := nums_of_own hM.own1; obtain ⟨A4, c4, rfl, q6, q7, q8⟩ := hM.rows2.reads; have hB3 := hB2.trans (hM.below.mono hB2.size); have h4' := Lib.hid (h4.out A3 A4 (sizesOf (sides.map ints)).length c3 rs2.length c4 rs2 w3 hszl.out q3 q4 q6 q7 q5 q8); clear hM)
    | (go_at_call 18; refine h4'.out.mono ?_; rintro e w4 ⟨cs, hcut, A5, n5, c5, rfl, hn5, q9, q10, q11, hb4⟩; have hcuth := Lib.hid hcut; have hn5h := Lib.hid hn5; clear hcut hn5))
  go_ret
  exact ⟨A5, n5, c5, cs, rfl, by rw [hblh.out]; exact hcuth.out, hn5h.out, q9, q10, q11, hB3.trans (hb4.mono hB3.size)⟩
end
end Go.Proofs.Ytijinhhlikhjfaa
