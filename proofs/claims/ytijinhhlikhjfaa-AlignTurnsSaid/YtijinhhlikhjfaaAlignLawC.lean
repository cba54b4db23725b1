/- Proved here, out of the contracts of package align: the walk of AlignStable. -/
import Derived.Test.YtijinhhlikhjfaaAlignLawB
namespace Go.Proofs.Ytijinhhlikhjfaa
open Go.RowKit
set_option linter.unusedVariables false

theorem pl_at {l : List Int} {k : Nat} {x : Int} (h : l[k]? = some x) : pl l k = x := by unfold pl; simp [h]
theorem ms_at {base : List UInt8} {sides : List (List UInt8)} {s : Nat} {bs : List UInt8} (h : sides[s]? = some bs) : (msOf (ints base) (sides.map ints))[s]? = some (mt (ints base) (ints bs) 0) := by unfold msOf; simp [h]
theorem mt_same {base bs : List UInt8} {k : Nat} {v : Int} (h : (mt (ints base) (ints bs) 0)[k]? = some v) (hv : 0 ≤ v) : ∃ (j : Nat) (b : UInt8), v = (j : Int) ∧ base[k]? = some b ∧ bs[j]? = some b := by
  obtain ⟨y, hy, ⟨x, h1, h2⟩, _⟩ := mt_good _ _ _ k v h (by omega)
  unfold ints at h1 h2
  rw [List.getElem?_map] at h1 h2
  cases hb : base[k]? with
  | none => rw [hb] at h1; cases h1
  | some b =>
    cases hc : bs[y]? with
    | none => rw [hc] at h2; cases h2
    | some b' =>
      rw [hb] at h1
      rw [hc] at h2
      simp at h1 h2
      have : b' = b := by apply UInt8.toNat_inj.1; omega
      exact ⟨y, b, by omega, rfl, by rw [hc, this]⟩
theorem allP_step {ms : List (List Int)} {s : Nat} {l : List Int} (h : ms[s]? = some l) (k : Int) : allP (ms.take (s + 1)) k = (allP (ms.take s) k && decide (0 ≤ pl l k)) := by
  unfold allP
  rw [take_at h, List.all_append]
  simp
theorem allP_at {ms : List (List Int)} {s : Nat} {l : List Int} {k : Int} (h : ms[s]? = some l) (ha : allP ms k = true) : 0 ≤ pl l k ∧ allP (ms.take s) k = true := by
  unfold allP at *
  rw [List.all_eq_true] at ha
  exact ⟨by simpa using ha l (List.mem_of_getElem? h), List.all_eq_true.2 fun x hx => ha x (List.mem_of_mem_take hx)⟩

/-- In a stable chunk: a side's place, and that it is the same. -/
theorem stable_same {base : List UInt8} {sides : List (List UInt8)} {f t : Int} {ss : List Sp} {K s : Nat} {sp : Sp} {bs : List UInt8} {x : Int} (hp : Places (msOf (ints base) (sides.map ints)) (true, (f, t), ss)) (h1 : f ≤ K) (h2 : (K : Int) < t) (hs : sides[s]? = some bs) (hsp : ss[s]? = some sp) (hx : (mt (ints base) (ints bs) 0)[K]? = some x) :
    x = sp.1 + K - f ∧ 0 ≤ x ∧ allP ((msOf (ints base) (sides.map ints)).take s) K = true ∧ allP ((msOf (ints base) (sides.map ints)).take (s + 1)) K = true ∧ ∃ (j : Nat) (b : UInt8), x = (j : Int) ∧ base[K]? = some b ∧ bs[j]? = some b := by
  obtain ⟨q1, q2⟩ := hp K h1 h2
  have q3 := q2 rfl s _ sp (ms_at hs) hsp
  rw [pl_at hx] at q3
  obtain ⟨q4, q5⟩ := allP_at (ms_at hs) q1
  have q6 : 0 ≤ x := by rw [pl_at hx] at q4; exact q4
  exact ⟨q3, q6, q5, by rw [allP_step (ms_at hs), q5]; simpa using q4, mt_same hx q6⟩

/-- How many sides a chunk has; where it ends. -/
theorem cov_all {m : Int} {sizes : List Int} : ∀ {cs : List Ck} {prev : Option Bool} {b : Int} {a : List Int}, Cov m sizes cs prev b a → ∀ c ∈ cs, c.2.2.length = sizes.length ∧ c.2.1.2 ≤ m
  | [], _, _, _, _, c, hc => by cases hc
  | d :: cs, prev, b, a, h, c, hc => by
    have h2 := Cov.le h.2
    rcases List.mem_cons.1 hc with rfl | hc
    · exact ⟨by rw [← ends_len]; exact h2.2.1, h2.1⟩
    · exact cov_all h.2 c hc
theorem cov_len {m : Int} {sizes : List Int} {ms : List (List Int)} {cs : List Ck} {c : Ck} {i : Nat} (h : IsCut m sizes ms cs) (hc : cs[i]? = some c) : c.2.2.length = sizes.length := (cov_all h.1 c (List.mem_of_getElem? hc)).1
theorem cov_to {m : Int} {sizes : List Int} {ms : List (List Int)} {cs : List Ck} {c : Ck} {i : Nat} (h : IsCut m sizes ms cs) (hc : cs[i]? = some c) : c.2.1.2 ≤ m := (cov_all h.1 c (List.mem_of_getElem? hc)).2

section
variable (H : AlignOk)
include H

set_option maxRecDepth 100000 in
set_option maxHeartbeats 8000000 in
theorem AlignStable_walk (A : Option Addr) (n c : Nat) (base : List UInt8) (A' : Option Addr) (n' c' : Nat) (rows : List (Option Addr × Nat × Nat)) (sides : List (List UInt8)) (w : World) (hA : ArgBy w A n c base) (hA' : ArgRB w A' n' c' rows sides) :
    Calls Try.prog 4 #[.slice A n c, .slice A' n' c'] w fun e w' => e = .returned (.bool true) ∧ Below w.heap.size w w' := by
  have hbl : base.length = n := hA.2.2.len
  have hsl : sides.length = n' := hA'.2.2.len
  obtain ⟨fb, hfb⟩ : ∃ fb : Bool, fb = true ↔ fewD base sides := by
    by_cases h : fewD base sides
    · exact ⟨true, by simp [h]⟩
    · exact ⟨false, by simp [h]⟩
  have hF := Lib.hid (fun (w1 : World) (hb : Below w.heap.size w w1) => Few_any A n c base A' n' c' rows sides w1 (Nat.le_trans hA.1 hA.2.1) (Nat.le_trans hA'.1 hA'.2.1) (hA.2.2.up hb) (hA'.2.2.up hb) fb hfb)
  cases fb
  · clear hA hA' hfb
    go_enter Try.func4, Try.ntmps4
    go_wp2_with fail
    refine (awake_any H _).mono ?_
    rintro e w1 ⟨rfl, hB1⟩
    have hF1 := Lib.hid (hF.out w1 hB1)
    go_wp2_with (go_at_call 9; refine hF1.out.mono ?_; rintro e w' ⟨rfl, rfl⟩)
    go_ret
    exact ⟨rfl, hB1⟩
  obtain ⟨hb30, hs1, hs6, hs30⟩ := hfb.1 rfl
  clear hfb
  have h1 := Lib.hid (fun (w' : World) (hb : Below w.heap.size w w') => Ints_any A n c w'.heap.size base w' (by omega) (Nat.le_refl _) (hA.2.2.up hb))
  have h3 := Lib.hid (fun (w' : World) (hb : Below w.heap.size w w') => Lists_any A' n' c' rows sides w' (by omega) (fun s h => by have := hs30 s h; omega) (hA'.2.2.up hb))
  have h4 := Lib.hid (fun (A1 A2 : Option Addr) (n2 c1 c2 : Nat) (rs : List (Option Addr × Nat × Nat)) (w' : World) (e2 : n2 ≤ 1000) (k1 : Nums w' w'.heap.size A1 (ints base).length (ints base)) (k2 : RowsN w' w'.heap.size A2 n2 rs (sides.map ints)) => Matches_any A1 (ints base).length c1 (ints base) A2 n2 c2 rs (sides.map ints) w' (by rw [ints_len]; omega) e2 (fun s h => by obtain ⟨t, ht, rfl⟩ := List.mem_map.1 h; have := hs30 t ht; rw [ints_len]; omega) k1 k2)
  have h6 := Lib.hid (fun (w' : World) (hb : Below w.heap.size w w') => cut_any H A n c base A' n' c' rows sides w' (by omega) (by omega) (by omega) hs30 (hA.2.2.up hb) (hA'.2.2.up hb))
  have h7 := Lib.hid (fun (A1 A2 : Option Addr) (n1 c1 n2 c2 : Nat) (cs : List Ck) (w' : World) (hcut : IsCut base.length (sizesOf (sides.map ints)) (msOf (ints base) (sides.map ints)) cs) (a1 : n1 ≤ c1) (a2 : c1 ≤ maxLen) (k1 : Cks w' w'.heap.size A1 n1 cs) (e2 : n2 = n') (k2 : Nums w' w'.heap.size A2 n2 (sizesOf (sides.map ints))) =>
    covers_any A1 n1 c1 w'.heap.size cs n A2 n2 c2 w'.heap.size (sizesOf (sides.map ints)) w' (Nat.le_trans a1 a2) (by omega) (cut_inR hcut (by omega) hs30) k1 k2 (Nat.le_refl _) (Nat.le_refl _) true (by
      have := hcut.1
      rw [hbl, sizes_len, List.length_map, hsl] at this
      rw [e2]
      simp [this]))
  have hszl : Hid ((sizesOf (sides.map ints)).length = n') := Lib.hid (by rw [sizes_len, List.length_map]; exact hsl)
  have hn6 : Hid (n' ≤ 6) := Lib.hid (by omega)
  have hslh := Lib.hid hsl
  have h8 := Lib.hid (fun (w' : World) (hb : Below w.heap.size w w') => And.intro (hA.2.2.up hb) (hA'.2.2.up hb))
  have h9 := Lib.hid (fun (cs : List Ck) (hcut : IsCut base.length (sizesOf (sides.map ints)) (msOf (ints base) (sides.map ints)) cs) => cut_range hcut (by omega) hs30)
  have hnm : Hid (n ≤ 30 ∧ base.length = n) := Lib.hid ⟨by omega, hbl⟩
  clear hA hA' hbl hsl hs30 hs1 hs6 hb30
  go_enter Try.func4, Try.ntmps4
  go_wp2_with fail
  refine (awake_any H _).mono ?_
  rintro e w1 ⟨rfl, hB1⟩
  have hF1 := Lib.hid (hF.out w1 hB1)
  have h1' := Lib.hid (h1.out w1 hB1)
  have hB1h := Lib.hid hB1
  clear hB1
  go_wp2_with (first
    | (go_at_call 9; refine hF1.out.mono ?_; rintro e w' ⟨rfl, rfl⟩)
    | (go_at_call 14; refine h1'.out.mono ?_; rintro e wa ⟨u, rfl, hu, hba⟩; obtain ⟨A1, c1, rfl, -, -, q1⟩ := nums_of_own hu; have hBa := Lib.hid (hB1h.out.trans (hba.mono hB1h.out.size)); have h3' := Lib.hid (h3.out wa hBa.out); clear hu hba)
    | (go_at_call 11; refine h3'.out.mono ?_; rintro e w2 ⟨v, rs, rfl, hR, hb2⟩; obtain ⟨A2, c2, rfl, -, -, q2⟩ := hR.reads; have hB2 := Lib.hid (hBa.out.trans (hb2.mono hBa.out.size)); have hrl := hR.len; have h4' := Lib.hid (h4.out A1 A2 rs.length c1 c2 rs w2 (by rw [hrl, List.length_map]; have := hslh.out; have := hn6.out; omega) (q1.up hb2) q2); clear hR hrl hb2)
    | (go_at_call 10; refine h4'.out.mono ?_; rintro e w3 ⟨v1, v2, rs2, rfl, hM⟩; obtain ⟨A3, c3, rfl, -, -, q5⟩ := nums_of_own hM.own1; obtain ⟨A4, c4, rfl, -, -, q8⟩ := hM.rows2.reads; have hMl := Lib.hid hM.rows2.len; have q8h := Lib.hid q8; have hB3 := Lib.hid (hB2.out.trans (hM.below.mono hB2.out.size)); have h6' := Lib.hid (h6.out w3 hB3.out); clear hM)
    | (go_at_call 13; refine h6'.out.mono ?_; rintro e w4 ⟨A5, n5, c5, cs, rfl, hcut, hn5, q9, q10, q11, hb4⟩; have hB4 := Lib.hid (hB3.out.trans (hb4.mono hB3.out.size)); have h7' := Lib.hid (h7.out A5 A3 n5 c5 (sizesOf (sides.map ints)).length c3 cs w4 hcut q9 q10 q11 hszl.out (q5.up hb4)); have hcuth := Lib.hid hcut; have hn5h := Lib.hid hn5; have q11h := Lib.hid q11; have q8i := Lib.hid (q8.up hb4); have q9h := Lib.hid (Nat.le_trans q9 q10); clear hcut hn5 hb4 q8 q9 q10 q11)
    | (go_at_call 12; refine h7'.out.mono ?_; rintro e w5 ⟨rfl, hb5⟩))
  have hB5 := Lib.hid (hB4.out.trans (hb5.mono hB4.out.size))
  have hK := q11h.out.up hb5
  have hR := q8i.out.up hb5
  obtain ⟨hBy, hRB⟩ := h8.out w5 hB5.out
  have hKh := Lib.hid hK
  have hRh := Lib.hid hR
  have hByh := Lib.hid hBy
  have hRBh := Lib.hid hRB
  have hm5 := q9h.out
  have hn'6 := hn6.out
  have hn30 := hnm.out.1
  unfold maxLen at hm5
  have hrl : Hid (rs2.length = n') := Lib.hid (by rw [hMl.out, ms_len, List.length_map]; exact hslh.out)
  clear hK hR hBy hRB hb5 q11h q8i q8h h7' h6' h4' h3' hF1 h3 h4 h6 h7 hF h8 q5 h1 h1' q1 q2
  go_loopw [9, 10, 11, 12, 13] (fun si _ _ _ _ wr => ∃ i q : Nat, i ≤ n5 ∧ si = .int .i64 i ∧ wr = w5.drewN q) (fun si _ _ _ _ _ => n5 - (intOf si).toNat)
  case atStart => exact ⟨0, 0, Nat.zero_le _, rfl, rfl⟩
  case round =>
    obtain ⟨i, q, hi, rfl, rfl⟩ := hrel
    by_cases hlt : i < n5
    · obtain ⟨b, o, ⟨st, ⟨f, t⟩, ss⟩, A1, n1, c1, rfl, hb, hx, d1, d2, d3, d4, hnc1, hm1, hS1⟩ := hKh.out.at_ (k := i) hlt
      obtain ⟨r1, r2, r3, r4⟩ := h9.out cs hcuth.out _ (List.mem_of_getElem? hx)
      simp only at d1 d2 d3 r1 r2 r3 r4
      have hpl := Lib.hid (hcuth.out.2 _ (List.mem_of_getElem? hx))
      obtain ⟨F, rfl⟩ := Int.eq_ofNat_of_zero_le r1
      obtain ⟨Z, rfl⟩ := Int.eq_ofNat_of_zero_le (Int.le_trans r1 r2)
      have hsz := Lib.hid (cov_len hcuth.out hx)
      have hn1 : n1 = n' := by have h1 := hsz.out; have h2 := hS1.len; have h3 := hszl.out; simp only at h1 h2; omega
      subst hn1
      have hZn : Z ≤ n := by have := cov_to hcuth.out hx; have h2 := hnm.out.2; simp only at this; omega
      have r4h := Lib.hid r4
      have hS1h := Lib.hid hS1
      have i1 : (0 : Int) ≤ (i : Int) := by omega
      have i2 : (i : Int) < (n5 : Int) := by omega
      clear r4 hS1 hsz hx
      go_wp2
      go_loopw [10, 11, 12, 13] (fun sk _ _ _ wr => ∃ K q : Nat, F ≤ K ∧ K ≤ Z ∧ sk = .int .i64 K ∧ wr = w5.drewN q) (fun sk _ _ _ _ => Z - (intOf sk).toNat)
      case atStart => exact ⟨F, q, Nat.le_refl _, by omega, rfl, rfl⟩
      case round =>
        obtain ⟨K, q2, hK1, hK2, rfl, rfl⟩ := hrel
        by_cases hKZ : K < Z
        · have j1 : (0 : Int) ≤ (K : Int) := by omega
          have j2 : (K : Int) < (n : Int) := by omega
          have hKZi : (K : Int) < (Z : Int) := by omega
          have hpk := Lib.hid (hpl.out K (by show (F : Int) ≤ K; omega) (by show (K : Int) < Z; omega)).1
          go_wp2
          go_loopw [11, 12, 13] (fun sa ss' _ wr => ∃ (s q : Nat) (ob : Bool), s ≤ n1 ∧ sa = .bool ob ∧ ss' = .int .i64 s ∧ Hid (ob = allP ((msOf (ints base) (sides.map ints)).take s) K) ∧ wr = w5.drewN q) (fun _ ss' _ _ => n1 - (intOf ss').toNat)
          case atStart => exact ⟨0, q2, true, Nat.zero_le _, rfl, rfl, Lib.hid rfl, rfl⟩
          case round =>
            obtain ⟨s, q3, ob, hs, rfl, rfl, hob, rfl⟩ := hrel
            by_cases hsn : s < n1
            · obtain ⟨g, p, ⟨s1, s2⟩, rfl, hg, hsp, f1, f2⟩ := hS1h.out.at_ (k := s) hsn
              obtain ⟨g2, p2, A2', n2', c2', l, rfl, hg2, hl, f3, hNl⟩ := hRh.out.at_ (k := s) (by have := hrl.out; omega)
              obtain ⟨g3, p3, A3', n3', c3', bs, rfl, hg3, hbs, f4, hnc3, hm3, hBs⟩ := hRBh.out.at_ (k := s) hsn
              have hle : l = mt (ints base) (ints bs) 0 := by have := ms_at (base := base) hbs; rw [hl] at this; injection this
              subst hle
              have hn2 : n2' = n := by have := hNl.len; rw [mt_len, ints_len] at this; have h2 := hnm.out.2; omega
              subst hn2
              obtain ⟨g4, p4, x, rfl, hg4, hx, f5⟩ := hNl.at_ (k := K) (by omega)
              obtain ⟨u1, u2, u3⟩ := r4h.out _ (List.mem_of_getElem? hsp)
              simp only at f1 f2 u1 u2 u3
              have j3 : (0 : Int) ≤ (s : Int) := by omega
              have j4 : (s : Int) < (n1 : Int) := by omega
              have j5 : (s : Int) < (rs2.length : Int) := by have := hrl.out; omega
              have e1 : IntKind.i64.wrap (s1 + K) = s1 + K := IntWalk.i64_in _ (by omega)
              have e2 : IntKind.i64.wrap (s1 + K - F) = s1 + K - F := IntWalk.i64_in _ (by omega)
              have hxh := Lib.hid hx
              have hsph := Lib.hid hsp
              have hbsh := Lib.hid hbs
              have hBsh := Lib.hid hBs
              clear hx hsp hbs hBs hl hNl
              cases st
              · have hstep := Lib.hid (allP_step (ms_at (base := base) hbsh.out) (K : Int))
                by_cases hx0 : 0 ≤ x
                · have hx0b : decide (0 ≤ x) = true := by simpa using hx0
                  have hob2 : Hid (ob = allP ((msOf (ints base) (sides.map ints)).take (s + 1)) K) := Lib.hid (by rw [hstep.out, pl_at hxh.out, ← hob.out]; simp [hx0])
                  cases ob
                  · go_wp2
                    go_quiet (fail)
                    obtain ⟨z1, rfl⟩ : ∃ z1, z1 = nq := ⟨_, rfl⟩
                    go_wp2
                    go_quiet (fail)
                    obtain ⟨z2, rfl⟩ : ∃ z2, z2 = nq := ⟨_, rfl⟩
                    go_wp2
                    go_roundw
                    case rel => exact ⟨s + 1, q3 + z1 + z2, _, by omega, rfl, by go_num, hob2, by simp [Nat.add_assoc]⟩
                    case measure => simp [intOf] <;> omega
                  · go_wp2
                    go_quiet (fail)
                    obtain ⟨z1, rfl⟩ : ∃ z1, z1 = nq := ⟨_, rfl⟩
                    go_wp2
                    go_quiet (fail)
                    obtain ⟨z2, rfl⟩ : ∃ z2, z2 = nq := ⟨_, rfl⟩
                    go_wp2
                    go_roundw
                    case rel => exact ⟨s + 1, q3 + z1 + z2, _, by omega, rfl, by go_num, hob2, by simp [Nat.add_assoc]⟩
                    case measure => simp [intOf] <;> omega
                · have hx0b : decide (0 ≤ x) = false := by simpa using hx0
                  have hob2 : Hid (false = allP ((msOf (ints base) (sides.map ints)).take (s + 1)) K) := Lib.hid (by rw [hstep.out, pl_at hxh.out]; simp [hx0])
                  cases ob
                  · go_wp2
                    go_quiet (fail)
                    obtain ⟨z1, rfl⟩ : ∃ z1, z1 = nq := ⟨_, rfl⟩
                    go_wp2
                    go_quiet (fail)
                    obtain ⟨z2, rfl⟩ : ∃ z2, z2 = nq := ⟨_, rfl⟩
                    go_wp2
                    go_roundw
                    case rel => exact ⟨s + 1, q3 + z1 + z2, _, by omega, rfl, by go_num, hob2, by simp [Nat.add_assoc]⟩
                    case measure => simp [intOf] <;> omega
                  · go_wp2
                    go_quiet (fail)
                    obtain ⟨z1, rfl⟩ : ∃ z1, z1 = nq := ⟨_, rfl⟩
                    go_wp2
                    go_quiet (fail)
                    obtain ⟨z2, rfl⟩ : ∃ z2, z2 = nq := ⟨_, rfl⟩
                    go_wp2
                    go_roundw
                    case rel => exact ⟨s + 1, q3 + z1 + z2, _, by omega, rfl, by go_num, hob2, by simp [Nat.add_assoc]⟩
                    case measure => simp [intOf] <;> omega
              · obtain ⟨v1, v2, v3, v4, J, bb, v5, v6, v7⟩ := stable_same hpl.out (by omega) (by omega) hbsh.out hsph.out hxh.out
                simp only at v1
                obtain rfl : ob = true := by rw [hob.out, v3]
                have hob2 := Lib.hid v4.symm
                have hJn : J < n3' := by have h1 := (List.getElem?_eq_some_iff.1 v7).1; have h2 := hBsh.out.len; omega
                obtain ⟨g5, p5, b5, rfl, hg5, hb5', f6⟩ := hBsh.out.at_ (k := J) hJn
                obtain ⟨g6, p6, b6, rfl, hg6, hb6', f7⟩ := hByh.out.at_ (k := K) (by omega)
                obtain rfl : b5 = bb := by rw [v7] at hb5'; injection hb5' with e; exact e.symm
                obtain rfl : b6 = b5 := by rw [v6] at hb6'; injection hb6' with e; exact e.symm
                have e3 : s1 + (K : Int) - F = (J : Int) := by omega
                have e4 : IntKind.i64.wrap (J : Int) = (J : Int) := IntWalk.i64_in _ (by omega)
                subst v5
                have j6 : (0 : Int) ≤ (J : Int) := by omega
                have j7 : (J : Int) < (n3' : Int) := by omega
                have hx0b : decide ((0 : Int) ≤ (J : Int)) = true := by simp
                have hjj : ((J : Int) != (J : Int)) = false := by simp
                obtain ⟨y, hy⟩ : ∃ y, y = b6.toNat := ⟨_, rfl⟩
                rw [← hy] at f6 f7
                have hyy : ((y : Int) != (y : Int)) = false := by simp
                clear v1 v2 v3 v4 v6 v7 hb5' hb6' hy
                go_wp2
                go_quiet (fail)
                obtain ⟨z1, rfl⟩ : ∃ z1, z1 = nq := ⟨_, rfl⟩
                go_wp2
                go_quiet (fail)
                obtain ⟨z2, rfl⟩ : ∃ z2, z2 = nq := ⟨_, rfl⟩
                go_wp2
                go_roundw
                case rel => exact ⟨s + 1, q3 + z1 + z2, true, by omega, rfl, by go_num, hob2, by simp [Nat.add_assoc]⟩
                case measure => simp [intOf] <;> omega
            · obtain rfl : s = n1 := by omega
              have hfin : ob = st := by
                have h1 := hob.out
                rw [List.take_of_length_le (by rw [ms_len, List.length_map]; have := hslh.out; omega)] at h1
                rw [h1, hpk.out]
              subst hfin
              have hbb : (ob != ob) = false := by simp
              go_wp2
              go_roundw
              case rel => exact ⟨K + 1, q3, by omega, by omega, by go_num, rfl⟩
              case measure => simp [intOf] <;> omega
        · obtain rfl : K = Z := by omega
          go_wp2
          go_roundw
          case rel => exact ⟨i + 1, q2, by omega, by go_num, rfl⟩
          case measure => simp [intOf] <;> omega
    · obtain rfl : i = n5 := by omega
      go_wp2
      go_ret
      exact ⟨rfl, below_drewN hB5.out _⟩
end
end Go.Proofs.Ytijinhhlikhjfaa
