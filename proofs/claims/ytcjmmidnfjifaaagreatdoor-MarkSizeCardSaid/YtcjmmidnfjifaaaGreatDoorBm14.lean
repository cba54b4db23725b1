/- Proved here: texts joined: ZlBeg. -/
import Derived.Test.YtcjmmidnfjifaaaGreatDoorBm04
import Derived.Test.YtcjmmidnfjifaaaGreatDoorBm06
import Derived.Test.YtcjmmidnfjifaaaGreatDoorBm13
import Derived.Deep.DeepCutAuto
import Derived.Outline
/- Proved here: contracts of the document's own answers of layer 10: begins, ends. -/
namespace Go.Proofs.YtcjmmidnfjifaaaGreatDoor
open Go.RowKit
set_option linter.unusedVariables false
set_option maxRecDepth 100000

theorem beg_step {f : Txs} {ds : List Txs} {i k : Nat} {d : Txs} (hq : begB f (ds.take i) k = true) (ht : ds[i]? = some d) (h1 : k ≤ d.length) (h2 : d.take k = f.take k) : begB f (ds.take (i + 1)) k = true := begB_iff.2 fun x hx => by
  rw [take_at ht, List.mem_append, List.mem_singleton] at hx
  rcases hx with hx | rfl
  · exact begB_iff.1 hq x hx
  · exact ⟨h1, h2⟩
theorem beg_no {f : Txs} {ds : List Txs} {i k : Nat} {d : Txs} (ht : ds[i]? = some d) (h : d.length < k ∨ d.take k ≠ f.take k) : false = begB f ds k := by
  cases hb : begB f ds k with
  | false => rfl
  | true =>
    obtain ⟨h1, h2⟩ := begB_iff.1 hb d (List.mem_of_getElem? ht)
    rcases h with h | h
    · omega
    · exact absurd h2 h
theorem tail_step {f : Txs} {ds : List Txs} {i k : Nat} {d : Txs} (hq : tailB f (ds.take i) k = true) (ht : ds[i]? = some d) (h1 : k ≤ d.length) (h2 : d.drop (d.length - k) = f.drop (f.length - k)) : tailB f (ds.take (i + 1)) k = true := tailB_iff.2 fun x hx => by
  rw [take_at ht, List.mem_append, List.mem_singleton] at hx
  rcases hx with hx | rfl
  · exact tailB_iff.1 hq x hx
  · exact ⟨h1, h2⟩
theorem tail_no {f : Txs} {ds : List Txs} {i k : Nat} {d : Txs} (ht : ds[i]? = some d) (h : d.length < k ∨ d.drop (d.length - k) ≠ f.drop (f.length - k)) : false = tailB f ds k := by
  cases hb : tailB f ds k with
  | false => rfl
  | true =>
    obtain ⟨h1, h2⟩ := tailB_iff.1 hb d (List.mem_of_getElem? ht)
    rcases h with h | h
    · omega
    · exact absurd h2 h

set_option maxHeartbeats 4000000 in
theorem rBegins_any (A : Option Addr) (n c B : Nat) (rows : List Slc) (ds : List Txs) (f : Txs) (k : Nat) (w : World) (hn : n ≤ 1000) (hk : k ≤ 100000) (hf : ds[0]? = some f) (hkf : k ≤ f.length) (hA : RowsT w B A n rows ds) :
    Calls Tryz.prog 57 #[.slice A n c, .int .i64 (k : Int)] w fun e w' => e = .returned (.bool (begB f ds k)) ∧ ∃ q, w' = w.drewN q := by
  have hl := hA.len
  have hn1 : 0 < n := by have := (List.getElem?_eq_some_iff.1 hf).1; omega
  have hAh := Lib.hid hA
  have hfh := Lib.hid hf
  have hkfh := Lib.hid hkf
  have hlh := Lib.hid hl
  clear hA hf hkf hl
  go_enter Tryz.func57, Tryz.ntmps57
  go_wp2
  go_loopw [5] (fun i wr => ∃ j : Nat, j ≤ n ∧ i = .int .i64 j ∧ Hid (begB f (ds.take j) k = true) ∧ Hid (∃ q, wr = w.drewN q)) (fun i _ => n - (intOf i).toNat)
  case atStart => exact ⟨0, Nat.zero_le _, rfl, Lib.hid rfl, Lib.hid ⟨0, rfl⟩⟩
  case round =>
    obtain ⟨j, hj, rfl, hq, hw⟩ := hrel
    obtain ⟨wo, rfl⟩ : ∃ wo : World, wo = wr := ⟨_, rfl⟩
    have hAo : Hid (RowsT wo B A n rows ds) := Lib.hid (by obtain ⟨q, rfl⟩ := hw.out; exact hAh.out.drewN q)
    by_cases hlt : j < n
    · obtain ⟨b, o, A1, n1, c1, d, rfl, hb, ht, hr, hc, hnc1, hcm1, hst⟩ := hAo.out.at_ (k := j) hlt
      obtain ⟨b0, o0, A2, n2, c2, f', e0, hb0, ht0, hr0, hc0, hnc2, hcm2, hst0⟩ := hAo.out.at_ (k := 0) hn1
      injection e0 with e0
      injection e0 with e01 e02
      subst e01
      subst e02
      have hff : f' = f := by rw [hfh.out] at ht0; injection ht0 with e; exact e.symm
      subst hff
      have hc0' : wo.cell? ⟨b, o, none⟩ = some (.slice A2 n2 c2) := hc0
      have hdl : d.length = n1 := hst.len
      have hfl : f'.length = n2 := hst0.len
      have i1 : (0 : Int) ≤ (j : Int) := by omega
      have i2 : (j : Int) < (n : Int) := by omega
      have i3 : (0 : Int) < (n : Int) := by omega
      have hth := Lib.hid ht
      by_cases hlen : n1 < k
      · have hli : (n1 : Int) < (k : Int) := by omega
        have hfin := Lib.hid (beg_no (f := f') (k := k) hth.out (.inl (by omega)))
        clear ht ht0 hr hr0 hst hst0 hc0 hdl hfl hlen
        go_wp2
        go_quiet (fail)
        obtain ⟨z1, rfl⟩ : ∃ z1, z1 = nq := ⟨_, rfl⟩
        go_wp2
        go_ret
        exact ⟨ret_bool hfin.out, by obtain ⟨q, rfl⟩ := hw.out; exact ⟨_, World.drewN_drewN _ _ _⟩⟩
      · have hli : ¬ (n1 : Int) < (k : Int) := by omega
        have hld : decide ((n1 : Int) < (k : Int)) = false := by simp; omega
        have hle : decide (n1 < k) = false := by simp; omega
        have hlk : ¬ n1 < k := hlen
        have hkf2 : k ≤ n2 := by have := hkfh.out; omega
        obtain ⟨A3, m3, q3, hs3, hT3, hm3⟩ := slice_to (k := k) (show TxR wo B (A1, n1, c1) d from ⟨hnc1, hcm1, hst⟩) (by omega)
        obtain ⟨A4, m4, q4, hs4, hT4, hm4⟩ := slice_to (k := k) (show TxR wo B (A2, n2, c2) f' from ⟨hnc2, hcm2, hst0⟩) hkf2
        obtain ⟨sd, hsd⟩ : ∃ sd, decide (d.take k = f'.take k) = sd := ⟨_, rfl⟩
        have hS : Hid (∀ z, Calls Tryz.prog 12 #[.slice A3 m3 q3, .slice A4 m4 q4] (wo.drewN z) fun e w' => e = .returned (.bool sd) ∧ ∃ q, w' = (wo.drewN z).drewN q) := Lib.hid (fun z => by
          rw [← hsd]
          exact Same_any A3 A4 m3 m4 q3 q4 B B _ _ (wo.drewN z) (Nat.le_trans hT3.1 hT3.2.1) (Nat.le_trans hT4.1 hT4.2.1) (hT3.2.2.drewN z) (hT4.2.2.drewN z))
        have hsdh := Lib.hid hsd
        have hkd := Lib.hid (show k ≤ d.length by omega)
        clear ht ht0 hr hr0 hst hst0 hc0 hdl hfl hlen hT3 hT4 hm3 hm4 hsd hkf2 hnc1 hcm1 hnc2 hcm2
        cases sd
        · have hfin := Lib.hid (beg_no (f := f') (k := k) hth.out (.inr (of_decide_eq_false hsdh.out)))
          go_wp2
          go_quiet ((go_at_call 12; exact Calls.quiet_of (hS.out _)))
          obtain ⟨z1, rfl⟩ : ∃ z1, z1 = nq := ⟨_, rfl⟩
          go_wp2
          go_ret
          exact ⟨ret_bool hfin.out, by obtain ⟨q, rfl⟩ := hw.out; exact ⟨_, World.drewN_drewN _ _ _⟩⟩
        · have hnx := Lib.hid (beg_step hq.out hth.out hkd.out (of_decide_eq_true hsdh.out))
          go_wp2
          go_quiet ((go_at_call 12; exact Calls.quiet_of (hS.out _)))
          obtain ⟨z1, rfl⟩ : ∃ z1, z1 = nq := ⟨_, rfl⟩
          go_wp2
          go_roundw
          case rel => exact ⟨j + 1, by omega, by go_num, hnx, Lib.hid (by obtain ⟨q, rfl⟩ := hw.out; exact ⟨_, World.drewN_drewN _ _ _⟩)⟩
          case measure => simp [intOf]; omega
    · obtain rfl : j = n := by omega
      have hfin : Hid (true = begB f ds k) := Lib.hid (by have := hq.out; rw [List.take_of_length_le (by rw [hlh.out]; exact Nat.le_refl _)] at this; exact this.symm)
      go_wp2
      go_ret
      exact ⟨ret_bool hfin.out, hw.out⟩

set_option maxHeartbeats 4000000 in
theorem rEnds_any (A : Option Addr) (n c B : Nat) (rows : List Slc) (ds : List Txs) (f : Txs) (k : Nat) (w : World) (hn : n ≤ 1000) (hk : k ≤ 100000) (hf : ds[0]? = some f) (hkf : k ≤ f.length) (hA : RowsT w B A n rows ds) :
    Calls Tryz.prog 58 #[.slice A n c, .int .i64 (k : Int)] w fun e w' => e = .returned (.bool (tailB f ds k)) ∧ ∃ q, w' = w.drewN q := by
  have hl := hA.len
  have hn1 : 0 < n := by have := (List.getElem?_eq_some_iff.1 hf).1; omega
  have hAh := Lib.hid hA
  have hfh := Lib.hid hf
  have hkfh := Lib.hid hkf
  have hlh := Lib.hid hl
  clear hA hf hkf hl
  go_enter Tryz.func58, Tryz.ntmps58
  go_wp2
  go_loopw [5] (fun i wr => ∃ j : Nat, j ≤ n ∧ i = .int .i64 j ∧ Hid (tailB f (ds.take j) k = true) ∧ Hid (∃ q, wr = w.drewN q)) (fun i _ => n - (intOf i).toNat)
  case atStart => exact ⟨0, Nat.zero_le _, rfl, Lib.hid rfl, Lib.hid ⟨0, rfl⟩⟩
  case round =>
    obtain ⟨j, hj, rfl, hq, hw⟩ := hrel
    obtain ⟨wo, rfl⟩ : ∃ wo : World, wo = wr := ⟨_, rfl⟩
    have hAo : Hid (RowsT wo B A n rows ds) := Lib.hid (by obtain ⟨q, rfl⟩ := hw.out; exact hAh.out.drewN q)
    by_cases hlt : j < n
    · obtain ⟨b, o, A1, n1, c1, d, rfl, hb, ht, hr, hc, hnc1, hcm1, hst⟩ := hAo.out.at_ (k := j) hlt
      obtain ⟨b0, o0, A2, n2, c2, f', e0, hb0, ht0, hr0, hc0, hnc2, hcm2, hst0⟩ := hAo.out.at_ (k := 0) hn1
      injection e0 with e0
      injection e0 with e01 e02
      subst e01
      subst e02
      have hff : f' = f := by rw [hfh.out] at ht0; injection ht0 with e; exact e.symm
      subst hff
      have hc0' : wo.cell? ⟨b, o, none⟩ = some (.slice A2 n2 c2) := hc0
      have hdl : d.length = n1 := hst.len
      have hfl : f'.length = n2 := hst0.len
      have i1 : (0 : Int) ≤ (j : Int) := by omega
      have i2 : (j : Int) < (n : Int) := by omega
      have i3 : (0 : Int) < (n : Int) := by omega
      have hth := Lib.hid ht
      by_cases hlen : n1 < k
      · have hli : (n1 : Int) < (k : Int) := by omega
        have hfin := Lib.hid (tail_no (f := f') (k := k) hth.out (.inl (by omega)))
        clear ht ht0 hr hr0 hst hst0 hc0 hdl hfl hlen
        go_wp2
        go_quiet (fail)
        obtain ⟨z1, rfl⟩ : ∃ z1, z1 = nq := ⟨_, rfl⟩
        go_wp2
        go_ret
        exact ⟨ret_bool hfin.out, by obtain ⟨q, rfl⟩ := hw.out; exact ⟨_, World.drewN_drewN _ _ _⟩⟩
      · have hli : ¬ (n1 : Int) < (k : Int) := by omega
        have hld : decide ((n1 : Int) < (k : Int)) = false := by simp; omega
        have hle : decide (n1 < k) = false := by simp; omega
        have hlk : ¬ n1 < k := hlen
        have hkf2 : k ≤ n2 := by have := hkfh.out; omega
        obtain ⟨r1, hr1⟩ : ∃ r1 : Nat, n1 - k = r1 := ⟨_, rfl⟩
        obtain ⟨r2, hr2⟩ : ∃ r2 : Nat, n2 - k = r2 := ⟨_, rfl⟩
        have hn1m : n1 ≤ maxLen := Nat.le_trans hnc1 hcm1
        have hn2m : n2 ≤ maxLen := Nat.le_trans hnc2 hcm2
        unfold maxLen at hn1m hn2m
        have g1 : (n1 : Int) - (k : Int) = (r1 : Int) := by omega
        have g2 : (n2 : Int) - (k : Int) = (r2 : Int) := by omega
        have w1 : IntKind.i64.wrap (r1 : Int) = (r1 : Int) := IntWalk.i64_in _ (by omega)
        have w2 : IntKind.i64.wrap (r2 : Int) = (r2 : Int) := IntWalk.i64_in _ (by omega)
        obtain ⟨A3, m3, q3, hs3, hT3, hm3⟩ := slice_from (k := r1) (show TxR wo B (A1, n1, c1) d from ⟨hnc1, hcm1, hst⟩) (by omega)
        obtain ⟨A4, m4, q4, hs4, hT4, hm4⟩ := slice_from (k := r2) (show TxR wo B (A2, n2, c2) f' from ⟨hnc2, hcm2, hst0⟩) (by omega)
        have hr1e : r1 = d.length - k := by omega
        have hr2e : r2 = f'.length - k := by omega
        rw [hr1e] at hT3
        rw [hr2e] at hT4
        obtain ⟨sd, hsd⟩ : ∃ sd, decide (d.drop (d.length - k) = f'.drop (f'.length - k)) = sd := ⟨_, rfl⟩
        have hS : Hid (∀ z, Calls Tryz.prog 12 #[.slice A3 m3 q3, .slice A4 m4 q4] (wo.drewN z) fun e w' => e = .returned (.bool sd) ∧ ∃ q, w' = (wo.drewN z).drewN q) := Lib.hid (fun z => by
          rw [← hsd]
          exact Same_any A3 A4 m3 m4 q3 q4 B B _ _ (wo.drewN z) (Nat.le_trans hT3.1 hT3.2.1) (Nat.le_trans hT4.1 hT4.2.1) (hT3.2.2.drewN z) (hT4.2.2.drewN z))
        have hsdh := Lib.hid hsd
        have hkd := Lib.hid (show k ≤ d.length by omega)
        clear ht ht0 hr hr0 hst hst0 hc0 hdl hfl hlen hT3 hT4 hm3 hm4 hsd hkf2 hnc1 hcm1 hnc2 hcm2 hr1 hr2 hr1e hr2e hn1m hn2m
        cases sd
        · have hfin := Lib.hid (tail_no (f := f') (k := k) hth.out (.inr (of_decide_eq_false hsdh.out)))
          go_wp2
          go_quiet ((go_at_call 12; exact Calls.quiet_of (hS.out _)))
          obtain ⟨z1, rfl⟩ : ∃ z1, z1 = nq := ⟨_, rfl⟩
          go_wp2
          go_ret
          exact ⟨ret_bool hfin.out, by obtain ⟨q, rfl⟩ := hw.out; exact ⟨_, World.drewN_drewN _ _ _⟩⟩
        · have hnx := Lib.hid (tail_step hq.out hth.out hkd.out (of_decide_eq_true hsdh.out))
          go_wp2
          go_quiet ((go_at_call 12; exact Calls.quiet_of (hS.out _)))
          obtain ⟨z1, rfl⟩ : ∃ z1, z1 = nq := ⟨_, rfl⟩
          go_wp2
          go_roundw
          case rel => exact ⟨j + 1, by omega, by go_num, hnx, Lib.hid (by obtain ⟨q, rfl⟩ := hw.out; exact ⟨_, World.drewN_drewN _ _ _⟩)⟩
          case measure => simp [intOf]; omega
    · obtain rfl : j = n := by omega
      have hfin : Hid (true = tailB f ds k) := Lib.hid (by have := hq.out; rw [List.take_of_length_le (by rw [hlh.out]; exact Nat.le_refl _)] at this; exact this.symm)
      go_wp2
      go_ret
      exact ⟨ret_bool hfin.out, hw.out⟩
end Go.Proofs.YtcjmmidnfjifaaaGreatDoor
