/- Proved here: texts joined: SlcT, ZlBeg, PcLo. -/
import Derived.Test.YtcpopnhnihbofaaGreatDoorBe03
import Derived.Test.YtcpopnhnihbofaaGreatDoorBe05
import Derived.Test.YtcpopnhnihbofaaGreatDoorBe07
import Derived.Test.YtcpopnhnihbofaaGreatDoorBe13
import Derived.Deep.DeepCutAuto
import Derived.Outline
/- Proved here: a slice of texts cut by one bound alone, ahead or behind. -/
namespace Go.Proofs.YtcpopnhnihbofaaGreatDoor
open Go.RowKit
set_option linter.unusedVariables false
set_option maxRecDepth 100000

/-- 's[:k]'. -/
theorem slice_to {w : World} {B n c : Nat} {A : Option Addr} {ss : List (List UInt8)} {k : Nat} (h : TxR w B (A, n, c) ss) (hk : k ≤ n) :
    ∃ A' m q, (∀ W : World, (Instr.slice 25 (.slice A n c) none (some (.int .i64 (k : Int))) none).run Tryz.prog W = .ok (.slice A' m q) W) ∧ TxR w B (A', m, q) (ss.take k) ∧ m = k := by
  obtain ⟨e1, e2, e3⟩ := h
  dsimp only at e1 e2 e3
  have hl := e3.len
  refine ⟨(if c = 0 then A else A.map (·.add 0)), k, c, fun W => ?_, ⟨by show k ≤ c; omega, e2, by rw [List.length_map, List.length_take]; show min k ss.length = k; omega, fun hn => ?_⟩, rfl⟩
  · rw [run_slice_h (P := Tryz.prog) W 25 A n c Tryz.underlying25 .i64 (k : Int) (by omega) (by omega)]
    go_simp
  · obtain ⟨b, o, rfl, hb, hcell⟩ := e3.2 (by have : 0 < k := hn; omega)
    have hc0 : c ≠ 0 := by have : 0 < k := hn; omega
    refine ⟨b, o, by show (if c = 0 then some ⟨b, o, none⟩ else (some (⟨b, o, none⟩ : Addr)).map (·.add 0)) = _; rw [if_neg hc0]; rfl, hb, fun j u hu => ?_⟩
    refine hcell j u ?_
    rw [← hu, List.map_take, List.getElem?_take]
    have hj := (List.getElem?_eq_some_iff.1 hu).1
    simp at hj
    rw [if_pos (by omega)]
/-- 's[k:]'. -/
theorem slice_from {w : World} {B n c : Nat} {A : Option Addr} {ss : List (List UInt8)} {k : Nat} (h : TxR w B (A, n, c) ss) (hk : k ≤ n) :
    ∃ A' m q, (∀ W : World, (Instr.slice 25 (.slice A n c) (some (.int .i64 (k : Int))) none none).run Tryz.prog W = .ok (.slice A' m q) W) ∧ TxR w B (A', m, q) (ss.drop k) ∧ m + k = n := by
  obtain ⟨e1, e2, e3⟩ := h
  dsimp only at e1 e2 e3
  have hl := e3.len
  refine ⟨(if c = k then A else A.map (·.add k)), n - k, c - k, fun W => ?_, ⟨by show n - k ≤ c - k; omega, by show c - k ≤ maxLen; omega, by rw [List.length_map, List.length_drop]; show ss.length - k = n - k; omega, fun hn => ?_⟩, by omega⟩
  · rw [run_slice_l (P := Tryz.prog) W 25 A n c Tryz.underlying25 .i64 (k : Int) (by omega) (by omega)]
    go_simp
  · have hn' : 0 < n - k := hn
    obtain ⟨b, o, rfl, hb, hcell⟩ := e3.2 (by omega)
    refine ⟨b, o + k, by show (if c = k then some ⟨b, o, none⟩ else (some (⟨b, o, none⟩ : Addr)).map (·.add k)) = _; rw [if_neg (by omega)]; simp only [Option.map_some]; unfold Addr.add; split <;> simp_all, hb, fun j u hu => ?_⟩
    rw [Nat.add_assoc]
    refine hcell (k + j) u ?_
    rw [← hu, List.map_drop, List.getElem?_drop]
/-- A slice lies where another one does. -/
def Near (A : Option Addr) (r : Slc) : Prop := 0 < r.2.1 → ∀ q o, r.1 = some ⟨q, o, none⟩ → ∃ o', A = some ⟨q, o', none⟩
/-- 's[i:k]'. -/
theorem slice_mid {w : World} {B n c : Nat} {A : Option Addr} {ss : List (List UInt8)} {i k : Nat} (h : TxR w B (A, n, c) ss) (hi : i ≤ k) (hk : k ≤ n) :
    ∃ A' m q, (∀ W : World, (Instr.slice 25 (.slice A n c) (some (.int .i64 (i : Int))) (some (.int .i64 (k : Int))) none).run Tryz.prog W = .ok (.slice A' m q) W) ∧ TxR w B (A', m, q) ((ss.drop i).take (k - i)) ∧ m + i = k ∧ Near A (A', m, q) := by
  obtain ⟨e1, e2, e3⟩ := h
  dsimp only at e1 e2 e3
  have hl := e3.len
  refine ⟨(if c = i then A else A.map (·.add i)), k - i, c - i, fun W => ?_, ⟨by show k - i ≤ c - i; omega, by show c - i ≤ maxLen; omega, by rw [List.length_map, List.length_take, List.length_drop]; show min (k - i) (ss.length - i) = k - i; omega, fun hn => ?_⟩, by omega, fun hn q o e => ?_⟩
  · rw [run_slice_lh (P := Tryz.prog) W 25 A n c Tryz.underlying25 .i64 .i64 (i : Int) (k : Int) (by omega) (by omega) (by omega)]
    go_simp
  · have hn' : 0 < k - i := hn
    obtain ⟨b, o, rfl, hb, hcell⟩ := e3.2 (by omega)
    refine ⟨b, o + i, by show (if c = i then some ⟨b, o, none⟩ else (some (⟨b, o, none⟩ : Addr)).map (·.add i)) = _; rw [if_neg (by omega)]; simp only [Option.map_some]; unfold Addr.add; split <;> simp_all, hb, fun j u hu => ?_⟩
    rw [Nat.add_assoc]
    refine hcell (i + j) u ?_
    have hj := (List.getElem?_eq_some_iff.1 hu).1
    simp at hj
    rw [← hu, List.map_take, List.getElem?_take, if_pos (by omega), List.map_drop, List.getElem?_drop]
  · have hn' : 0 < k - i := hn
    obtain ⟨b, o', rfl, hb, hcell⟩ := e3.2 (by omega)
    dsimp only at e
    rw [if_neg (by omega), Option.map_some] at e
    injection e with e
    refine ⟨o', ?_⟩
    have hb2 : ((⟨b, o', none⟩ : Addr).add i).block = b := by unfold Addr.add; split <;> rfl
    rw [e] at hb2
    dsimp only at hb2
    rw [hb2]
end Go.Proofs.YtcpopnhnihbofaaGreatDoor
/- Proved here: contracts of the document's own answers of layer 10: begins, ends. -/
namespace Go.Proofs.YtcpopnhnihbofaaGreatDoor
open Go.RowKit
set_option linter.unusedVariables false
set_option maxRecDepth 100000

theorem beg_step {f : Txs} {ds : List Txs} {i k : Nat} {d : Txs} (hq : begB f (ds.take i) k = true) (ht : ds[i]? = some d) (h1 : k ≤ d.length) (h2 : d.take k = f.take k) : begB f (ds.take (i + 1)) k = true := begB_iff.2 fun x hx => by
  rw [take_at ht, List.mem_append, List.mem_singleton] at hx
  rcases hx with hx | rfl
  · exact begB_iff.1 hq x hx
  · exact ⟨h1, h2⟩
theorem beg_no {f : Txs} {ds : List Txs} {i k : Nat} {d : Txs} (ht : ds[i]? = some d) (h : d.length < k ∨ d.take k ≠ f.take k) : false = begB f ds k := by
  cases hb : begB f ds k with
  | false => rfl
  | true =>
    obtain ⟨h1, h2⟩ := begB_iff.1 hb d (List.mem_of_getElem? ht)
    rcases h with h | h
    · omega
    · exact absurd h2 h
theorem tail_step {f : Txs} {ds : List Txs} {i k : Nat} {d : Txs} (hq : tailB f (ds.take i) k = true) (ht : ds[i]? = some d) (h1 : k ≤ d.length) (h2 : d.drop (d.length - k) = f.drop (f.length - k)) : tailB f (ds.take (i + 1)) k = true := tailB_iff.2 fun x hx => by
  rw [take_at ht, List.mem_append, List.mem_singleton] at hx
  rcases hx with hx | rfl
  · exact tailB_iff.1 hq x hx
  · exact ⟨h1, h2⟩
theorem tail_no {f : Txs} {ds : List Txs} {i k : Nat} {d : Txs} (ht : ds[i]? = some d) (h : d.length < k ∨ d.drop (d.length - k) ≠ f.drop (f.length - k)) : false = tailB f ds k := by
  cases hb : tailB f ds k with
  | false => rfl
  | true =>
    obtain ⟨h1, h2⟩ := tailB_iff.1 hb d (List.mem_of_getElem? ht)
    rcases h with h | h
    · omega
    · exact absurd h2 h

set_option maxHeartbeats 4000000 in
theorem rBegins_any (A : Option Addr) (n c B : Nat) (rows : List Slc) (ds : List Txs) (f : Txs) (k : Nat) (w : World) (hn : n ≤ 1000) (hk : k ≤ 100000) (hf : ds[0]? = some f) (hkf : k ≤ f.length) (hA : RowsT w B A n rows ds) :
    Calls Tryz.prog 62 #[.slice A n c, .int .i64 (k : Int)] w fun e w' => e = .returned (.bool (begB f ds k)) ∧ ∃ q, w' = w.drewN q := by
  have hl := hA.len
  have hn1 : 0 < n := by have := (List.getElem?_eq_some_iff.1 hf).1; omega
  have hAh := Lib.hid hA
  have hfh := Lib.hid hf
  have hkfh := Lib.hid hkf
  have hlh := Lib.hid hl
  clear hA hf hkf hl
  go_enter Tryz.func62, Tryz.ntmps62
  go_wp2
  go_loopw [5] (fun i wr => ∃ j : Nat, j ≤ n ∧ i = .int .i64 j ∧ Hid (begB f (ds.take j) k = true) ∧ Hid (∃ q, wr = w.drewN q)) (fun i _ => n - (intOf i).toNat)
  case atStart => exact ⟨0, Nat.zero_le _, rfl, Lib.hid rfl, Lib.hid ⟨0, rfl⟩⟩
  case round =>
    obtain ⟨j, hj, rfl, hq, hw⟩ := hrel
    obtain ⟨wo, rfl⟩ : ∃ wo : World, wo = wr := ⟨_, rfl⟩
    have hAo : Hid (RowsT wo B A n rows ds) := Lib.hid (by obtain ⟨q, rfl⟩ := hw.out; exact hAh.out.drewN q)
    by_cases hlt : j < n
    · obtain ⟨b, o, A1, n1, c1, d, rfl, hb, ht, hr, hc, hnc1, hcm1, hst⟩ := hAo.out.at_ (k := j) hlt
      obtain ⟨b0, o0, A2, n2, c2, f', e0, hb0, ht0, hr0, hc0, hnc2, hcm2, hst0⟩ := hAo.out.at_ (k := 0) hn1
      injection e0 with e0
      injection e0 with e01 e02
      subst e01
      subst e02
      have hff : f' = f := by rw [hfh.out] at ht0; injection ht0 with e; exact e.symm
      subst hff
      have hc0' : wo.cell? ⟨b, o, none⟩ = some (.slice A2 n2 c2) := hc0
      have hdl : d.length = n1 := hst.len
      have hfl : f'.length = n2 := hst0.len
      have i1 : (0 : Int) ≤ (j : Int) := by omega
      have i2 : (j : Int) < (n : Int) := by omega
      have i3 : (0 : Int) < (n : Int) := by omega
      have hth := Lib.hid ht
      by_cases hlen : n1 < k
      · have hli : (n1 : Int) < (k : Int) := by omega
        have hfin := Lib.hid (beg_no (f := f') (k := k) hth.out (.inl (by omega)))
        clear ht ht0 hr hr0 hst hst0 hc0 hdl hfl hlen
        go_wp2
        go_quiet (fail)
        obtain ⟨z1, rfl⟩ : ∃ z1, z1 = nq := ⟨_, rfl⟩
        go_wp2
        go_ret
        exact ⟨ret_bool hfin.out, by obtain ⟨q, rfl⟩ := hw.out; exact ⟨_, World.drewN_drewN _ _ _⟩⟩
      · have hli : ¬ (n1 : Int) < (k : Int) := by omega
        have hld : decide ((n1 : Int) < (k : Int)) = false := by simp; omega
        have hle : decide (n1 < k) = false := by simp; omega
        have hlk : ¬ n1 < k := hlen
        have hkf2 : k ≤ n2 := by have := hkfh.out; omega
        obtain ⟨A3, m3, q3, hs3, hT3, hm3⟩ := slice_to (k := k) (show TxR wo B (A1, n1, c1) d from ⟨hnc1, hcm1, hst⟩) (by omega)
        obtain ⟨A4, m4, q4, hs4, hT4, hm4⟩ := slice_to (k := k) (show TxR wo B (A2, n2, c2) f' from ⟨hnc2, hcm2, hst0⟩) hkf2
        obtain ⟨sd, hsd⟩ : ∃ sd, decide (d.take k = f'.take k) = sd := ⟨_, rfl⟩
        have hS : Hid (∀ z, Calls Tryz.prog 15 #[.slice A3 m3 q3, .slice A4 m4 q4] (wo.drewN z) fun e w' => e = .returned (.bool sd) ∧ ∃ q, w' = (wo.drewN z).drewN q) := Lib.hid (fun z => by
          rw [← hsd]
          exact Same_any A3 A4 m3 m4 q3 q4 B B _ _ (wo.drewN z) (Nat.le_trans hT3.1 hT3.2.1) (Nat.le_trans hT4.1 hT4.2.1) (hT3.2.2.drewN z) (hT4.2.2.drewN z))
        have hsdh := Lib.hid hsd
        have hkd := Lib.hid (show k ≤ d.length by omega)
        clear ht ht0 hr hr0 hst hst0 hc0 hdl hfl hlen hT3 hT4 hm3 hm4 hsd hkf2 hnc1 hcm1 hnc2 hcm2
        cases sd
        · have hfin := Lib.hid (beg_no (f := f') (k := k) hth.out (.inr (of_decide_eq_false hsdh.out)))
          go_wp2
          go_quiet ((go_at_call 15; exact Calls.quiet_of (hS.out _)))
          obtain ⟨z1, rfl⟩ : ∃ z1, z1 = nq := ⟨_, rfl⟩
          go_wp2
          go_ret
          exact ⟨ret_bool hfin.out, by obtain ⟨q, rfl⟩ := hw.out; exact ⟨_, World.drewN_drewN _ _ _⟩⟩
        · have hnx := Lib.hid (beg_step hq.out hth.out hkd.out (of_decide_eq_true hsdh.out))
          go_wp2
          go_quiet ((go_at_call 15; exact Calls.quiet_of (hS.out _)))
          obtain ⟨z1, rfl⟩ : ∃ z1, z1 = nq := ⟨_, rfl⟩
          go_wp2
          go_roundw
          case rel => exact ⟨j + 1, by omega, by go_num, hnx, Lib.hid (by obtain ⟨q, rfl⟩ := hw.out; exact ⟨_, World.drewN_drewN _ _ _⟩)⟩
          case measure => simp [intOf]; omega
    · obtain rfl : j = n := by omega
      have hfin : Hid (true = begB f ds k) := Lib.hid (by have := hq.out; rw [List.take_of_length_le (by rw [hlh.out]; exact Nat.le_refl _)] at this; exact this.symm)
      go_wp2
      go_ret
      exact ⟨ret_bool hfin.out, hw.out⟩

set_option maxHeartbeats 4000000 in
theorem rEnds_any (A : Option Addr) (n c B : Nat) (rows : List Slc) (ds : List Txs) (f : Txs) (k : Nat) (w : World) (hn : n ≤ 1000) (hk : k ≤ 100000) (hf : ds[0]? = some f) (hkf : k ≤ f.length) (hA : RowsT w B A n rows ds) :
    Calls Tryz.prog 63 #[.slice A n c, .int .i64 (k : Int)] w fun e w' => e = .returned (.bool (tailB f ds k)) ∧ ∃ q, w' = w.drewN q := by
  have hl := hA.len
  have hn1 : 0 < n := by have := (List.getElem?_eq_some_iff.1 hf).1; omega
  have hAh := Lib.hid hA
  have hfh := Lib.hid hf
  have hkfh := Lib.hid hkf
  have hlh := Lib.hid hl
  clear hA hf hkf hl
  go_enter Tryz.func63, Tryz.ntmps63
  go_wp2
  go_loopw [5] (fun i wr => ∃ j : Nat, j ≤ n ∧ i = .int .i64 j ∧ Hid (tailB f (ds.take j) k = true) ∧ Hid (∃ q, wr = w.drewN q)) (fun i _ => n - (intOf i).toNat)
  case atStart => exact ⟨0, Nat.zero_le _, rfl, Lib.hid rfl, Lib.hid ⟨0, rfl⟩⟩
  case round =>
    obtain ⟨j, hj, rfl, hq, hw⟩ := hrel
    obtain ⟨wo, rfl⟩ : ∃ wo : World, wo = wr := ⟨_, rfl⟩
    have hAo : Hid (RowsT wo B A n rows ds) := Lib.hid (by obtain ⟨q, rfl⟩ := hw.out; exact hAh.out.drewN q)
    by_cases hlt : j < n
    · obtain ⟨b, o, A1, n1, c1, d, rfl, hb, ht, hr, hc, hnc1, hcm1, hst⟩ := hAo.out.at_ (k := j) hlt
      obtain ⟨b0, o0, A2, n2, c2, f', e0, hb0, ht0, hr0, hc0, hnc2, hcm2, hst0⟩ := hAo.out.at_ (k := 0) hn1
      injection e0 with e0
      injection e0 with e01 e02
      subst e01
      subst e02
      have hff : f' = f := by rw [hfh.out] at ht0; injection ht0 with e; exact e.symm
      subst hff
      have hc0' : wo.cell? ⟨b, o, none⟩ = some (.slice A2 n2 c2) := hc0
      have hdl : d.length = n1 := hst.len
      have hfl : f'.length = n2 := hst0.len
      have i1 : (0 : Int) ≤ (j : Int) := by omega
      have i2 : (j : Int) < (n : Int) := by omega
      have i3 : (0 : Int) < (n : Int) := by omega
      have hth := Lib.hid ht
      by_cases hlen : n1 < k
      · have hli : (n1 : Int) < (k : Int) := by omega
        have hfin := Lib.hid (tail_no (f := f') (k := k) hth.out (.inl (by omega)))
        clear ht ht0 hr hr0 hst hst0 hc0 hdl hfl hlen
        go_wp2
        go_quiet (fail)
        obtain ⟨z1, rfl⟩ : ∃ z1, z1 = nq := ⟨_, rfl⟩
        go_wp2
        go_ret
        exact ⟨ret_bool hfin.out, by obtain ⟨q, rfl⟩ := hw.out; exact ⟨_, World.drewN_drewN _ _ _⟩⟩
      · have hli : ¬ (n1 : Int) < (k : Int) := by omega
        have hld : decide ((n1 : Int) < (k : Int)) = false := by simp; omega
        have hle : decide (n1 < k) = false := by simp; omega
        have hlk : ¬ n1 < k := hlen
        have hkf2 : k ≤ n2 := by have := hkfh.out; omega
        obtain ⟨r1, hr1⟩ : ∃ r1 : Nat, n1 - k = r1 := ⟨_, rfl⟩
        obtain ⟨r2, hr2⟩ : ∃ r2 : Nat, n2 - k = r2 := ⟨_, rfl⟩
        have hn1m : n1 ≤ maxLen := Nat.le_trans hnc1 hcm1
        have hn2m : n2 ≤ maxLen := Nat.le_trans hnc2 hcm2
        unfold maxLen at hn1m hn2m
        have g1 : (n1 : Int) - (k : Int) = (r1 : Int) := by omega
        have g2 : (n2 : Int) - (k : Int) = (r2 : Int) := by omega
        have w1 : IntKind.i64.wrap (r1 : Int) = (r1 : Int) := IntWalk.i64_in _ (by omega)
        have w2 : IntKind.i64.wrap (r2 : Int) = (r2 : Int) := IntWalk.i64_in _ (by omega)
        obtain ⟨A3, m3, q3, hs3, hT3, hm3⟩ := slice_from (k := r1) (show TxR wo B (A1, n1, c1) d from ⟨hnc1, hcm1, hst⟩) (by omega)
        obtain ⟨A4, m4, q4, hs4, hT4, hm4⟩ := slice_from (k := r2) (show TxR wo B (A2, n2, c2) f' from ⟨hnc2, hcm2, hst0⟩) (by omega)
        have hr1e : r1 = d.length - k := by omega
        have hr2e : r2 = f'.length - k := by omega
        rw [hr1e] at hT3
        rw [hr2e] at hT4
        obtain ⟨sd, hsd⟩ : ∃ sd, decide (d.drop (d.length - k) = f'.drop (f'.length - k)) = sd := ⟨_, rfl⟩
        have hS : Hid (∀ z, Calls Tryz.prog 15 #[.slice A3 m3 q3, .slice A4 m4 q4] (wo.drewN z) fun e w' => e = .returned (.bool sd) ∧ ∃ q, w' = (wo.drewN z).drewN q) := Lib.hid (fun z => by
          rw [← hsd]
          exact Same_any A3 A4 m3 m4 q3 q4 B B _ _ (wo.drewN z) (Nat.le_trans hT3.1 hT3.2.1) (Nat.le_trans hT4.1 hT4.2.1) (hT3.2.2.drewN z) (hT4.2.2.drewN z))
        have hsdh := Lib.hid hsd
        have hkd := Lib.hid (show k ≤ d.length by omega)
        clear ht ht0 hr hr0 hst hst0 hc0 hdl hfl hlen hT3 hT4 hm3 hm4 hsd hkf2 hnc1 hcm1 hnc2 hcm2 hr1 hr2 hr1e hr2e hn1m hn2m
        cases sd
        · have hfin := Lib.hid (tail_no (f := f') (k := k) hth.out (.inr (of_decide_eq_false hsdh.out)))
          go_wp2
          go_quiet ((go_at_call 15; exact Calls.quiet_of (hS.out _)))
          obtain ⟨z1, rfl⟩ : ∃ z1, z1 = nq := ⟨_, rfl⟩
          go_wp2
          go_ret
          exact ⟨ret_bool hfin.out, by obtain ⟨q, rfl⟩ := hw.out; exact ⟨_, World.drewN_drewN _ _ _⟩⟩
        · have hnx := Lib.hid (tail_step hq.out hth.out hkd.out (of_decide_eq_true hsdh.out))
          go_wp2
          go_quiet ((go_at_call 15; exact Calls.quiet_of (hS.out _)))
          obtain ⟨z1, rfl⟩ : ∃ z1, z1 = nq := ⟨_, rfl⟩
          go_wp2
          go_roundw
          case rel => exact ⟨j + 1, by omega, by go_num, hnx, Lib.hid (by obtain ⟨q, rfl⟩ := hw.out; exact ⟨_, World.drewN_drewN _ _ _⟩)⟩
          case measure => simp [intOf]; omega
    · obtain rfl : j = n := by omega
      have hfin : Hid (true = tailB f ds k) := Lib.hid (by have := hq.out; rw [List.take_of_length_le (by rw [hlh.out]; exact Nat.le_refl _)] at this; exact this.symm)
      go_wp2
      go_ret
      exact ⟨ret_bool hfin.out, hw.out⟩
end Go.Proofs.YtcpopnhnihbofaaGreatDoor
/- Proved here, without conditions on the program: pieces that stand whatever becomes of some blocks; a slice of pieces appended onto a row of the call's own. -/
namespace Go.Proofs.YtcpopnhnihbofaaGreatDoor
open Go.RowKit
set_option linter.unusedVariables false

/-- Pieces that a call tells: they lie in memory that it has made, or below lo. -/
def PcsLo (lo : Nat) (w w' : World) (e : Ending) (ps : List Pc) : Prop := ∃ A n c vs, e = .returned (.slice A n c) ∧ n ≤ c ∧ c ≤ maxLen ∧ (∀ w2, But (fun k => lo ≤ k ∧ k < w.heap.size) w' w2 → Pcs w2 w2.heap.size A n vs ps) ∧ Below w.heap.size w w'
section
variable {F : Nat → Prop} {lo : Nat} {w wr w1 w2 w' : World} {e : Ending} {ps : List Pc} {v v' : Value} {qs : List (PcV × Pc)} {r : PcV} {p : Pc} {o : Obj}
theorem PcsNew.toLo (h : PcsNew w w' e ps) : PcsLo lo w w' e ps := by
  obtain ⟨A, n, c, vs, h1, h2, h3, h4, h5⟩ := h
  exact ⟨A, n, c, vs, h1, h2, h3, fun w2 hb => h4 w2 (hb.more fun k hk => hk.2), h5⟩
theorem PcsLo.out (h : PcsLo lo w w' e ps) : PcsOut w w' e ps := by
  obtain ⟨A, n, c, vs, h1, h2, h3, h4, h5⟩ := h
  exact ⟨A, n, c, vs, h1, h2, h3, h4 w' (But.refl _ _), h5⟩
/-- Pieces in a row stand, whatever becomes of the blocks of F, and of the row's own. -/
def RowF (F : Nat → Prop) (wr : World) (v : Value) (qs : List (PcV × Pc)) : Prop := ∀ w2, But (fun k => F k ∨ v.ownBlock = some k) wr w2 → ∀ q ∈ qs, PcR w2 w2.heap.size q.1 q.2
theorem RowF.start (F : Nat → Prop) (wr : World) (v : Value) : RowF F wr v [] := fun w2 h q hq => by simp at hq
theorem RowF.up (h : RowF F wr v qs) (hb : Below wr.heap.size wr w1) : RowF F w1 v qs := fun w2 h2 => h w2 ((But.of_below hb fun k hk _ => hk).trans h2 fun k e => .inl e)
theorem RowF.put (h : RowF F wr v qs) (hr : ∀ w3, But (fun k => F k ∨ v.ownBlock = some k) wr w3 → PcR w3 w3.heap.size r p) (hg : (wr.alloc o).grownBy w2 v.ownBlock) (hloc : v'.ownBlock = v.ownBlock ∨ v'.ownBlock = some (wr.alloc o).heap.size) : RowF F w2 v' (qs ++ [(r, p)]) := by
  have hb2 : But (fun k => F k ∨ v.ownBlock = some k) wr w2 := (But.alloc wr o).trans (But.of_grown hg fun k e => .inr e) fun k e => .inl e
  intro w3 h3 q hq
  have hb3 : But (fun k => F k ∨ v.ownBlock = some k) wr w3 := hb2.trans h3 fun k e => by
    rcases e with e | e
    · exact .inl (.inl e)
    · rcases hloc with hl | hl
      · exact .inl (.inr (hl.symm.trans e))
      · rw [hl] at e
        injection e with e
        exact .inr (by rw [← e]; simp)
  rcases List.mem_append.1 hq with hq | hq
  · exact h w3 hb3 q hq
  · rw [List.mem_singleton.1 hq]
    exact hr w3 hb3
/-- A text of the call's own, made behind a world of which F speaks. -/
theorem TxO.textF {u : Value} {xs : Txs} {A : Option Addr} {n c : Nat} (h : TxO w1 wr u xs) (hu : u = .slice A n c) (hF : ∀ k, F k → k < w1.heap.size) (hv : ∀ k, v.ownBlock = some k → k < w1.heap.size) (hb : But (fun k => F k ∨ v.ownBlock = some k) wr w2) : PcR w2 w2.heap.size ((A, n, c), (none, 0, 0), (none, 0, 0)) (tPc xs) := by
  have h1 := ownsRow_kept h.own (w' := w2) fun k e => hb.block k (h.own.lt k e).2 (fun hf => by
    have := (h.own.lt k e).1
    rcases hf with hf | hf
    · have := hF k hf; omega
    · have := hv k hf; omega)
  obtain ⟨A', c', e, h2, h3, h4⟩ := own_slice h1
  rw [hu] at e
  injection e with e1 e2 e3
  subst e1
  subst e2
  subst e3
  exact PcR.text ⟨h2, h3, h4⟩
end

/-- A slice of pieces as its cells. -/
theorem pcs_cells {W : World} {B n : Nat} {ad : Addr} {vs : List PcV} {ps : List Pc} (h : Pcs W B (some ad) n vs ps) : (pcCs (vs.zip ps)).length = n * 4 ∧ ∀ j u, (pcCs (vs.zip ps))[j]? = some u → W.cell? (ad.add j) = some u := by
  obtain ⟨h1, h2, h3, -⟩ := h
  have hl : (vs.zip ps).length = n := by rw [List.length_zip, h1, h2, Nat.min_self]
  refine ⟨by rw [pcCs_len, hl], fun j u hu => ?_⟩
  have hj : j < n * 4 := by have := (List.getElem?_eq_some_iff.1 hu).1; rw [pcCs_len, hl] at this; exact this
  obtain ⟨b, o, e, -, hc⟩ := h3 (by omega)
  injection e with e
  subst e
  rw [show (⟨b, o, none⟩ : Addr).add j = ⟨b, o + j, none⟩ from by unfold Addr.add; split <;> simp_all]
  have hi : j / 4 < n := by omega
  have hv : vs[j / 4]? = some (vs[j / 4]'(by omega)) := List.getElem?_eq_getElem _
  have hp : ps[j / 4]? = some (ps[j / 4]'(by omega)) := List.getElem?_eq_getElem _
  have hz : (vs.zip ps)[j / 4]? = some (vs[j / 4]'(by omega), ps[j / 4]'(by omega)) := List.getElem?_zip_eq_some.2 ⟨hv, hp⟩
  have hr : j % 4 < 4 := Nat.mod_lt _ (by decide)
  have hju := pcCs_at _ _ _ _ hz hr
  rw [show j / 4 * 4 + j % 4 = j by omega, hu] at hju
  obtain ⟨k0, k1, k2, k3⟩ := hc _ _ _ hv hp
  match hm : j % 4, hr with
  | 0, _ => rw [hm] at hju; injection hju with hju; rw [hju, show o + j = o + j / 4 * 4 by omega]; exact k0
  | 1, _ => rw [hm] at hju; injection hju with hju; rw [hju, show o + j = o + j / 4 * 4 + 1 by omega]; exact k1
  | 2, _ => rw [hm] at hju; injection hju with hju; rw [hju, show o + j = o + j / 4 * 4 + 2 by omega]; exact k2
  | 3, _ => rw [hm] at hju; injection hju with hju; rw [hju, show o + j = o + j / 4 * 4 + 3 by omega]; exact k3
theorem pcCs_one : ∀ (qs : List (PcV × Pc)), ∀ u ∈ pcCs qs, u.oneCell' = true := by
  intro qs u hu
  unfold pcCs at hu
  obtain ⟨q, _, hq⟩ := List.mem_flatMap.1 hu
  exact pcC_one _ _ u hq
theorem pcCs_app (a b : List (PcV × Pc)) : pcCs (a ++ b) = pcCs a ++ pcCs b := by simp [pcCs]
section
variable {P : Program} (w : World)
theorem run_append_nilS (base s : Nat) (t ty e : TypeId) (i : TypeInfo) (ht : P.underlying t = some (.slice e)) (hi : P.info? e = some i) (hs : i.size = s)
    (v : Value) (n : Nat) (xs : List Value) (hown : w.ownsRow base e s v n xs) (c : Nat) : (Builtin.append_ #[t, t] ty #[v, .slice none 0 c]).run P w = .ok v w := by
  rcases hown.2 with ⟨rfl, rfl⟩ | ⟨g, cap, cur, rfl, _, _, hnc, _⟩
  · simp [Builtin.append_, run_underlying ht, sizeOf, typeInfo, hi, Builtin.lenOf, Builtin.firstCells]
  · simp [Builtin.append_, run_underlying ht, sizeOf, typeInfo, hi, Builtin.lenOf, Builtin.firstCells, hnc, storeCells]
theorem run_append_pcs (base : Nat) (t ty e : TypeId) (i : TypeInfo) (z : Value) (ht : P.underlying t = some (.slice e)) (hi : P.info? e = some i) (hz : i.zero = some z)
    (hsize : i.size = 4) (hby : i.bytes = 80) (hzs : z.cells.size = 4) (v : Value) (n : Nat) (xs : List Value) (hown : w.ownsRow base e 4 v n xs)
    (B : Nat) (A : Option Addr) (m c : Nat) (vs : List PcV) (ps : List Pc) (hr : Pcs w B A m vs ps) (h63 : n + m ≤ maxLen) (hbytes : (n + m) * 80 ≤ 140737488355328) (hbase : base ≤ w.heap.size) :
    ∃ v' w', (Builtin.append_ #[t, t] ty #[v, .slice A m c]).run P w = .ok v' w' ∧ w'.ownsRow base e 4 v' (n + m) (xs ++ pcCs (vs.zip ps)) ∧ w.grownBy w' v.ownBlock ∧ (v'.ownBlock = v.ownBlock ∨ v'.ownBlock = some w.heap.size) := by
  rcases A with _ | ad
  · have hm : m = 0 := by
      rcases Nat.eq_zero_or_pos m with h0 | h0
      · exact h0
      · obtain ⟨_, _, h, _⟩ := hr.2.2.1 h0
        cases h
    subst hm
    have hp : ps = [] := List.eq_nil_of_length_eq_zero hr.1
    subst hp
    exact ⟨v, w, run_append_nilS w base 4 t ty e i ht hi hsize v n xs hown c, by simpa [pcCs] using hown, World.grownBy.refl w _, .inl rfl⟩
  · obtain ⟨hl, hcells⟩ := pcs_cells hr
    obtain ⟨v', w', hrun, h2, h3, _, h5⟩ := run_append_own_at (P := P) w base t ty e i z 4 80 ht hi hz hsize hby hzs (by decide) v n xs hown ad m c _ hl hcells (pcCs_one _) h63 hbytes hbase
    exact ⟨v', w', hrun, h2, h3, h5⟩
theorem wp_append_pcs {o : Oper} {a : Act} {K : Act → World → Prop} {Q : Exit → Act → World → Prop} (s x : Operand) (t : TypeId)
    (ho : o.op = .call { callee := .builtin .append, args := #[s, x], argTypes := #[t, t] })
    (base : Nat) (e : TypeId) (i : TypeInfo) (z : Value) (ht : P.underlying t = some (.slice e)) (hi : P.info? e = some i) (hz : i.zero = some z)
    (hsize : i.size = 4) (hby : i.bytes = 80) (hzs : z.cells.size = 4)
    (v : Value) (n : Nat) (xs : List Value) (hs : a.eval s = v) (hown : w.ownsRow base e 4 v n xs)
    (B : Nat) (A : Option Addr) (m c : Nat) (vs : List PcV) (ps : List Pc) (hx : a.eval x = .slice A m c) (hr : Pcs w B A m vs ps)
    (h63 : n + m ≤ maxLen) (hbytes : (n + m) * 80 ≤ 140737488355328) (hbase : base ≤ w.heap.size)
    (h : ∀ v' w', w'.ownsRow base e 4 v' (n + m) (xs ++ pcCs (vs.zip ps)) → w.grownBy w' v.ownBlock → (v'.ownBlock = v.ownBlock ∨ v'.ownBlock = some w.heap.size) → K (a.put o.dst v') w') : o.wp P a w K Q := by
  obtain ⟨v', w', hrun, h2, h3, h5⟩ := run_append_pcs (P := P) w base t o.type e i z ht hi hz hsize hby hzs v n xs hown B A m c vs ps hr h63 hbytes hbase
  unfold Oper.wp execOp
  simp only [ho, resolve, invoke, builtin, Sem.run_bind, Sem.run_pure, Result.andThen_ok, List.map_toArray, List.map_cons, List.map_nil, hs, hx, hrun]
  exact h v' w' h2 h3 h5
theorem wpList_append_pcs {ops : Array Oper} {rest : List Oper} {o : Oper} {a : Act} {Q : Exit → Act → World → Prop} (hgd : o.guard = none) (s x : Operand) (t : TypeId)
    (ho : o.op = .call { callee := .builtin .append, args := #[s, x], argTypes := #[t, t] })
    (base : Nat) (e : TypeId) (i : TypeInfo) (z : Value) (ht : P.underlying t = some (.slice e)) (hi : P.info? e = some i) (hz : i.zero = some z)
    (hsize : i.size = 4) (hby : i.bytes = 80) (hzs : z.cells.size = 4)
    (v : Value) (n : Nat) (xs : List Value) (hs : a.eval s = v) (hown : w.ownsRow base e 4 v n xs)
    (B : Nat) (A : Option Addr) (m c : Nat) (vs : List PcV) (ps : List Pc) (hx : a.eval x = .slice A m c) (hr : Pcs w B A m vs ps)
    (h63 : n + m ≤ maxLen) (hbytes : (n + m) * 80 ≤ 140737488355328) (hbase : base ≤ w.heap.size)
    (h : ∀ v' w', w'.ownsRow base e 4 v' (n + m) (xs ++ pcCs (vs.zip ps)) → w.grownBy w' v.ownBlock → (v'.ownBlock = v.ownBlock ∨ v'.ownBlock = some w.heap.size) → wpList P ops Q rest (a.put o.dst v') w') :
    wpList P ops Q (o :: rest) a w :=
  wpList_plain hgd fun _ hK => wp_append_pcs w s x t ho base e i z ht hi hz hsize hby hzs v n xs hs hown B A m c vs ps hx hr h63 hbytes hbase fun v' w' h2 h3 h4 => hK _ _ (h v' w' h2 h3 h4)
end
/-- The same, as one step of a region that draws. -/
theorem appendP_step {P : Program} {ops : Array Oper} {o : Oper} {a : Act} {w : World} {K : Act → World → Prop} {Q : Exit → Act → World → Prop} {G : Prop} (hg : o.guard = none) (s x : Operand) (t : TypeId)
    (ho : o.op = .call { callee := .builtin .append, args := #[s, x], argTypes := #[t, t] })
    (base : Nat) (e : TypeId) (i : TypeInfo) (z : Value) (ht : P.underlying t = some (.slice e)) (hi : P.info? e = some i) (hz : i.zero = some z)
    (hsize : i.size = 4) (hby : i.bytes = 80) (hzs : z.cells.size = 4)
    (v : Value) (n : Nat) (xs : List Value) (hs : a.eval s = v) (hown : w.ownsRow base e 4 v n xs)
    (B : Nat) (A : Option Addr) (m c : Nat) (vs : List PcV) (ps : List Pc) (hx : a.eval x = .slice A m c) (hr : Pcs w B A m vs ps)
    (h63 : n + m ≤ maxLen) (hbytes : (n + m) * 80 ≤ 140737488355328) (hbase : base ≤ w.heap.size)
    (h : ∀ v' w', w'.ownsRow base e 4 v' (n + m) (xs ++ pcCs (vs.zip ps)) → w.grownBy w' v.ownBlock → (v'.ownBlock = v.ownBlock ∨ v'.ownBlock = some w.heap.size) → K (a.put o.dst v') w') : if Region.wanted o (yielded ops a.tmps) = true then Oper.wp P o a w K Q else G := by
  rw [if_pos (by simp [Region.wanted, hg])]
  exact wp_append_pcs w s x t ho base e i z ht hi hz hsize hby hzs v n xs hs hown B A m c vs ps hx hr h63 hbytes hbase h
end Go.Proofs.YtcpopnhnihbofaaGreatDoor
