/- Proved here: texts joined: MkForm. -/
import Derived.Test.YtcjmmidnfjifaaaGreatDoorBm11
import Derived.Test.YtcjmmidnfjifaaaGreatDoorBm19
import Derived.Test.YtcjmmidnfjifaaaGreatDoorBm20
import Derived.Test.YtcjmmidnfjifaaaGreatDoorBm21
/- Proved here: the contract of the document's own answer of layer 12: Form. -/
namespace Go.Proofs.YtcjmmidnfjifaaaGreatDoor
open Go.RowKit
set_option linter.unusedVariables false
set_option maxRecDepth 100000

/-- Pieces that are neither many nor long, of texts that aren't long. -/
def smallK (ps : List Pc) : Prop := smallZ ps ∧ ∀ d ∈ listsP ps, ∀ s ∈ d, s.length ≤ 1000000
theorem sumT_small : ∀ {ps : List Pc}, (∀ p ∈ ps, smallP p) → sumT ps ≤ ps.length * 5000
  | [], _ => by simp [sumT]
  | p :: ps, h => by
    have h1 := sumT_small (ps := ps) fun q hq => h q (List.mem_cons_of_mem _ hq)
    have h2 := (h p (List.mem_cons_self ..)).1
    rw [sumT_cons, List.length_cons]
    omega
theorem lists_count : ∀ {ps : List Pc}, (∀ p ∈ ps, smallP p) → (listsP ps).length ≤ ps.length * 1002
  | [], _ => by simp [listsP]
  | p :: ps, h => by
    have h1 := lists_count (ps := ps) fun q hq => h q (List.mem_cons_of_mem _ hq)
    have h2 := (h p (List.mem_cons_self ..)).2.1
    unfold listsP at h1 ⊢
    rw [List.flatMap_cons, List.length_append, List.length_cons]
    simp only [List.length_cons]
    omega
theorem dropLast_all {ps : List Pc} {n : Nat} (f : Pc → Bool) (hl : ps.length = n) (h : ∀ i p, i + 1 < n → ps[i]? = some p → f p = true) : ps.dropLast.all f = true := by
  rw [List.all_eq_true]
  intro p hp
  obtain ⟨i, hi⟩ := List.mem_iff_getElem?.1 hp
  rw [List.getElem?_dropLast] at hi
  split at hi
  · rename_i hlt
    exact h i p (by omega) hi
  · cases hi
theorem dropLast_no {ps : List Pc} {n i : Nat} {p : Pc} (f : Pc → Bool) (hl : ps.length = n) (hi : i + 1 < n) (hp : ps[i]? = some p) (h : f p = false) : ps.dropLast.all f = false := by
  rw [List.all_eq_false]
  exact ⟨p, List.mem_of_getElem? (i := i) (by rw [List.getElem?_dropLast, if_pos (by omega)]; exact hp), by rw [h]; simp⟩

set_option maxHeartbeats 4000000 in
theorem rForm_any (A : Option Addr) (n c : Nat) (vs : List PcV) (ps : List Pc) (w : World) (hnc : n ≤ maxLen) (hsm : smallK ps) (hA : Pcs w w.heap.size A n vs ps) :
    Calls Tryz.prog 52 #[.slice A n c] w fun e w' => e = .returned (.bool (formB ps)) ∧ Below w.heap.size w w' := by
  obtain ⟨⟨hs1, hs2⟩, hs3⟩ := hsm
  have hl := hA.len
  have hn100 : n ≤ 100 := by omega
  have hNo := Lib.hid (rNormal_any A n c vs ps w (by omega) (by have := sumT_small hs2; omega) hA)
  have hAh := Lib.hid hA
  have hlh := Lib.hid hl
  have hs3h := Lib.hid hs3
  have hLi : Hid (∀ W, Below w.heap.size w W → Calls Tryz.prog 17 #[.slice A n c] W fun e w' => RowsOut W w' e (listsP ps)) := Lib.hid (fun W hW => rLists_any A n c vs ps W hnc (by have := lists_count hs2; omega) (hA.up hW))
  obtain ⟨sm, hsm2⟩ : ∃ sm, decide (ps = normal ps) = sm := ⟨_, rfl⟩
  have hSm : Hid (∀ (A' : Option Addr) (n' c' : Nat) (vs' : List PcV) (W : World), n' ≤ maxLen → Below w.heap.size w W → Pcs W W.heap.size A' n' vs' (normal ps) → Calls Tryz.prog 77 #[.slice A n c, .slice A' n' c'] W fun e w' => e = .returned (.bool sm) ∧ Below w.heap.size w w') := Lib.hid (fun A' n' c' vs' W h1 hW h2 => by
    have := pSame_any A A' n n' c c' _ _ vs vs' ps (normal ps) W hnc h1 (hA.up hW) h2
    rw [hsm2] at this
    refine this.mono ?_
    rintro e w' ⟨r1, q, rfl⟩
    exact ⟨r1, below_drewN hW q⟩)
  have hMa : Hid (∀ (A' : Option Addr) (n' c' : Nat) (d : Txs) (W : World), n' ≤ maxLen → d ∈ listsP ps → Strs W W.heap.size A' n' d → Calls Tryz.prog 16 #[.slice A' n' c'] W fun e w' => e = .returned (.bool (mayB d)) ∧ ∃ q, w' = W.drewN q) := Lib.hid (fun A' n' c' d W h1 h2 h3 => (rMayB_any A' n' c' W.heap.size d W h1 (fun s hs => by have := hs3 d h2 s hs; unfold maxLen; omega) h3).mono fun e w' h => ⟨h.1, 0, h.2.symm⟩)
  have hOp : Hid (∀ (A' : Option Addr) (n' c' : Nat) (d : Txs) (W : World), n' ≤ maxLen → d ∈ listsP ps → Strs W W.heap.size A' n' d → Calls Tryz.prog 78 #[.slice A' n' c'] W fun e w' => e = .returned (.bool (openB d)) ∧ W = w') := Lib.hid (fun A' n' c' d W h1 h2 h3 => rOpen_any A' n' c' W.heap.size d W h1 (fun s hs => by have := hs3 d h2 s hs; unfold maxLen; omega) h3)
  have hf : formB ps = (sm && (listsP ps).all mayB && ps.dropLast.all fun p => !openB p.2.1) := by unfold formB; rw [hsm2]
  have hfh := Lib.hid hf
  have hnm : n ≤ 9223372036854775807 := by unfold maxLen at hnc; omega
  clear hA hl hs1 hs2 hs3 hsm2 hf hnc
  cases sm
  · go_enter Tryz.func52, Tryz.ntmps52
    go_wp2_with (first
      | (go_at_call 35; refine hNo.out.mono ?_; rintro e w1 ⟨A1, n1, c1, vs1, rfl, h1, h2, h3, h4⟩; have hp := Lib.hid (And.intro (Nat.le_trans h1 h2) (And.intro h3 h4)); clear h1 h2 h3 h4)
      | (go_at_call 77; refine (hSm.out A1 n1 c1 vs1 _ hp.out.1 hp.out.2.2 hp.out.2.1).mono ?_; rintro e w2 ⟨rfl, hb2⟩; have hB2 := Lib.hid hb2; clear hb2))
    go_ret
    exact ⟨ret_bool (by rw [hfh.out]; rfl), hB2.out⟩
  · go_enter Tryz.func52, Tryz.ntmps52
    go_wp2_with (first
      | (go_at_call 35; refine hNo.out.mono ?_; rintro e w1 ⟨A1, n1, c1, vs1, rfl, h1, h2, h3, h4⟩; have hp := Lib.hid (And.intro (Nat.le_trans h1 h2) (And.intro h3 h4)); clear h1 h2 h3 h4)
      | (go_at_call 77; refine (hSm.out A1 n1 c1 vs1 _ hp.out.1 hp.out.2.2 hp.out.2.1).mono ?_; rintro e w2 ⟨rfl, hb2⟩; have hB2 := Lib.hid hb2; clear hb2)
      | (go_at_call 17; refine (hLi.out _ hB2.out).mono ?_; rintro e w3 ⟨A3, n3, c3, rr, rfl, h1, h2, h3, h4⟩; have hR := Lib.hid (And.intro (Nat.le_trans h1 h2) h3); have hB3 := Lib.hid (hB2.out.trans (h4.mono hB2.out.size)); clear h1 h2 h3 h4))
    have hn3 : n3 ≤ 9223372036854775807 := by have := hR.out.1; unfold maxLen at this; omega
    go_loopw [4] (fun s4 wr => ∃ i : Nat, i ≤ n3 ∧ s4 = .int .i64 i ∧ Hid (((listsP ps).take i).all mayB = true) ∧ Hid (Below w3.heap.size w3 wr)) (fun s4 _ => n3 - (intOf s4).toNat)
    case atStart => exact ⟨0, Nat.zero_le _, rfl, Lib.hid rfl, Lib.hid (Below.refl _ _)⟩
    case round =>
      obtain ⟨i, hi, rfl, hq, hB⟩ := hrel
      obtain ⟨wo, rfl⟩ : ∃ wo : World, wo = wr := ⟨_, rfl⟩
      by_cases hlt : i < n3
      · obtain ⟨b, o, A4, n4, c4, d, rfl, hb, hd, hr, hc, hnc4, hcm4, hst⟩ := (hR.out.2.up hB.out).at_ (k := i) hlt
        have i1 : (0 : Int) ≤ (i : Int) := by omega
        have i2 : (i : Int) < (n3 : Int) := by omega
        have hM := hMa.out A4 n4 c4 d wo (Nat.le_trans hnc4 hcm4) (List.mem_of_getElem? hd) hst
        obtain ⟨m, hm⟩ : ∃ m, mayB d = m := ⟨_, rfl⟩
        rw [hm] at hM
        have hMh := Lib.hid hM
        have hdh := Lib.hid hd
        have hmh := Lib.hid hm
        clear hd hr hst hM hm hnc4 hcm4
        cases m
        · have hno : Hid ((listsP ps).all mayB = false) := Lib.hid (by rw [List.all_eq_false]; exact ⟨d, List.mem_of_getElem? hdh.out, by rw [hmh.out]; simp⟩)
          go_wp2_with (go_at_call 16; refine hMh.out.mono ?_; rintro e w5 ⟨rfl, q, rfl⟩)
          go_ret
          exact ⟨ret_bool (by rw [hfh.out, hno.out]; rfl), hB3.out.trans ((below_drewN hB.out q).mono hB3.out.size)⟩
        · have hnx := Lib.hid (show ((listsP ps).take (i + 1)).all mayB = true by rw [take_at hdh.out, List.all_append, hq.out]; simp [hmh.out])
          go_wp2_with (go_at_call 16; refine hMh.out.mono ?_; rintro e w5 ⟨rfl, q, rfl⟩)
          go_roundw
          case rel => exact ⟨i + 1, by omega, by go_num, hnx, Lib.hid (below_drewN hB.out q)⟩
          case measure => simp [intOf]; omega
      · obtain rfl : i = n3 := by omega
        have hall : Hid ((listsP ps).all mayB = true) := Lib.hid (by have := hq.out; rw [List.take_of_length_le (by rw [hR.out.2.len]; exact Nat.le_refl _)] at this; exact this)
        have hBo := Lib.hid (hB3.out.trans (hB.out.mono hB3.out.size))
        go_wp2
        go_loopw [5] (fun s5 wr => ∃ i : Nat, (i = 0 ∨ i < n) ∧ s5 = .int .i64 i ∧ Hid (∀ j p, j < i → ps[j]? = some p → openB p.2.1 = false) ∧ wr = wo) (fun s5 _ => n - (intOf s5).toNat)
        case atStart => exact ⟨0, .inl rfl, rfl, Lib.hid (fun j p h => absurd h (by omega)), rfl⟩
        case round =>
          obtain ⟨k, hk, rfl, hq2, rfl⟩ := hrel
          have k1' : IntKind.i64.wrap ((k : Int) + 1) = ((k + 1 : Nat) : Int) := by rw [IntWalk.i64_in _ (by omega)]; omega
          by_cases hlt : k + 1 < n
          · obtain ⟨b, o, cf, At, nt, ct, Ab, nb, cb, As, ns, cs, t, bs, ss, rfl, hb, hv, hp2, k1, k2, k3, k4, j1, -, -⟩ := (hAh.out.up hBo.out).at_ (k := k) (by omega)
            have i1 : (0 : Int) ≤ (k : Int) := by omega
            have i2 : (k : Int) < (n : Int) := by omega
            have i3 : (k : Int) + 1 < (n : Int) := by omega
            have hO := hOp.out At nt ct t wr (Nat.le_trans j1.1 j1.2.1) (mem_lists.2 ⟨_, List.mem_of_getElem? hp2, .inl rfl⟩) j1.2.2
            obtain ⟨m, hm⟩ : ∃ m, openB t = m := ⟨_, rfl⟩
            rw [hm] at hO
            have hOh := Lib.hid hO
            have hph := Lib.hid hp2
            have hmh := Lib.hid hm
            clear hp2 hv j1 hO hm k1 k3 k4
            cases m
            · have hnx : Hid (∀ j p, j < k + 1 → ps[j]? = some p → openB p.2.1 = false) := Lib.hid (fun j p hj hpj => by
                rcases Nat.lt_or_ge j k with h | h
                · exact hq2.out j p h hpj
                · obtain rfl : j = k := by omega
                  rw [hph.out] at hpj
                  injection hpj with hpj
                  subst hpj
                  exact hmh.out)
              go_wp2_with (go_at_call 78; refine hOh.out.mono ?_; rintro e w5 ⟨rfl, rfl⟩)
              go_roundw
              case rel => exact ⟨k + 1, .inr (by omega), by go_num, hnx, trivial⟩
              case measure => simp [intOf]; omega
            · have hno := Lib.hid (dropLast_no (fun p : Pc => !openB p.2.1) hlh.out hlt hph.out (by dsimp only; rw [hmh.out]; rfl))
              go_wp2_with (go_at_call 78; refine hOh.out.mono ?_; rintro e w5 ⟨rfl, rfl⟩)
              go_ret
              exact ⟨ret_bool (by rw [hfh.out, hall.out, hno.out]; rfl), hBo.out⟩
          · have i3 : ¬ (k : Int) + 1 < (n : Int) := by omega
            have hyes := Lib.hid (dropLast_all (fun p : Pc => !openB p.2.1) hlh.out (fun j p hj hpj => by
              show (!openB p.2.1) = true
              rw [hq2.out j p (by omega) hpj]
              rfl))
            go_wp2
            go_ret
            exact ⟨ret_bool (by rw [hfh.out, hall.out, hyes.out]; rfl), hBo.out⟩
end Go.Proofs.YtcjmmidnfjifaaaGreatDoor
