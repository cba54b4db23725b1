/- Proved here: texts joined: MkPrint, ContRef, PickCl. -/
import Derived.Test.YtcjmmidnfjifaaaGreatDoorBm04
import Derived.Test.YtcjmmidnfjifaaaGreatDoorBm18
import Derived.Test.YtcjmmidnfjifaaaGreatDoorBm20
import Derived.Test.YtcjmmidnfjifaaaGreatDoorBm25
import Derived.Test.YtcjmmidnfjifaaaGreatDoorChecked
import Derived.Deep.DeepCutAuto
import Derived.Outline
/- Proved here: the contract of the document's own answer of layer 12: Print. -/
namespace Go.Proofs.YtcjmmidnfjifaaaGreatDoor
open Go.RowKit
set_option linter.unusedVariables false
set_option maxRecDepth 100000

/-- Texts that a call tells, and a number. -/
def PrintOut (w w' : World) (e : Ending) (xs : Txs) (no : Int) : Prop := ∃ v, e = .returned (.tuple #[v, .int .i64 no]) ∧ TxO w w' v xs
theorem TxO.nil (w w' : World) (hb : Below w.heap.size w w') : TxO w w' (.slice none 0 0) [] := ⟨World.ownsRow_nil _ _ _ _, hb⟩
/-- What is printed of pieces, one way or the other. -/
def printM (ps : List Pc) (style long : Int) : Txs := if wrongM ps style long = 0 then linesM style long.toNat (if style = 3 then zealD ps else ps) else []
theorem lines_take {style : Int} {long : Nat} {ps : List Pc} {i : Nat} {p : Pc} (h : ps[i]? = some p) : linesM style long (ps.take (i + 1)) = linesM style long (ps.take i) ++ pieceM style long p := by
  unfold linesM
  rw [take_at h, List.flatMap_append]
  simp
theorem piece_len {style : Int} {long : Nat} {p : Pc} (h : smallP p) (hn : p.1 = true → p.2.2.2.length ≤ 16) : (pieceM style long p).length ≤ 180018 := by
  obtain ⟨h1, h2, h3, h4⟩ := h
  unfold pieceM
  split
  · rename_i hc
    have := conf_len (style := style) (long := long) (bs := p.2.2.1) (ds := p.2.2.2) fun d hd => by
      rcases List.mem_cons.1 hd with rfl | hd
      · exact h4
      · have := h3 d hd; omega
    have := hn hc
    omega
  · omega
theorem lines_sum {style : Int} {long : Nat} : ∀ {ps : List Pc}, (∀ p ∈ ps, smallP p ∧ (p.1 = true → p.2.2.2.length ≤ 16)) → (linesM style long ps).length ≤ ps.length * 180018
  | [], _ => by simp [linesM]
  | p :: ps, h => by
    have h1 := lines_sum (style := style) (long := long) (ps := ps) fun q hq => h q (List.mem_cons_of_mem _ hq)
    have h2 := piece_len (style := style) (long := long) (h p (List.mem_cons_self ..)).1 (h p (List.mem_cons_self ..)).2
    unfold linesM at h1 ⊢
    rw [List.flatMap_cons, List.length_append, List.length_cons]
    omega

set_option maxHeartbeats 8000000 in
theorem rPrint_any (A : Option Addr) (n c : Nat) (vs : List PcV) (ps : List Pc) (style long : Int) (w : World) (hnc : n ≤ c) (hcm : c ≤ maxLen) (hst : inR64 style) (hlg : inR64 long) (hsm : smallW ps) (hA : Pcs w w.heap.size A n vs ps) :
    Calls Tryz.prog 11 #[.slice A n c, .int .i64 style, .int .i64 long] w fun e w' => PrintOut w w' e (printM ps style long) (wrongM ps style long) := by
  have hW := Lib.hid (rWrong_any A n c vs ps style long w hnc hcm hst hlg hsm hA)
  by_cases hno : wrongM ps style long = 0
  · have hpr : printM ps style long = linesM style long.toNat (if style = 3 then zealD ps else ps) := by unfold printM; rw [if_pos hno]
    obtain ⟨g1, g2, g3, g4, g5⟩ := wrongM_none.1 hno
    have hz0 : style = 3 → ∀ p ∈ zealD ps, p.1 = true → p.2.2.2 ≠ [] ∧ p.2.2.2.length ≤ 16 := fun h => by
      subst h
      exact (wrongM_none.1 (zeal_right hno)).2.1
    rw [hno] at hW ⊢
    rw [hpr]
    obtain ⟨lg, rfl⟩ : ∃ lg : Nat, long = (lg : Int) := ⟨long.toNat, by omega⟩
    rw [Int.toNat_natCast]
    have hlg2 : lg ≤ 4096 := by omega
    have hl := hA.len
    have hAh := Lib.hid hA
    have hsmh := Lib.hid hsm
    have hncm := Lib.hid (Nat.le_trans hnc hcm)
    have hsth := Lib.hid hst
    obtain ⟨i0, hi, hzz⟩ := Option.map_eq_some_iff.1 infoStr
    simp only [Prod.mk.injEq] at hzz
    obtain ⟨hz0', hz1, hz2⟩ := hzz
    have hg2 := Lib.hid g2
    have hzs := Lib.hid hz0
    have hZe : Hid (∀ W, Below w.heap.size w W → Calls Tryz.prog 14 #[.slice A n c] W fun e w' => PcsLo W.heap.size W w' e (zealD ps)) := Lib.hid (fun W hW => rZeal_any W.heap.size A n c vs ps W (Nat.le_refl _) hsm.1.1 (hA.up hW))
    unfold inR64 at hst
    clear hA hsm hno hpr hlg hl g1 g2 g3 g4 g5 hz0 hnc hcm
    by_cases h3 : style = 3
    · subst h3
      rw [if_pos rfl]
      go_enter Tryz.func11, Tryz.ntmps11
      go_wp2_with (first
        | (go_at_call 32; refine hW.out.mono ?_; rintro e w1 ⟨rfl, hb1⟩; have hB1 := Lib.hid hb1; clear hb1)
        | (go_at_call 14; refine (hZe.out _ hB1.out).mono ?_; rintro e wb ⟨A2, n2, c2, vs2, rfl, q1, q2, q3, q4⟩; have hkn := Lib.hid (Nat.le_trans q1 q2); have hKA := Lib.hid (q3 wb (But.refl _ _)); have hBb := Lib.hid (hB1.out.trans (q4.mono hB1.out.size)); clear q1 q2 q3 q4))
      have hks : Hid (smallK (zealD ps)) := Lib.hid hsmh.out.2
      have hk16 : Hid (∀ p ∈ zealD ps, p.1 = true → p.2.2.2 ≠ [] ∧ p.2.2.2.length ≤ 16) := Lib.hid (hzs.out (by trivial))
      have hkl := hKA.out.len
      have hklh := Lib.hid hkl
      have hn100 : n2 ≤ 100 := by rw [← hkl]; exact hks.out.1.1
      clear hkl
      go_loopw [9, 10] (fun s9 s10 wr => ∃ (i : Nat) (v : Value), i ≤ n2 ∧ s10 = .int .i64 i ∧ v = s9 ∧ Hid (TxO wb wr v (linesM 3 lg ((zealD ps).take i)))) (fun _ s10 _ => n2 - (intOf s10).toNat)
      case atStart => exact ⟨0, _, Nat.zero_le _, rfl, rfl, Lib.hid (TxO.nil _ _ (Below.refl _ _))⟩
      case round =>
        obtain ⟨i, v, hi1, rfl, rfl, hO⟩ := hrel
        obtain ⟨wo, rfl⟩ : ∃ wo : World, wo = wr := ⟨_, rfl⟩
        by_cases hlt : i < n2
        · have hKo := hKA.out.up hO.out.below
          obtain ⟨b, o, cf, At, nt, ct, Ab, nb, cb, As, ns, cs, t, bs, ss, hAe, hb, hv, hp, k1, k2, k3, k4, j1, j2, j3⟩ := hKo.at_ (k := i) hlt
          subst hAe
          have i1 : (0 : Int) ≤ (i : Int) := by omega
          have i2 : (i : Int) < (n2 : Int) := by omega
          have hst1 := Lib.hid (lines_take (style := 3) (long := lg) hp)
          have hpm := List.mem_of_getElem? hp
          have hsp := hks.out.1.2 _ hpm
          have hs16 := hk16.out _ hpm
          have htx : ∀ d ∈ t :: bs :: ss, ∀ s ∈ d, s.length ≤ 1000000 := fun d hd => hks.out.2 d (mem_lists.2 ⟨_, hpm, by simpa only [List.mem_cons] using hd⟩)
          obtain ⟨y, hy⟩ : ∃ y, linesM 3 lg ((zealD ps).take i) = y := ⟨_, rfl⟩
          have hyl : Hid (y.length ≤ 18001800) := Lib.hid (by
            have h1 := lines_sum (style := 3) (long := lg) (ps := (zealD ps).take i) fun p hp => ⟨hks.out.1.2 p (List.mem_of_mem_take hp), fun h => (hk16.out p (List.mem_of_mem_take hp) h).2⟩
            have h2 : ((zealD ps).take i).length ≤ i := List.length_take_le _ _
            rw [hy] at h1
            omega)
          rw [hy] at hst1 hO
          obtain ⟨hp1, hp2, hp3, hp4⟩ := hsp
          dsimp only at hp1 hp2 hp3 hp4 hs16
          have hOo := hO.out.own
          have hszo := hO.out.below.size
          cases cf
          · have hj1 := Lib.hid j1.2.2
            have htl := j1.2.2.len
            have hnt : nt ≤ 5000 := by dsimp only at htl; omega
            clear hv hp k3 k4 j1 j2 j3 htx hs16 hy hKo hpm htl
            go_wp2_with (at_builtin; refine wpList_append_reads _ rfl (.tmp 42) (.tmp 47) 25 rfl wb.heap.size 9 i0 (.string ByteArray.empty) 16 Tryz.underlying25 hi hz0' hz1 hz2 rfl v y.length _ rfl hOo wo.heap.size At nt ct _ rfl hj1.out (strs_one _) (by have := hyl.out; unfold maxLen; omega) (by have := hyl.out; omega) hszo ?_; intro v5 w5 hown5 hg5; have hO5 := Lib.hid (hO.out.put (ys := t) hj1.out.len hown5 hg5); clear hown5 hg5)
            go_roundw
            case rel => exact ⟨i + 1, v5, by omega, by go_num, rfl, Lib.hid (by rw [hst1.out]; exact hO5.out)⟩
            case measure => simp [intOf]; omega
          · obtain ⟨hs0, hs1⟩ := hs16 rfl
            obtain ⟨f, ds, rfl⟩ : ∃ f ds, ss = f :: ds := by
              cases ss with
              | nil => exact absurd rfl hs0
              | cons f ds => exact ⟨f, ds, rfl⟩
            have hCf := Lib.hid (rConf_any ((At, nt, ct), (Ab, nb, cb), (As, ns, cs)) t bs f ds 3 lg wo (by unfold inR64; omega) hlg2 hs1 (fun d hd => ⟨by
              rcases List.mem_cons.1 hd with rfl | hd
              · exact hp4
              · have := hp3 d hd; omega, htx d (List.mem_cons_of_mem _ hd)⟩) ⟨j1, j2, j3⟩)
            have hcl : Hid ((confM 3 lg bs (f :: ds)).length ≤ 180018) := Lib.hid (by
              have := conf_len (style := 3) (long := lg) (bs := bs) (ds := f :: ds) fun d hd => by
                rcases List.mem_cons.1 hd with rfl | hd
                · exact hp4
                · have := hp3 d hd; omega
              omega)
            have hst2 : Hid (linesM 3 lg ((zealD ps).take (i + 1)) = y ++ confM 3 lg bs (f :: ds)) := Lib.hid hst1.out
            obtain ⟨T, hT⟩ : ∃ T, confM 3 lg bs (f :: ds) = T := ⟨_, rfl⟩
            rw [hT] at hCf hcl hst2
            clear hv hp j1 j2 j3 htx hs16 hy hKo hpm hT hst1 hp1 hp2 hp3 hp4 hs0 hs1 hOo
            go_wp2_with (first
              | (go_at_call 33; refine hCf.out.mono ?_; rintro e w4 ⟨u4, rfl, hu4⟩; have hO4 := Lib.hid (hO.out.call hu4.below); obtain ⟨A5, c5, hv5, l1, l2, hr5⟩ := own_slice hu4.own; subst hv5; have hr5h := Lib.hid hr5; clear hu4 l1 l2 hr5)
              | (at_builtin; refine wpList_append_reads _ rfl (.tmp 33) (.tmp 40) 25 rfl wb.heap.size 9 i0 (.string ByteArray.empty) 16 Tryz.underlying25 hi hz0' hz1 hz2 rfl v y.length _ rfl hO4.out.own w4.heap.size A5 _ c5 _ rfl hr5h.out (strs_one _) (by have := hcl.out; have := hyl.out; unfold maxLen; omega) (by have := hcl.out; have := hyl.out; omega) hO4.out.below.size ?_; intro v5 w5 hown5 hg5; have hO5 := Lib.hid (hO4.out.put (ys := T) rfl hown5 hg5); clear hown5 hg5))
            go_roundw
            case rel => exact ⟨i + 1, v5, by omega, by go_num, rfl, Lib.hid (by rw [hst2.out]; exact hO5.out)⟩
            case measure => simp [intOf]; omega
        · obtain rfl : i = n2 := by omega
          have hOf := hO.out
          rw [List.take_of_length_le (by rw [hklh.out]; exact Nat.le_refl _)] at hOf
          have hOfh := Lib.hid hOf
          clear hOf
          go_wp2
          go_ret2
          exact ⟨_, rfl, own_lower hOfh.out.own hBb.out.size, hBb.out.trans (hOfh.out.below.mono hBb.out.size)⟩
    · rw [if_neg h3]
      have h3b : (style == 3) = false := by rw [beq_eq_false_iff_ne]; exact h3
      go_enter Tryz.func11, Tryz.ntmps11
      go_wp2_with (go_at_call 32; refine hW.out.mono ?_; rintro e wb ⟨rfl, hb1⟩; have hBb := Lib.hid hb1; have hKA := Lib.hid (hAh.out.up hb1); clear hb1)
      have hkn := hncm
      have hks : Hid (smallK ps) := Lib.hid hsmh.out.1
      have hk16 := hg2
      have hkl := hKA.out.len
      have hklh := Lib.hid hkl
      have hn100 : n ≤ 100 := by rw [← hkl]; exact hks.out.1.1
      clear hkl
      go_loopw [9, 10] (fun s9 s10 wr => ∃ (i : Nat) (v : Value), i ≤ n ∧ s10 = .int .i64 i ∧ v = s9 ∧ Hid (TxO wb wr v (linesM style lg ((ps).take i)))) (fun _ s10 _ => n - (intOf s10).toNat)
      case atStart => exact ⟨0, _, Nat.zero_le _, rfl, rfl, Lib.hid (TxO.nil _ _ (Below.refl _ _))⟩
      case round =>
        obtain ⟨i, v, hi1, rfl, rfl, hO⟩ := hrel
        obtain ⟨wo, rfl⟩ : ∃ wo : World, wo = wr := ⟨_, rfl⟩
        by_cases hlt : i < n
        · have hKo := hKA.out.up hO.out.below
          obtain ⟨b, o, cf, At, nt, ct, Ab, nb, cb, As, ns, cs, t, bs, ss, hAe, hb, hv, hp, k1, k2, k3, k4, j1, j2, j3⟩ := hKo.at_ (k := i) hlt
          subst hAe
          have i1 : (0 : Int) ≤ (i : Int) := by omega
          have i2 : (i : Int) < (n : Int) := by omega
          have hst1 := Lib.hid (lines_take (style := style) (long := lg) hp)
          have hpm := List.mem_of_getElem? hp
          have hsp := hks.out.1.2 _ hpm
          have hs16 := hk16.out _ hpm
          have htx : ∀ d ∈ t :: bs :: ss, ∀ s ∈ d, s.length ≤ 1000000 := fun d hd => hks.out.2 d (mem_lists.2 ⟨_, hpm, by simpa only [List.mem_cons] using hd⟩)
          obtain ⟨y, hy⟩ : ∃ y, linesM style lg ((ps).take i) = y := ⟨_, rfl⟩
          have hyl : Hid (y.length ≤ 18001800) := Lib.hid (by
            have h1 := lines_sum (style := style) (long := lg) (ps := (ps).take i) fun p hp => ⟨hks.out.1.2 p (List.mem_of_mem_take hp), fun h => (hk16.out p (List.mem_of_mem_take hp) h).2⟩
            have h2 : ((ps).take i).length ≤ i := List.length_take_le _ _
            rw [hy] at h1
            omega)
          rw [hy] at hst1 hO
          obtain ⟨hp1, hp2, hp3, hp4⟩ := hsp
          dsimp only at hp1 hp2 hp3 hp4 hs16
          have hOo := hO.out.own
          have hszo := hO.out.below.size
          cases cf
          · have hj1 := Lib.hid j1.2.2
            have htl := j1.2.2.len
            have hnt : nt ≤ 5000 := by dsimp only at htl; omega
            clear hv hp k3 k4 j1 j2 j3 htx hs16 hy hKo hpm htl
            go_wp2_with (at_builtin; refine wpList_append_reads _ rfl (.tmp 42) (.tmp 47) 25 rfl wb.heap.size 9 i0 (.string ByteArray.empty) 16 Tryz.underlying25 hi hz0' hz1 hz2 rfl v y.length _ rfl hOo wo.heap.size At nt ct _ rfl hj1.out (strs_one _) (by have := hyl.out; unfold maxLen; omega) (by have := hyl.out; omega) hszo ?_; intro v5 w5 hown5 hg5; have hO5 := Lib.hid (hO.out.put (ys := t) hj1.out.len hown5 hg5); clear hown5 hg5)
            go_roundw
            case rel => exact ⟨i + 1, v5, by omega, by go_num, rfl, Lib.hid (by rw [hst1.out]; exact hO5.out)⟩
            case measure => simp [intOf]; omega
          · obtain ⟨hs0, hs1⟩ := hs16 rfl
            obtain ⟨f, ds, rfl⟩ : ∃ f ds, ss = f :: ds := by
              cases ss with
              | nil => exact absurd rfl hs0
              | cons f ds => exact ⟨f, ds, rfl⟩
            have hCf := Lib.hid (rConf_any ((At, nt, ct), (Ab, nb, cb), (As, ns, cs)) t bs f ds style lg wo hsth.out hlg2 hs1 (fun d hd => ⟨by
              rcases List.mem_cons.1 hd with rfl | hd
              · exact hp4
              · have := hp3 d hd; omega, htx d (List.mem_cons_of_mem _ hd)⟩) ⟨j1, j2, j3⟩)
            have hcl : Hid ((confM style lg bs (f :: ds)).length ≤ 180018) := Lib.hid (by
              have := conf_len (style := style) (long := lg) (bs := bs) (ds := f :: ds) fun d hd => by
                rcases List.mem_cons.1 hd with rfl | hd
                · exact hp4
                · have := hp3 d hd; omega
              omega)
            have hst2 : Hid (linesM style lg ((ps).take (i + 1)) = y ++ confM style lg bs (f :: ds)) := Lib.hid hst1.out
            obtain ⟨T, hT⟩ : ∃ T, confM style lg bs (f :: ds) = T := ⟨_, rfl⟩
            rw [hT] at hCf hcl hst2
            clear hv hp j1 j2 j3 htx hs16 hy hKo hpm hT hst1 hp1 hp2 hp3 hp4 hs0 hs1 hOo
            go_wp2_with (first
              | (go_at_call 33; refine hCf.out.mono ?_; rintro e w4 ⟨u4, rfl, hu4⟩; have hO4 := Lib.hid (hO.out.call hu4.below); obtain ⟨A5, c5, hv5, l1, l2, hr5⟩ := own_slice hu4.own; subst hv5; have hr5h := Lib.hid hr5; clear hu4 l1 l2 hr5)
              | (at_builtin; refine wpList_append_reads _ rfl (.tmp 33) (.tmp 40) 25 rfl wb.heap.size 9 i0 (.string ByteArray.empty) 16 Tryz.underlying25 hi hz0' hz1 hz2 rfl v y.length _ rfl hO4.out.own w4.heap.size A5 _ c5 _ rfl hr5h.out (strs_one _) (by have := hcl.out; have := hyl.out; unfold maxLen; omega) (by have := hcl.out; have := hyl.out; omega) hO4.out.below.size ?_; intro v5 w5 hown5 hg5; have hO5 := Lib.hid (hO4.out.put (ys := T) rfl hown5 hg5); clear hown5 hg5))
            go_roundw
            case rel => exact ⟨i + 1, v5, by omega, by go_num, rfl, Lib.hid (by rw [hst2.out]; exact hO5.out)⟩
            case measure => simp [intOf]; omega
        · obtain rfl : i = n := by omega
          have hOf := hO.out
          rw [List.take_of_length_le (by rw [hklh.out]; exact Nat.le_refl _)] at hOf
          have hOfh := Lib.hid hOf
          clear hOf
          go_wp2
          go_ret2
          exact ⟨_, rfl, own_lower hOfh.out.own hBb.out.size, hBb.out.trans (hOfh.out.below.mono hBb.out.size)⟩
  · have hpr : printM ps style long = [] := by unfold printM; rw [if_neg hno]
    rw [hpr]
    obtain ⟨no, hno2⟩ : ∃ no, wrongM ps style long = no := ⟨_, rfl⟩
    rw [hno2] at hno hW ⊢
    have hnb : (no == 0) = false := by rw [beq_eq_false_iff_ne]; exact hno
    clear hA hsm hpr hno2
    go_enter Tryz.func11, Tryz.ntmps11
    go_wp2_with (go_at_call 32; refine hW.out.mono ?_; rintro e w1 ⟨rfl, hb1⟩; have hB1 := Lib.hid hb1; clear hb1)
    go_ret2
    exact ⟨_, rfl, TxO.nil _ _ hB1.out⟩
end Go.Proofs.YtcjmmidnfjifaaaGreatDoor
/- Proved here: the contract of the document's own answer of layer 6: Few. -/
namespace Go.Proofs.YtcjmmidnfjifaaaGreatDoor
open Go.RowKit
set_option linter.unusedVariables false

set_option maxHeartbeats 800000 in
theorem rFew_any (A0 : Option Addr) (n0 c0 B0 : Nat) (base : Txs) (A : Option Addr) (n c B : Nat) (rows : List Slc) (files : List Txs) (w : World) (hn0 : n0 ≤ maxLen) (hn : n ≤ maxLen) (hA0 : Strs w B0 A0 n0 base) (hA : RowsT w B A n rows files) :
    Calls Tryz.prog 23 #[.slice A0 n0 c0, .slice A n c] w fun e w' => e = .returned (.bool (fewT base files)) ∧ w' = w := by
  have hf := hA.few
  have hl := hA.len
  obtain ⟨fb, hfb⟩ : ∃ fb, fewB base 20 = fb := ⟨_, rfl⟩
  have hF := Few_any A0 n0 c0 20 B0 base w hn0 (by omega) hA0
  rw [hfb] at hF
  have hF' := Lib.hid hF
  have hfbh := Lib.hid hfb
  unfold maxLen at hn
  clear hF hfb hA0
  go_enter Tryz.func23, Tryz.ntmps23
  go_wp2
  go_loop [5] (fun i => ∃ k : Nat, k ≤ n ∧ k ≤ 7 ∧ i = .int .i64 k ∧ Hid ((files.take k).all (fun f => fewB f 20) = true)) (fun i => n - (intOf i).toNat)
  case atStart => exact ⟨0, Nat.zero_le _, Nat.zero_le _, rfl, Lib.hid rfl⟩
  case round =>
    obtain ⟨k, hk, hk7, rfl, hq⟩ := hrel
    by_cases hlt : k < n
    · by_cases hm : k < 7
      · obtain ⟨b, o, A', n', c', f, rfl, hb, ht, -, hc, hnc, hcm, hst⟩ := hA.at_ (k := k) hlt
        have hfl : n' ≤ maxLen := by omega
        obtain ⟨g, hg⟩ : ∃ g, fewB f 20 = g := ⟨_, rfl⟩
        have hC := Few_any A' n' c' 20 B f w hfl (by omega) hst
        rw [hg] at hC
        have hC' := Lib.hid hC
        have hg' := Lib.hid hg
        clear hC hg
        cases g
        · go_wp2_with (go_at_call 22; refine hC'.out.mono ?_; rintro e w' ⟨rfl, rfl⟩)
          go_ret
          exact ⟨ret_bool (fewT_no hm ht hg'.out), rfl⟩
        · go_wp2_with (go_at_call 22; refine hC'.out.mono ?_; rintro e w' ⟨rfl, rfl⟩)
          go_round
          case rel => exact ⟨k + 1, by omega, by omega, by go_num, Lib.hid (fewT_step hq.out ht hg'.out)⟩
          case measure => simp [intOf]; omega
      · have hend := Lib.hid (fewT_end (base := base) hl (.inr ⟨by omega, hlt⟩) hq.out)
        have h6 : decide ((n : Int) ≤ 6) = false := by simp; omega
        cases fb
        · go_wp2_with (go_at_call 22; refine hF'.out.mono ?_; rintro e w' ⟨rfl, rfl⟩)
          go_ret
          exact ⟨ret_bool (by rw [← hend.out, hfbh.out]; rfl), rfl⟩
        · go_wp2_with (go_at_call 22; refine hF'.out.mono ?_; rintro e w' ⟨rfl, rfl⟩)
          go_ret
          exact ⟨ret_bool (by rw [← hend.out, hfbh.out]; simp; try omega), rfl⟩
    · obtain rfl : k = n := by omega
      have hend := Lib.hid (fewT_end (base := base) hl (.inl rfl) hq.out)
      cases fb
      · go_wp2_with (go_at_call 22; refine hF'.out.mono ?_; rintro e w' ⟨rfl, rfl⟩)
        all_goals
          go_ret
          exact ⟨ret_bool (by rw [← hend.out, hfbh.out]; rfl), rfl⟩
      · go_wp2_with (go_at_call 22; refine hF'.out.mono ?_; rintro e w' ⟨rfl, rfl⟩)
        all_goals
          go_ret
          exact ⟨ret_bool (by rw [← hend.out, hfbh.out]; simp; try omega), rfl⟩
end Go.Proofs.YtcjmmidnfjifaaaGreatDoor
/- Proved here: the contract of the document's own answer of layer 7: Clean. -/
namespace Go.Proofs.YtcjmmidnfjifaaaGreatDoor
open Go.RowKit
set_option linter.unusedVariables false

theorem clean_no {ps : List Pc} {k : Nat} {p : Pc} (ht : ps[k]? = some p) (h : p.1 = true) : false = cleanB ps := by
  unfold cleanB
  rw [eq_comm, Bool.eq_false_iff, ne_eq, List.all_eq_true]
  intro ha
  have := ha p (List.mem_of_getElem? ht)
  rw [h] at this
  cases this
set_option maxHeartbeats 1000000 in
theorem rClean_any (A : Option Addr) (n c B : Nat) (vs : List PcV) (ps : List Pc) (w : World) (hn : n ≤ maxLen) (hA : Pcs w B A n vs ps) :
    Calls Tryz.prog 20 #[.slice A n c] w fun e w' => e = .returned (.bool (cleanB ps)) ∧ w' = w := by
  have hl := hA.len
  unfold maxLen at hn
  go_enter Tryz.func20, Tryz.ntmps20
  go_wp2
  go_loop [3] (fun i => ∃ k : Nat, k ≤ n ∧ i = .int .i64 k ∧ Hid (∀ (j : Nat) (p : Pc), j < k → ps[j]? = some p → p.1 = false)) (fun i => n - (intOf i).toNat)
  case atStart => exact ⟨0, Nat.zero_le _, rfl, Lib.hid fun j p h => absurd h (by omega)⟩
  case round =>
    obtain ⟨k, hk, rfl, hq⟩ := hrel
    by_cases hlt : k < n
    · obtain ⟨b, o, cf, At, nt, ct, Ab, nb, cb, As, ns, cs, t, bs, ss, rfl, hb, hv, hp, k1, k2, k3, k4, j1, j2, j3⟩ := hA.at_ (k := k) hlt
      have hph := Lib.hid hp
      clear hv hp j1 j2 j3 k2 k3 k4
      cases cf
      · go_wp2
        go_round
        case rel =>
          refine ⟨k + 1, by omega, by go_num, Lib.hid fun j p hj hp => ?_⟩
          rcases Nat.lt_or_ge j k with h | h
          · exact hq.out j p h hp
          · obtain rfl : j = k := by omega
            rw [hph.out] at hp
            injection hp with hp
            rw [← hp]
        case measure => simp [intOf]; omega
      · go_wp2
        go_ret
        exact ⟨ret_bool (clean_no hph.out rfl), rfl⟩
    · obtain rfl : k = n := by omega
      have hc : cleanB ps = true := by
        unfold cleanB
        rw [List.all_eq_true]
        intro p hp
        obtain ⟨j, hj⟩ := List.mem_iff_getElem?.1 hp
        rw [hq.out j p (by have := (List.getElem?_eq_some_iff.1 hj).1; omega) hj]
        rfl
      have hch := Lib.hid hc
      clear hc
      go_wp2
      go_ret
      exact ⟨ret_bool hch.out.symm, rfl⟩
end Go.Proofs.YtcjmmidnfjifaaaGreatDoor
