/- Proved here: texts joined: EdRun, EdLawA. -/
import Derived.Test.YtdfpifipkchmnaaGreatDoorBa16
import Derived.Test.YtdfpifipkchmnaaGreatDoorBa24
/- Proved here: the contract of the document's own answer of layer 17: Run. -/
namespace Go.Proofs.YtdfpifipkchmnaaGreatDoor
open Go.RowKit
set_option linter.unusedVariables false
set_option maxRecDepth 100000

set_option maxHeartbeats 16000000 in
theorem rRun_any (As : Option Addr) (ns cs : Nat) (script : Txs) (A : Option Addr) (n c : Nat) (file : Txs) (w : World) (hs : smallE script) (hf : smallE file) (hS : TxR w w.heap.size (As, ns, cs) script) (hA : TxR w w.heap.size (A, n, c) file) :
    Calls Tryz.prog 10 #[.slice As ns cs, .slice A n c] w fun e w' => EdOut w w' e (edR script file) := by
  have hsl : script.length = ns := hS.2.2.len
  have hfl : file.length = n := hA.2.2.len
  have hM : Hid (∀ W, W = w → Calls Tryz.prog 12 #[.slice A n c] W fun e w' => e = .returned (.bool (mayB file)) ∧ W = w') := Lib.hid (fun W hW => by subst hW; exact rMayB_any A n c W.heap.size file W (Nat.le_trans hA.1 hA.2.1) (fun s h => by have := hf.2 s h; unfold maxLen; omega) hA.2.2)
  have hO : Hid (∀ W, W = w → Calls Tryz.prog 13 #[.slice A n c] W fun e w' => e = .returned (.bool (openB file)) ∧ W = w') := Lib.hid (fun W hW => by subst hW; exact rOpen_any A n c W.heap.size file W (Nat.le_trans hA.1 hA.2.1) (fun s h => by have := hf.2 s h; unfold maxLen; omega) hA.2.2)
  obtain ⟨mb, hmb⟩ : ∃ mb, mayB file = mb := ⟨_, rfl⟩
  obtain ⟨ob, hob⟩ : ∃ ob, openB file = ob := ⟨_, rfl⟩
  rw [hmb] at hM
  rw [hob] at hO
  have hb0 := Lib.hid (Below.refl w.heap.size w)
  by_cases hbad : mb = false ∨ ob = true
  · have hed : Hid (edR script file = ([], false, 0, 1)) := Lib.hid (by unfold edR; rw [hmb, hob, if_pos hbad])
    have hways : (mb = false) ∨ (mb = true ∧ ob = true) := by cases mb <;> simp_all
    clear hmb hob hbad hS hA hs hf hsl hfl
    rcases hways with rfl | ⟨rfl, rfl⟩
    all_goals
      go_enter Tryz.func10, Tryz.ntmps10
      go_wp2_with (first
        | (go_at_call 12; refine (hM.out _ rfl).mono ?_; rintro e w6 ⟨rfl, hww⟩; subst hww)
        | (go_at_call 13; refine (hO.out _ rfl).mono ?_; rintro e w6 ⟨rfl, hww⟩; subst hww))
      refine bodyPost_ret (v := .tuple #[.slice none 0 0, .bool false, .int .i64 0, .int .i64 1]) (by simp [results, Tryz.results10, go_sem]) rfl ?_
      rw [hed.out]
      exact ⟨none, 0, 0, rfl, TxR.nil _ _, hb0.out⟩
  · have hg : mb = true ∧ ob = false := by cases mb <;> cases ob <;> simp_all
    obtain ⟨rfl, rfl⟩ := hg
    have hed : Hid (∀ f sv at_ bad line, EdAt script file f sv at_ bad line → (bad ≠ 0 → edR script file = ([], false, line, bad)) ∧ (bad = 0 → at_ = ns → edR script file = (f, sv, 0, 0)) ∧ (bad = 0 → at_ < ns → script[at_]? = some [113, 10] → edR script file = (f, sv, 0, 0))) := Lib.hid (fun f sv at_ bad line h => by
      have hc : ¬ (mayB file = false ∨ openB file = true) := by rw [hmb, hob]; exact hbad
      refine ⟨fun h0 => ?_, fun h0 h1 => ?_, fun h0 h1 h2 => ?_⟩
      · unfold edR
        rw [if_neg hc, h.2 h0]
      · obtain ⟨-, -, h3, -⟩ := h.1 h0
        unfold edR
        rw [if_neg hc, h3, List.drop_of_length_le (by omega), run_nil]
      · obtain ⟨-, -, h3, -⟩ := h.1 h0
        unfold edR
        rw [if_neg hc, h3, drop_at h2, run_q])
    have hstart : Hid (EdAt script file file false 0 0 0) := Lib.hid ⟨fun _ => ⟨rfl, Nat.zero_le _, rfl, by omega, hf.2⟩, fun h => absurd rfl h⟩
    have hcs0 : Hid (EdC w (w.alloc (.cells #[.slice A n c, .bool false, .int .i64 0, .int .i64 0, .int .i64 0] 45)) file false 0 0 0) := Lib.hid ⟨A, n, c, one_a w _, hA.up (below_alloc (Below.refl _ _) _), below_alloc (Below.refl _ _) _⟩
    have hSh := Lib.hid hS
    have hsh := Lib.hid hs
    have hslh := Lib.hid hsl
    have hfb : Hid (n ≤ 1000) := Lib.hid (by have := hf.1; omega)
    have hns : Hid (ns ≤ 1000) := Lib.hid (by have := hs.1; omega)
    have hflh := Lib.hid hfl
    clear hmb hob hbad hS hA hs hf hsl hfl
    go_enter Tryz.func10, Tryz.ntmps10
    go_wp2_with (first
      | (go_at_call 12; refine (hM.out _ rfl).mono ?_; rintro e w6 ⟨rfl, hww⟩; subst hww)
      | (go_at_call 13; refine (hO.out _ rfl).mono ?_; rintro e w6 ⟨rfl, hww⟩; subst hww))
    go_loopg [9] (ns + 1) (fun gk s9 wr => ∃ (f : Txs) (sv : Bool) (at_ bad line : Nat), Hid (gk = if bad = 0 then (ns - at_) + 1 else 0) ∧ Hid (EdC w wr f sv at_ bad line) ∧ Hid (EdAt script file f sv at_ bad line) ∧ Hid (at_ ≤ 3000 ∧ bad ≤ 10 ∧ line ≤ 3000))
    case atStart => exact ⟨file, false, 0, 0, 0, Lib.hid (by simp), hcs0, hstart, Lib.hid (by omega)⟩
    case round =>
      obtain ⟨f, sv, at_, bad, line, hgk, hC, hE, hbd⟩ := hrel
      obtain ⟨Af, nf, cf, hh, hT, hB⟩ := hC.out
      obtain ⟨⟨x0, x1, x2, x3, x4⟩, d0, d1, d2, d3, d4⟩ := st_cells hh
      have hTh := Lib.hid hT
      have hBh := Lib.hid hB
      have hhh := Lib.hid hh
      clear hh hT hB
      by_cases hb : bad = 0
      · subst hb
        obtain ⟨hl0, hle0, -, hsz0, hsm0⟩ := hE.out.1 rfl
        subst hl0
        have hgk2 : Hid (gk = (ns - at_) + 1) := Lib.hid (by have := hgk.out; rw [if_pos rfl] at this; exact this)
        clear hgk
        by_cases hlt : at_ < ns
        · obtain ⟨b, o, t, rfl, hbk, ht, hc0⟩ := Strs.at_ hSh.out.2.2 (k := at_) hlt
          have hts : t.length ≤ 10000 := hsh.out.2 t (List.mem_of_getElem? ht)
          have xt := (hBh.out.cell (p := ⟨b, o + at_, none⟩) hbk).trans hc0
          obtain ⟨M, N, wh, hR⟩ : ∃ M N wh, readE t = (M, N, wh) := ⟨_, _, _, rfl⟩
          have hRd := Lib.hid (rRead_any t wr (by omega))
          rw [hR] at hRd
          obtain ⟨S, hS⟩ : ∃ S, str t = S := ⟨_, rfl⟩
          rw [hS] at hRd xt
          have i1 : (0 : Int) ≤ (at_ : Int) := by omega
          have i2 : (at_ : Int) < (ns : Int) := by omega
          obtain ⟨C, hC8⟩ : ∃ C : Int, (wh.toNat : Int) = C := ⟨_, rfl⟩
          have h113 : (C == 113) = (wh == 113) := by rw [← hC8]; exact byte_is (c := wh) (n := 113) (by omega)
          have h0 : (C == 0) = (wh == 0) := by rw [← hC8]; exact byte_is (c := wh) (n := 0) (by omega)
          have h119 : (C == 119) = (wh == 119) := by rw [← hC8]; exact byte_is (c := wh) (n := 119) (by omega)
          have hRd2 : Hid (Calls Tryz.prog 23 #[.string S] wr fun e w' => e = .returned (.agg #[.int .i64 M, .int .i64 N, .int .u8 C]) ∧ Below wr.heap.size wr w') := Lib.hid (by
            have := hRd.out
            unfold CmdOut at this
            rw [← hC8]
            exact this)
          have hRh := Lib.hid hR
          have hth := Lib.hid ht
          have hC8h := Lib.hid hC8
          have h113h := Lib.hid h113
          have h0h := Lib.hid h0
          have h119h := Lib.hid h119
          have hsz0h := Lib.hid hsz0
          have hsm0h := Lib.hid hsm0
          clear hRd hS hR ht hC8 h113 h0 h119 hbk hc0 hts hsz0 hsm0 hle0
          go_upto_region 6 with (go_at_call 23; refine hRd2.out.mono ?_; rintro e w1 ⟨rfl, hb1⟩; have hB1 := Lib.hid hb1; clear hb1)
          obtain ⟨W2, hW2⟩ : ∃ W2, W2 = w1.alloc (.cells #[.int .i64 M, .int .i64 N, .int .u8 C] 47) := ⟨_, rfl⟩
          have hbw : Below wr.heap.size wr W2 := by rw [hW2]; exact hB1.out.alloc hB1.out.size _
          have hcc : W2.heap[w1.heap.size]? = some (.cells #[.int .i64 M, .int .i64 N, .int .u8 C] 47 (0, 0)) := by rw [hW2]; exact one_a w1 _
          rw [← hW2]
          have z0 : W2.cell? ⟨w1.heap.size, 0, none⟩ = some (.int .i64 M) := by rw [cells_of hcc]; rfl
          have z1 : W2.cell? ⟨w1.heap.size, 1, none⟩ = some (.int .i64 N) := by rw [cells_of hcc]; rfl
          have z2 : W2.cell? ⟨w1.heap.size, 2, none⟩ = some (.int .u8 C) := by rw [cells_of hcc]; rfl
          have hC2 := Lib.hid (hC.out.up hbw)
          have hT2 := Lib.hid (hTh.out.up hbw)
          have hB2 := Lib.hid (hBh.out.trans (hbw.mono hBh.out.size))
          have hlt2 : w.heap.size < W2.heap.size := by have := hB2.out.size; have h2 := (Array.getElem?_eq_some_iff.1 hhh.out).1; have h3 := hbw.size; omega
          have hh2 : W2.heap[w.heap.size]? = some (.cells #[.slice Af nf cf, .bool sv, .int .i64 (at_ : Int), .int .i64 0, .int .i64 0] 45 (0, 0)) := (hbw.block _ (Array.getElem?_eq_some_iff.1 hhh.out).1).trans hhh.out
          clear hW2 hbw hcc x0 x1 x2 x3 x4 d0 d1 d2 d3 d4 xt hhh
          obtain ⟨⟨x0, x1, x2, x3, x4⟩, d0, d1, d2, d3, d4⟩ := st_cells hh2
          have hh2h := Lib.hid hh2
          clear hh2
          obtain ⟨P, hP⟩ : ∃ P, at_ + 1 = P := ⟨_, rfl⟩
          have hnx : Hid (∀ x, stepE ns at_ t (script.drop (at_ + 1)) f sv = x → ∀ F5 S5 T5 B5 L5, resE f sv at_ x = (F5, S5, T5, B5, L5) → EdAt script file F5 S5 (T5 + 1) B5 L5 ∧ at_ ≤ T5 ∧ T5 + 1 ≤ ns ∧ B5 ≤ 7 ∧ L5 ≤ ns + 1) := Lib.hid (fun x hx F5 S5 T5 B5 L5 h5 => by
            rw [← hslh.out] at hx
            have h1 := hE.out.next hth.out hsh.out.2 x hx
            have h2 := res_bounds x hx (by rw [List.length_drop, hslh.out]; omega)
            rw [h5] at h1 h2
            rw [hslh.out] at h2
            exact ⟨h1, h2⟩)
          by_cases hq : wh = 113
          · have b1 : (C == 113) = true := by rw [h113h.out, hq]; rfl
            have hq2 : t = [113, 10] := read_quit (by rw [hRh.out]; exact hq)
            have hres := Lib.hid ((hed.out _ _ _ _ _ hE.out).2.2 rfl hlt (by rw [hth.out, hq2]))
            clear hed hnx hP hq hq2 hlt
            go_wp2
            go_quiet (fail)
            go_wp2
            refine bodyPost_ret (v := .tuple #[.slice Af nf cf, .bool sv, .int .i64 0, .int .i64 0]) (by simp [results, Tryz.results10, go_sem]) rfl ?_
            rw [hres.out]
            exact ⟨Af, nf, cf, rfl, hT2.out.up (below_drewN (Below.refl _ _) _), below_drewN hB2.out _⟩
          · have b1 : (C == 113) = false := by rw [h113h.out, beq_eq_false_iff_ne]; exact hq
            by_cases hq0 : wh = 0
            · have b2 : (C == 0) = true := by rw [h0h.out, hq0]; rfl
              have hst := step_none (len := ns) (rest := script.drop (at_ + 1)) (f := f) (sv := sv) (at_ := at_) (hq0 ▸ hRh.out)
              obtain ⟨F5, S5, T5, B5, L5, h5⟩ : ∃ F5 S5 T5 B5 L5, resE f sv at_ (.inl (2, at_ + 1)) = (F5, S5, T5, B5, L5) := ⟨_, _, _, _, _, rfl⟩
              obtain ⟨hE5', hbo'⟩ := hnx.out _ hst _ _ _ _ _ h5
              have h5' := h5
              simp only [resE, Prod.mk.injEq] at h5'
              obtain ⟨rfl, rfl, rfl, rfl, hL5⟩ := h5'
              obtain ⟨U, hU⟩ : ∃ U, at_ + 1 = U := ⟨_, rfl⟩
              have hE5 := Lib.hid (hU ▸ hE5' : EdAt script file f sv U 2 L5)
              have hbo := Lib.hid hbo'
              have hUh := Lib.hid hU
              have hnsb := hns.out
              have hPU : P = U := by omega
              subst hPU
              have hLP : L5 = P := by omega
              subst hLP
              have e9 : (at_ : Int) + 1 = (L5 : Int) := by omega
              have e8 : IntKind.i64.wrap (L5 : Int) = (L5 : Int) := IntWalk.i64_in _ (by omega)
              obtain ⟨B5, hB5⟩ : ∃ B5, B5 = 2 := ⟨_, rfl⟩
              have hF : Hid (Calls Tryz.prog 24 #[.agg #[.slice Af nf cf, .bool sv, .int .i64 (at_ : Int), .int .i64 0, .int .i64 0], .int .i64 2, .int .i64 (L5 : Int)] W2 fun e w' => e = .returned (.agg #[.slice Af nf cf, .bool sv, .int .i64 (at_ : Int), .int .i64 2, .int .i64 (L5 : Int)]) ∧ Below W2.heap.size W2 w') := Lib.hid (rFail_any Af nf cf sv at_ 0 0 2 L5 W2)
              clear hed hnx hst h5 hL5 hU hP hE5' hbo' hnsb hq hq0 hlt
              go_upto_region 13 with (go_at_call 24; refine hF.out.mono ?_; rintro e w3 ⟨rfl, hb3⟩; have hB3 := Lib.hid hb3; have hh3 := (hb3.block _ hlt2).trans hh2h.out; obtain ⟨⟨u0, u1, u2, u3, u4⟩, v0, v1, v2, v3, v4⟩ := st_cells hh3; have hh3h := Lib.hid hh3; clear hb3 hh3 x0 x1 x2 x3 x4)
              have hV : Hid (EdC w (setS w3 w.heap.size (.slice Af nf cf) (.bool sv) (.int .i64 (at_ : Int)) (.int .i64 2) (.int .i64 (L5 : Int))) f sv at_ 2 L5) := Lib.hid (EdC.put (f' := f) (sv' := sv) (at' := at_) (bad' := 2) (line' := L5) (hC2.out.up hB3.out) (hT2.out.up hB3.out))
              obtain ⟨V4, hV4⟩ : ∃ V4, V4 = setS w3 w.heap.size (.slice Af nf cf) (.bool sv) (.int .i64 (at_ : Int)) (.int .i64 2) (.int .i64 (L5 : Int)) := ⟨_, rfl⟩
              rw [← hV4] at hV
              change Code.wp Tryz.prog _ _ _ (setS w3 w.heap.size (.slice Af nf cf) (.bool sv) (.int .i64 (at_ : Int)) (.int .i64 2) (.int .i64 (L5 : Int)))
              rw [← hV4]
              clear hV4 u0 u1 u2 u3 u4 v0 v1 v2 v3 v4 d0 d1 d2 d3 d4
              obtain ⟨A9, n9, c9, hh9, -, -⟩ := hV.out
              obtain ⟨⟨c0, c1, c2, c3, c4⟩, d0, d1, d2, d3, d4⟩ := st_cells hh9
              clear hh9
              go_wp2
              go_roundg (if 2 = 0 then (ns - L5) + 1 else 0)
              case measure =>
                have h1 := hgk2.out
                have h2 := hbo.out
                have h3 := hUh.out
                split <;> omega
              case rel => exact ⟨f, sv, L5, 2, L5, Lib.hid rfl, Lib.hid (hV.out.setAt L5), hE5, Lib.hid (by have h1 := hbo.out; have h2 := hUh.out; have h3 := hns.out; omega)⟩
            · have b2 : (C == 0) = false := by rw [h0h.out, beq_eq_false_iff_ne]; exact hq0
              by_cases hq9 : wh = 119
              · have b3 : (C == 119) = true := by rw [h119h.out, hq9]; rfl
                have hst := step_saved1 (len := ns) (rest := script.drop (at_ + 1)) (f := f) (sv := sv) (at_ := at_) (hq9 ▸ hRh.out)
                obtain ⟨hE5', hbo'⟩ := hnx.out _ hst f true at_ 0 0 rfl
                rw [hP] at hE5' hbo'
                have hE5 := Lib.hid hE5'
                have hbo := Lib.hid hbo'
                have hUh := Lib.hid hP
                have hnsb := hns.out
                have e9 : (at_ : Int) + 1 = (P : Int) := by omega
                have e8 : IntKind.i64.wrap (P : Int) = (P : Int) := IntWalk.i64_in _ (by omega)
                clear hed hnx hst hP hE5' hbo' hnsb hq hq0 hq9 hlt
                go_upto_region 13 with fail
                have hV := Lib.hid (hC2.out.setSv)
                obtain ⟨V4, hV4⟩ : ∃ V4, V4 = W2.setCell ⟨w.heap.size, 1, none⟩ (.bool true) := ⟨_, rfl⟩
                rw [← hV4] at hV
                change Code.wp Tryz.prog _ _ _ (W2.setCell ⟨w.heap.size, 1, none⟩ (.bool true))
                rw [← hV4]
                clear hV4 x0 x1 x2 x3 x4 d0 d1 d2 d3 d4
                obtain ⟨A9, n9, c9, hh9, -, -⟩ := hV.out
                obtain ⟨⟨c0, c1, c2, c3, c4⟩, d0, d1, d2, d3, d4⟩ := st_cells hh9
                clear hh9
                go_wp2
                go_roundg (if 0 = 0 then (ns - P) + 1 else 0)
                case measure =>
                  have h1 := hgk2.out
                  have h2 := hbo.out
                  have h3 := hUh.out
                  split <;> omega
                case rel => exact ⟨f, true, P, 0, 0, Lib.hid rfl, Lib.hid (hV.out.setAt P), hE5, Lib.hid (by have h1 := hbo.out; have h2 := hUh.out; have h3 := hns.out; omega)⟩
              · have b3 : (C == 119) = false := by rw [h119h.out, beq_eq_false_iff_ne]; exact hq9
                obtain ⟨m, k, rfl, rfl, hm, hk, hwh, h97⟩ := read_nums hRh.out hq0 hq hq9
                have hst : stepE ns at_ t (script.drop (at_ + 1)) f sv = doE ns at_ (script.drop (at_ + 1)) f (m : Int) (k : Int) wh := step_ac hRh.out hq hq0 hq9
                obtain ⟨F5, S5, T5, B5, L5, h5⟩ : ∃ F5 S5 T5 B5 L5, resE f sv at_ (doE ns at_ (script.drop (at_ + 1)) f (m : Int) (k : Int) wh) = (F5, S5, T5, B5, L5) := ⟨_, _, _, _, _, rfl⟩
                obtain ⟨hE5', hbo'⟩ := hnx.out _ hst _ _ _ _ _ h5
                obtain ⟨U, hU⟩ : ∃ U, T5 + 1 = U := ⟨_, rfl⟩
                rw [hU] at hE5' hbo'
                have hE5 := Lib.hid hE5'
                have hbo := Lib.hid hbo'
                have hUh := Lib.hid hU
                have hnsb := hns.out
                have hfb2 := hfb.out
                have hsz1 := hsz0h.out
                have hsl1 := hslh.out
                have hfl1 := hflh.out
                have e9 : (T5 : Int) + 1 = (U : Int) := by omega
                have e8 : IntKind.i64.wrap (U : Int) = (U : Int) := IntWalk.i64_in _ (by omega)
                have hDo : Hid (Calls Tryz.prog 25 #[.agg #[.slice Af nf cf, .bool sv, .int .i64 (at_ : Int), .int .i64 0, .int .i64 0], .slice (some ⟨b, o, none⟩) ns cs, .agg #[.int .i64 (m : Int), .int .i64 (k : Int), .int .u8 C]] W2 fun e w' => ∃ A5 n5 c5, e = .returned (.agg #[.slice A5 n5 c5, .bool S5, .int .i64 (T5 : Int), .int .i64 (B5 : Int), .int .i64 (L5 : Int)]) ∧ TxR w' w'.heap.size (A5, n5, c5) F5 ∧ Below W2.heap.size W2 w') := Lib.hid (by
                  have h := rDo_any Af nf cf sv at_ f (some ⟨b, o, none⟩) ns cs script m k wh W2 (by omega) ⟨by omega, fun s h => by have := hsh.out.2 s h; omega⟩ (fun s h => by have := hsm0h.out s h; omega) hlt hm hk hwh h97 hT2.out (hSh.out.up hB2.out)
                  rw [← hC8h.out]
                  refine h.mono fun e w' h => ?_
                  have h2 := (res_eq W2 w' e f sv at_ _).1 h
                  rw [h5] at h2
                  exact h2)
                clear hed hnx hst h5 hU hP hE5' hbo' hnsb hq hq0 hq9 hlt hm hk hwh h97 hfb2 hsz1 hsl1 hfl1
                go_upto_region 13 with (go_at_call 25; refine hDo.out.mono ?_; rintro e w3 ⟨A5, n5, c5, rfl, hT5, hb3⟩; have hB3 := Lib.hid hb3; have hT5h := Lib.hid hT5; have hh3 := (hb3.block _ hlt2).trans hh2h.out; obtain ⟨⟨u0, u1, u2, u3, u4⟩, v0, v1, v2, v3, v4⟩ := st_cells hh3; have hh3h := Lib.hid hh3; clear hb3 hT5 hh3 x0 x1 x2 x3 x4)
                have hV := Lib.hid (EdC.put (f' := F5) (sv' := S5) (at' := T5) (bad' := B5) (line' := L5) (hC2.out.up hB3.out) hT5h.out)
                obtain ⟨V4, hV4⟩ : ∃ V4, V4 = setS w3 w.heap.size (.slice A5 n5 c5) (.bool S5) (.int .i64 (T5 : Int)) (.int .i64 (B5 : Int)) (.int .i64 (L5 : Int)) := ⟨_, rfl⟩
                rw [← hV4] at hV
                change Code.wp Tryz.prog _ _ _ (setS w3 w.heap.size (.slice A5 n5 c5) (.bool S5) (.int .i64 (T5 : Int)) (.int .i64 (B5 : Int)) (.int .i64 (L5 : Int)))
                rw [← hV4]
                clear hV4 u0 u1 u2 u3 u4 v0 v1 v2 v3 v4 d0 d1 d2 d3 d4
                obtain ⟨A9, n9, c9, hh9, -, -⟩ := hV.out
                obtain ⟨⟨c0, c1, c2, c3, c4⟩, d0, d1, d2, d3, d4⟩ := st_cells hh9
                clear hh9
                go_wp2
                go_roundg (if B5 = 0 then (ns - U) + 1 else 0)
                case measure =>
                  have h1 := hgk2.out
                  have h2 := hbo.out
                  have h3 := hUh.out
                  split <;> omega
                case rel => exact ⟨F5, S5, U, B5, L5, Lib.hid rfl, Lib.hid (hV.out.setAt U), hE5, Lib.hid (by have h1 := hbo.out; have h2 := hUh.out; have h3 := hns.out; omega)⟩
        · obtain rfl : at_ = ns := by have h9 := hslh.out; omega
          have hres := Lib.hid ((hed.out _ _ _ _ _ hE.out).2.1 rfl rfl)
          clear hed hgk2 hlt
          go_wp2
          go_quiet (fail)
          go_wp2
          refine bodyPost_ret (v := .tuple #[.slice Af nf cf, .bool sv, .int .i64 0, .int .i64 0]) (by simp [results, Tryz.results10, go_sem]) rfl ?_
          rw [hres.out]
          exact ⟨Af, nf, cf, rfl, hTh.out.up (below_drewN (Below.refl _ _) _), below_drewN hBh.out _⟩
      · have hres := Lib.hid ((hed.out _ _ _ _ _ hE.out).1 hb)
        have t0 : ((bad : Int) == 0) = false := by rw [beq_eq_false_iff_ne]; omega
        have t1 : ((bad : Int) != 0) = true := by simp; omega
        clear hb hed hgk
        by_cases hlt : (at_ : Int) < (ns : Int)
        all_goals
          go_wp2
          go_quiet (fail)
          go_wp2
          refine bodyPost_ret (v := .tuple #[.slice none 0 0, .bool false, .int .i64 (line : Int), .int .i64 (bad : Int)]) (by simp [results, Tryz.results10, go_sem]) rfl ?_
          rw [hres.out]
          exact ⟨none, 0, 0, rfl, TxR.nil _ _, below_drewN hBh.out _⟩
end Go.Proofs.YtdfpifipkchmnaaGreatDoor
/- Proved here: what the statement EdRuns says, by the contract of ed.Run. -/
namespace Go.Proofs.YtdfpifipkchmnaaGreatDoor
open Go.RowKit
set_option linter.unusedVariables false
set_option maxRecDepth 100000

section
variable (H : EdRunOk)
include H
set_option maxHeartbeats 8000000 in
theorem EdRuns_walk (As : Option Addr) (ns cs : Nat) (script : Txs) (A : Option Addr) (n c : Nat) (file : Txs) (w : World) (h0 : TxR w w.heap.size (As, ns, cs) script) (h1 : TxR w w.heap.size (A, n, c) file) :
    Calls Tryz.prog 3 #[.slice As ns cs, .slice A n c] w fun e w' => e = .returned (.bool true) ∧ Below w.heap.size w w' := by
  have haw := Lib.hid (edAwake_any H w)
  obtain ⟨fm, hfm⟩ : ∃ fm, fewB script 30 = fm := ⟨_, rfl⟩
  obtain ⟨fn, hfn⟩ : ∃ fm, fewB file 20 = fm := ⟨_, rfl⟩
  have hF := Lib.hid (few_call As ns cs 30 script w (by decide) h0 fm hfm)
  have hF2 := Lib.hid (few_call A n c 20 file w (by decide) h1 fn hfn)
  have tok1 := trivial
  by_cases hff : fm = true ∧ fn = true
  rotate_left
  · clear h0 h1 hfm hfn H
    cases fm <;> cases fn
    rotate_left 3
    · exact absurd ⟨rfl, rfl⟩ hff
    all_goals
      clear hff
      go_enter Tryz.func3, Tryz.ntmps3
      go_wp2_with (first
        | (go_at_call 7; refine haw.out.mono ?_; rintro e w1 ⟨rfl, hb1⟩; have hB1 := Lib.hid hb1; clear hb1)
        | (go_at_call 8; have _t := tok1; refine (hF.out _ hB1.out).mono ?_; rintro e w2 ⟨rfl, hww⟩; have hws := hww.symm; clear hww; subst hws; have tok2 := trivial; clear tok1)
        | (go_at_call 8; have _t := tok2; refine (hF2.out _ hB1.out).mono ?_; rintro e w2 ⟨rfl, hww⟩; have hws := hww.symm; clear hww; subst hws; clear tok2))
      go_ret
      exact ⟨rfl, hB1.out⟩
  obtain ⟨rfl, rfl⟩ := hff
  have x0 := few_E hfm (by decide)
  have x1 := few_E hfn (by decide)
  obtain ⟨F, S, Ln, E, hR⟩ : ∃ F S Ln E, edR script file = (F, S, Ln, E) := ⟨_, _, _, _, rfl⟩
  have hC1 := Lib.hid (fun (W : World) (hW : Below w.heap.size w W) => hR ▸ H As ns cs script A n c file W x0 x1 (h0.up hW) (h1.up hW))
  have hC2 := Lib.hid (fun (W : World) (hW : Below w.heap.size w W) => hR ▸ rRun_any As ns cs script A n c file W x0 x1 (h0.up hW) (h1.up hW))
  clear h0 h1 hfm hfn H x0 x1 hR
  cases S
  all_goals
    go_enter Tryz.func3, Tryz.ntmps3
    go_wp2_with (first
      | (go_at_call 7; refine haw.out.mono ?_; rintro e w1 ⟨rfl, hb1⟩; have hB1 := Lib.hid hb1; clear hb1)
      | (go_at_call 8; have _t := tok1; refine (hF.out _ hB1.out).mono ?_; rintro e w2 ⟨rfl, hww⟩; have hws := hww.symm; clear hww; subst hws; have tok2 := trivial; clear tok1)
      | (go_at_call 8; have _t := tok2; refine (hF2.out _ hB1.out).mono ?_; rintro e w2 ⟨rfl, hww⟩; have hws := hww.symm; clear hww; subst hws; clear tok2)
      | (go_at_call 9; refine (hC1.out _ hB1.out).mono ?_; rintro e w3 ⟨A3, n3, c3, rfl, p3, q3⟩; have hP3 := Lib.hid p3; have hB3 := Lib.hid (hB1.out.trans (q3.mono hB1.out.size)); clear p3 q3)
      | (go_at_call 10; refine (hC2.out _ hB3.out).mono ?_; rintro e w4 ⟨A4, n4, c4, rfl, p4, q4⟩; have hP3b := Lib.hid (hP3.out.up q4); have hP4 := Lib.hid p4; have hB4 := Lib.hid (hB3.out.trans (q4.mono hB3.out.size)); clear p4 q4)
      | (go_at_call 11; refine (Same_any A3 A4 n3 n4 c3 c4 w4.heap.size w4.heap.size F F w4 (Nat.le_trans hP3b.out.1 hP3b.out.2.1) (Nat.le_trans hP4.out.1 hP4.out.2.1) hP3b.out.2.2 hP4.out.2.2).mono ?_; rintro e w5 ⟨rfl, q, rfl⟩; rw [decide_eq_true (rfl : F = F)]))
    go_ret
    exact ⟨rfl, below_drewN hB4.out q⟩
end
end Go.Proofs.YtdfpifipkchmnaaGreatDoor
