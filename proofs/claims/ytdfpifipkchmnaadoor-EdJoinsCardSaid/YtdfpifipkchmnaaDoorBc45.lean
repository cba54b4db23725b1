/- Proved here: texts joined: EdAll2. -/
import Derived.Test.YtdfpifipkchmnaaDoorBc18
import Derived.Test.YtdfpifipkchmnaaDoorBc44
/- Proved here: the landed editor's loop over its commands, walked. -/
namespace Go.Proofs.YtdfpifipkchmnaaDoor
open Go.RowKit
set_option linter.unusedVariables false
set_option maxRecDepth 100000

section
variable {B0 E : Nat} {w : World} {As : Option Addr} {ns cs : Nat} {fv : Value} {script file : Txs}
set_option maxHeartbeats 8000000 in
theorem all_any (h : EdI B0 w E (As, ns, cs) fv script ((0 : Nat) : Int) file false false) (hs : smallE script) (hf : smallE file) :
    Calls Tryd.prog 15 #[.pointer (some ⟨E, 0, none⟩)] w fun e w' => AllO B0 E (As, ns, cs) script w w' e (runE script.length 0 script file false) := by
  obtain ⟨X, hX⟩ : ∃ X, runE script.length 0 script file false = X := ⟨_, rfl⟩
  rw [hX]
  have hsl : script.length = ns := h.scr.2.2.len
  have hns : Hid (ns ≤ 1000) := Lib.hid (by have := hs.1; omega)
  have hB := h.leB
  have hsd : Hid (smallD script) := Lib.hid ⟨by have := hs.1; omega, fun s hx => by have := hs.2 s hx; omega⟩
  have hsm := Lib.hid hs.2
  have hstart := Lib.hid (fun (w1 : World) (b : Nat) (hm : w1.ownsMap Tryd.prog 9 cmdR b 6 cmdMap) (hb : Below w.heap.size w w1) => (⟨h.up hb, Nat.zero_le _, fun _ => hX, fun h0 => (by cases h0), ⟨by have := hf.1; omega, hf.2⟩, hm, hb.mono hB⟩ : AllI B0 E (As, ns, cs) script b w w1 X fv 0 file false false))
  have hcm := Lib.hid (commands_any w)
  have hslh := Lib.hid hsl
  clear h hs hf hX hsl
  go_enter Tryd.func15, Tryd.ntmps15
  go_wp2_with (go_at_call 20; refine hcm.out.mono ?_; rintro e w1 ⟨b, rfl, hm, hbb, hb⟩; have hI := Lib.hid (hstart.out w1 b hm hb); clear hm hbb hb)
  go_loopg [3] (ns + 1) (fun gk s3 wr => ∃ (fv : Value) (a : Nat) (f : Txs) (sv ov : Bool), Hid (gk = if ov = true then 0 else (ns - a) + 1) ∧ Hid (AllI B0 E (As, ns, cs) script b w wr X fv a f sv ov))
  case atStart => exact ⟨fv, 0, file, false, false, Lib.hid (by simp), hI⟩
  case round =>
    obtain ⟨fv1, a, f, sv, ov, hgk, hI1⟩ := hrel
    have hE := hI1.out.ed
    obtain ⟨x0, x1, x2, x3, x4⟩ := hE.cells
    dsimp only at x0
    cases ov
    rotate_left
    · have hfin := Lib.hid (hI1.out.fin rfl)
      have hup := Lib.hid (fun q => hI1.out.up (below_drewN (Below.refl _ _) q))
      clear hgk hE
      go_wp2
      go_quiet (fail)
      go_wp2
      go_end0
      rw [hfin.out]
      exact ⟨_, _, _, rfl, (hup.out _).ed, (hup.out _).below⟩
    · by_cases hlt : a < ns
      rotate_left
      · have ha : a = ns := by have := hI1.out.le; have := hslh.out; omega
        have hfin : Hid (X = .inr (f, sv)) := Lib.hid (by
          have h1 := hI1.out.more rfl
          rw [List.drop_of_length_le (by have := hslh.out; omega), run_nil] at h1
          exact h1.symm)
        have hup := Lib.hid (fun q => hI1.out.up (below_drewN (Below.refl _ _) q))
        subst ha
        have i3 : decide ((a : Int) < (a : Int)) = false := by simp
        clear hgk hE
        go_wp2
        go_quiet (fail)
        go_wp2
        go_end0
        rw [hfin.out]
        exact ⟨_, _, _, rfl, (hup.out _).ed, (hup.out _).below⟩
      · obtain ⟨b2, o2, s, rfl, hbk, hst, hc0⟩ := Strs.at_ hE.scr.2.2 (k := a) hlt
        have x1f := hE.free 1
        have i1 : (0 : Int) ≤ (a : Int) := by omega
        have i2 : (a : Int) < (ns : Int) := by omega
        have hlim : Hid (a + 1 ≤ 1000) := Lib.hid (by have := hns.out; omega)
        have hlim2 := hlim.out
        have ww : IntKind.i64.wrap ((a : Int) + 1) = (a : Int) + 1 := by rw [IntKind.wrap_i64]; omega
        have hgk2 : Hid (gk = (ns - a) + 1) := Lib.hid (by have := hgk.out; rw [if_neg (by decide)] at this; exact this)
        have hsth := Lib.hid hst
        have hElt := hE.lt
        clear hE hgk hst
        go_wp2
        go_quiet (fail)
        obtain ⟨nq1, hnq1⟩ : ∃ m, m = nq := ⟨_, rfl⟩
        rw [← hnq1]
        clear hnq1
        go_wp2
        go_quiet (fail)
        go_upto_region 4 with fail
        have hrd := hI1.out.read (below_drewN (Below.refl _ wr) (nq1 + nq))
        obtain ⟨W3, hW3⟩ : ∃ W3, W3 = (wr.drewN (nq1 + nq)).setCell ⟨E, 1, none⟩ (.int .i64 ((a : Int) + 1)) := ⟨_, rfl⟩
        rw [← hW3] at hrd ⊢
        obtain ⟨hE3, hB3, hM3⟩ := hrd
        have hW3h := Lib.hid hW3
        clear hW3 x0 x1 x2 x3 x4 x1f hc0 hbk
        have hsl2 : s.length ≤ 800000 := by have := hsm.out s (List.mem_of_getElem? hsth.out); omega
        rcases cut_any E s hsl2 with ⟨pre, name, l, hse, hp, hn, hcut, h9, hnl, hcc⟩ | ⟨hbad, hcc⟩
        rotate_left
        · have hXe := hI1.out.bad hsth.out (hbad _ _ _ _ _)
          have hC := Lib.hid (hcc _ W3 hE3.cells.2.1 hE3.lt)
          have hbb := Lib.hid (And.intro hB3 hE3.leB)
          subst hXe
          clear hbad hcc hE3 hB3 hM3
          go_wp2_with (go_at_call 21; refine hC.out.mono ?_; rintro e w4 ⟨rfl, hb4⟩)
          exact ⟨rfl, rfl, hbb.out.1.trans (hb4.mono hbb.out.2)⟩
        · have hC := Lib.hid (hcc _ W3 hE3.cells.2.1 hE3.lt)
          have hse2 : ∀ len at_ rest file saved, stepE len at_ s rest file saved = stepL len at_ pre name rest file saved := fun len at_ rest file saved => by rw [hse]; exact step_same hp hn
          have hlk := Lib.hid (fun (w4 : World) (hb : Below W3.heap.size W3 w4) => cmd_look (map_keep hM3 (.of_below hb)) (name := name) (by unfold maxLen; omega))
          have hE3h := Lib.hid (And.intro hE3 (And.intro hB3 hM3))
          clear hcc hE3 hB3 hM3 hse hp hn
          by_cases h0 : nameW name = 0
          · have hXe : X = .inl (2, a + 1) := hI1.out.bad hsth.out (by
              rw [hse2]
              unfold stepL
              rw [hcut]
              dsimp only
              rw [if_pos (.inl h0)])
            subst hXe
            rw [h0] at hlk
            have hmb := Lib.hid (fun (w4 : World) (hb : Below W3.heap.size W3 w4) => must_bad E 2 _ w4 (hE3h.out.1.up hb).cells.2.1)
            have hbb := Lib.hid (fun (w4 : World) (hb : Below W3.heap.size W3 w4) => hE3h.out.2.1.trans (hb.mono hE3h.out.1.leB))
            clear hse2 hE3h hcut h9
            go_upto_region 5 with (go_at_call 21; refine hC.out.mono ?_; rintro e w4 ⟨A4, n4, c4, rfl, hA4, hb4⟩; have hb4h := Lib.hid hb4; clear hA4 hb4)
            obtain ⟨v, hv1, -⟩ := hlk.out w4 hb4h.out
            rw [show ((0 : UInt8) != 0) = false from rfl] at hv1
            have hmb4 := Lib.hid (hmb.out w4 hb4h.out)
            clear hlk hmb
            go_wp2_with (go_at_call 22; refine hmb4.out.mono ?_; rintro e w' ⟨rfl, hww⟩; have hws := hww.symm; clear hww; subst hws)
            exact ⟨rfl, rfl, hbb.out _ hb4h.out⟩
          · have hw := what_of h0
            have hst2 : ∀ len at_ rest file saved, stepE len at_ s rest file saved = stepW len at_ (nameW name) l rest file saved := fun len at_ rest file saved => by rw [hse2, stepL_W hcut h0]
            have hb0 : (nameW name != 0) = true := by simpa using h0
            rw [hb0] at hlk
            have hmo := Lib.hid (fun (w4 : World) => must_ok E 2 w4)
            have hdo : Hid (∀ (w4 : World) (A : Option Addr) (c : Nat), Below W3.heap.size W3 w4 → Nums w4 w4.heap.size A l.length (l.map fun x : Nat => (x : Int)) → Calls Tryd.prog (cmdF (nameW name)) #[.pointer (some ⟨E, 0, none⟩), .slice A l.length c] w4 fun e w' => CmdW B0 E (some ⟨b2, o2, none⟩, ns, cs) script w4 w' e (a + 1) (nameW name) (stepE script.length a s (script.drop (a + 1)) f sv)) := Lib.hid (fun w4 A c hb hA => by
              rw [hst2]
              exact disp_any (hE3h.out.1.up hb) hsd.out ⟨by have := hI1.out.size.1; have := hlim.out; omega, fun s h => by have := hI1.out.size.2 s h; omega⟩ (by have := hslh.out; omega) h9 hA hw)
            have hent := ent_cmd hw
            have h113 : Hid (∀ x, nameW name = 113 → stepE script.length a s (script.drop (a + 1)) f sv = .inr x → x = (f, sv, (script.drop (a + 1)).length)) := Lib.hid (fun x h1 h2 => by
              rw [hst2] at h2
              unfold stepW at h2
              rw [h1] at h2
              split at h2
              · cases h2
              · rw [if_pos rfl] at h2
                simpa using h2.symm)
            cases hst3 : stepE script.length a s (script.drop (a + 1)) f sv with
            | inl p =>
              obtain ⟨err, line⟩ := p
              have hXe := hI1.out.bad hsth.out hst3
              rw [hst3] at hdo
              subst hXe
              have hbb := Lib.hid (fun (w4 w5 : World) (hb : Below W3.heap.size W3 w4) (h5 : Below B0 w4 w5) => (hE3h.out.2.1.trans (hb.mono hE3h.out.1.leB)).trans h5)
              obtain ⟨N, hN⟩ : ∃ N, cmdF (nameW name) = N := ⟨_, rfl⟩
              rw [hN] at hdo hlk hent
              have hdoh := Lib.hid (fun (w4 : World) (A : Option Addr) (c : Nat) (hb : Below W3.heap.size W3 w4) (hA : Nums w4 w4.heap.size A l.length (l.map fun x : Nat => (x : Int))) => (hdo.out w4 A c hb hA).mono (fun e w' (h : EdWrong B0 w4 w' e line err) => h))
              clear hse2 hst2 hE3h hcut h9 hdo hst3 h113 hN hw hb0
              go_upto_region 5 with (go_at_call 21; refine hC.out.mono ?_; rintro e w4 ⟨A4, n4, c4, rfl, hA4, hb4⟩; have hb4h := Lib.hid hb4; have hA4h := Lib.hid hA4; clear hA4 hb4)
              obtain ⟨v, hv1, hv2⟩ := hlk.out w4 hb4h.out
              obtain rfl := hv2 h0
              unfold cmdV at hv1
              obtain rfl : n4 = l.length := by have := hA4h.out.len; rw [List.length_map] at this; omega
              have hD := Lib.hid (hdoh.out w4 A4 c4 hb4h.out hA4h.out)
              have hmo4 := Lib.hid (hmo.out w4)
              clear hlk hdoh hmo hC
              go_upto_region 7 with (go_at_call 22; refine hmo4.out.mono ?_; rintro e w' ⟨rfl, hww⟩; have hws := hww.symm; clear hww; subst hws)
              go_wp2_with (refine hD.out.mono ?_; rintro e w5 ⟨rfl, hb5⟩; have hb5h := Lib.hid hb5; clear hb5)
              exact ⟨rfl, rfl, hbb.out _ _ hb4h.out hb5h.out⟩
            | inr p =>
              obtain ⟨f', sv', k⟩ := p
              rw [hst3] at hdo
              have h113b := Lib.hid (fun h1 => h113.out _ h1 hst3)
              have hnx := Lib.hid (fun (w4 w5 : World) (e : Ending) (hb : Below W3.heap.size W3 w4) (hc : CmdW B0 E (some ⟨b2, o2, none⟩, ns, cs) script w4 w5 e (a + 1) (nameW name) (.inr (f', sv', k))) => hI1.out.next hsm.out hsth.out hst3 h113b.out hc (hE3h.out.2.1.trans (hb.mono hE3h.out.1.leB)) (map_keep hE3h.out.2.2 (.of_below hb)))
              rw [hslh.out] at hnx
              obtain ⟨N, hN⟩ : ∃ N, cmdF (nameW name) = N := ⟨_, rfl⟩
              rw [hN] at hdo hlk hent
              have hdoh : Hid (∀ (w4 : World) (A : Option Addr) (c : Nat), Below W3.heap.size W3 w4 → Nums w4 w4.heap.size A l.length (l.map fun x : Nat => (x : Int)) → Calls Tryd.prog N #[.pointer (some ⟨E, 0, none⟩), .slice A l.length c] w4 fun e w5 => e = .returned (.tuple #[]) ∧ ∃ fv' a' f' sv' ov', (a < a' ∧ a' ≤ ns) ∧ AllI B0 E (some ⟨b2, o2, none⟩, ns, cs) script b w w5 X fv' a' f' sv' ov') := Lib.hid (fun w4 A c hb hA => (hdo.out w4 A c hb hA).mono (fun e w' h => hnx.out w4 w' e hb h))
              clear hse2 hst2 hE3h hcut h9 hdo hst3 h113 h113b hnx hN hw hb0
              go_upto_region 5 with (go_at_call 21; refine hC.out.mono ?_; rintro e w4 ⟨A4, n4, c4, rfl, hA4, hb4⟩; have hb4h := Lib.hid hb4; have hA4h := Lib.hid hA4; clear hA4 hb4)
              obtain ⟨v, hv1, hv2⟩ := hlk.out w4 hb4h.out
              obtain rfl := hv2 h0
              unfold cmdV at hv1
              obtain rfl : n4 = l.length := by have := hA4h.out.len; rw [List.length_map] at this; omega
              have hD := Lib.hid (hdoh.out w4 A4 c4 hb4h.out hA4h.out)
              have hmo4 := Lib.hid (hmo.out w4)
              clear hlk hdoh hmo hC
              go_upto_region 7 with (go_at_call 22; refine hmo4.out.mono ?_; rintro e w' ⟨rfl, hww⟩; have hws := hww.symm; clear hww; subst hws)
              go_wp2_with (refine hD.out.mono ?_; rintro e w5 ⟨rfl, fv', a', f'', sv'', ov', hlt', hI'⟩; have hI2 := Lib.hid hI'; have hlt2 := Lib.hid hlt'; clear hI' hlt')
              go_roundg (if ov' = true then 0 else (ns - a') + 1)
              case measure =>
                have h1 := hgk2.out
                have h2 := hlt2.out
                split <;> omega
              case rel => exact ⟨fv', a', f'', sv'', ov', Lib.hid rfl, hI2⟩
end
end Go.Proofs.YtdfpifipkchmnaaDoor
