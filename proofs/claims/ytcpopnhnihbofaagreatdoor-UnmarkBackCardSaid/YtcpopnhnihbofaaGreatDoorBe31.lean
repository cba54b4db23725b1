/- Proved here: texts joined: Um, PkFns, RowF. -/
import Derived.Test.YtcpopnhnihbofaaGreatDoorBe07
import Derived.Test.YtcpopnhnihbofaaGreatDoorBe12
import Derived.Test.YtcpopnhnihbofaaGreatDoorBe13
import Derived.Test.YtcpopnhnihbofaaGreatDoorBe30
import Derived.RangeFuncBox
import Derived.Deep.DeepCutAuto
import Derived.Outline
import Derived.Test.YtcpopnhnihbofaaGreatDoorChecked
import Derived.Deep.OwnRows
/- Proved here: the contract of the landed unmark.Parse. -/
namespace Go.Proofs.YtcpopnhnihbofaaGreatDoor
open Go.RowKit
set_option linter.unusedVariables false
set_option maxRecDepth 100000

/-- What is known of the lines of what was begun last. -/
def CurS (s : MSt) : Prop := (s.conf.isSome = true → ∀ x ∈ s.cur, lnB x = true) ∧ ∀ x ∈ s.cur, x.length ≤ 1000000
section
variable {w wr : World} {L long K k : Nat} {s s' : MSt} {t : Tx} {mb : Bool} {l : Txs}
theorem markC_cur {is : UInt8 → Tx → Bool} {isB : Bool} {b : Txs} {ds : List Txs} (h : markC is s isB b ds = some s') : s'.cur = [] := by
  unfold markC at h
  split at h
  · injection h with h; rw [← h]
  · split at h
    · cases h
    · split at h
      · injection h with h; rw [← h]
      · split at h
        · injection h with h; rw [← h]
        · cases h
theorem takeC_cur {told : Tx} (h : takeC t told s = some s') : s'.cur = [] := by
  unfold takeC at h
  split at h
  · split at h
    · injection h with h; rw [← h]
    · cases h
  · exact markC_cur h
theorem readC_cur (h : readC long s t = some s') : s'.cur = [] ∨ (s'.cur = s.cur ++ [t] ∧ s'.conf = s.conf) := by
  by_cases hr : runN t < long
  · rw [readC_put hr] at h
    injection h with h
    rw [← h]
    exact .inr ⟨rfl, rfl⟩
  · rw [readC_mark hr] at h
    split at h
    · cases ho : openT true s.cur with
      | none => rw [ho] at h; cases h
      | some q => rw [ho] at h; exact .inl (takeC_cur h)
    · exact .inl (takeC_cur h)
theorem CurS.next (h : CurS s) (hr : readC long s t = some s') (ht : t.length ≤ 1000000) (hl : lineC t mb = true) (hm : s.conf.isSome = true → mb = false) : CurS s' := by
  rcases readC_cur hr with e | ⟨e, ec⟩
  · exact ⟨fun _ x hx => (by rw [e] at hx; cases hx), fun x hx => (by rw [e] at hx; cases hx)⟩
  · refine ⟨fun hc x hx => ?_, fun x hx => ?_⟩
    · rw [ec] at hc
      rw [e] at hx
      rcases List.mem_append.1 hx with hx | hx
      · exact h.1 hc x hx
      · rw [List.mem_singleton.1 hx]
        rw [hm hc, lineC_eq] at hl
        simpa using hl
    · rw [e] at hx
      rcases List.mem_append.1 hx with hx | hx
      · exact h.2 x hx
      · rw [List.mem_singleton.1 hx]; exact ht
theorem RdX.nM (h : RdX w wr L long K s) : ∀ isB b ds, s.conf = some (isB, b, ds) → nM isB ds ≤ 16 := by
  intro isB b ds hc
  obtain ⟨out, cur, style, conf⟩ := s
  obtain rfl : conf = some (isB, b, ds) := hc
  obtain ⟨⟨vp, vq, u, qs, ps, tx, hR, hq, ⟨-, -, l3, -⟩, -⟩, -⟩ := h
  exact l3
theorem RdX.pcs (h : RdX w wr L long K s) (hc : s.conf = none) : wr.cell? ⟨L, 3, none⟩ = some (.int .i64 s.style) ∧ ∃ A n c vs, wr.cell? ⟨L, 1, none⟩ = some (.slice A n c) ∧ n ≤ c ∧ c ≤ maxLen ∧ Pcs wr wr.heap.size A n vs (flushM s.out s.cur) := by
  obtain ⟨out, cur, style, conf⟩ := s
  obtain rfl : conf = none := hc
  obtain ⟨⟨vp, vq, u, qs, ps, tx, hR, hq, ⟨rfl, rfl, -, -⟩, -⟩, -⟩ := h
  dsimp only at hR hq
  obtain ⟨A, n, c, vs, rfl, h1, h2, h3⟩ := hR.pcs
  refine ⟨hR.cells.2.2.2.1, A, n, c, vs, hR.cells.2.1, h1, h2, ?_⟩
  have e : ((qs.map fun q => q.2) ++ if (!cur.isEmpty) = true then [tPc cur] else []) = flushM out cur := by
    rw [hq]
    cases cur with
    | nil => simp [flushM]
    | cons c cur => simp [flushM]
  rw [e] at h3
  exact h3
theorem RdX.start (w : World) (lg : Nat) : RdX w (w.alloc (.cells #[.int .i64 (lg : Int), .slice none 0 0, .slice none 0 0, .int .i64 0, mvR 28 w.heap.size] 57)) w.heap.size lg 0 startM :=
  ⟨⟨.slice none 0 0, .slice none 0 0, .slice none 0 0, [], [], false, ⟨one_a w _, Nat.le_refl _, below_alloc (Below.refl _ _) _, World.ownsRow_nil _ _ _ _, World.ownsRow_nil _ _ _ _, World.ownsRow_nil _ _ _ _, fun w2 h q hq => (nomatch hq), fun w2 h q hq => (nomatch hq)⟩, rfl, ⟨rfl, rfl, fun _ => rfl, fun p hp => (nomatch hp)⟩, Nat.le_refl _, Nat.le_refl _⟩, .inl rfl⟩
/-- One text of the walk. -/
theorem walk_next {long : Nat} (h1 : 1 ≤ long) (hn : ∀ isB b ds, s.conf = some (isB, b, ds) → Go.Proofs.YtcpopnhnihbofaaGreatDoor.nM isB ds ≤ 16) (ht : l[k]? = some t) (hm : mb = ((l.drop (k + 1)).isEmpty && s.conf.isNone)) :
    walkM long s (l.drop k) k = match (if lineC t mb = true then readC long s t else none) with | none => .error (k + 1) | some s' => walkM long s' (l.drop (k + 1)) (k + 1) := by
  rw [drop_at ht, walkM, step_code (mb := mb) h1 hm hn]
  generalize (if lineC t mb = true then readC long s t else none) = o
  cases o <;> rfl
end

set_option maxHeartbeats 16000000 in
theorem um_ok : UnmParseOk := by
  intro A n c l long w hlg hsm hT
  have hb0 := Lib.hid (Below.refl w.heap.size w)
  by_cases h0 : long < 1 ∨ 4096 < long
  · have hp : Hid (parseM l long = ([], 0, 0, 1)) := Lib.hid (by unfold parseM; rw [if_pos h0])
    clear hT hlg hsm
    by_cases h1 : long < 1
    · go_enter Tryz.func9, Tryz.ntmps9
      go_wp2
      refine bodyPost_ret (v := .tuple #[.slice none 0 0, .int .i64 0, .int .i64 0, .int .i64 1]) (by simp [results, Tryz.results9, go_sem]) rfl ?_
      rw [hp.out]
      exact ⟨none, 0, 0, [], rfl, Nat.le_refl _, Nat.zero_le _, Pcs.nil _ _ _, hb0.out⟩
    · have h2 : 4096 < long := by omega
      go_enter Tryz.func9, Tryz.ntmps9
      go_wp2
      refine bodyPost_ret (v := .tuple #[.slice none 0 0, .int .i64 0, .int .i64 0, .int .i64 1]) (by simp [results, Tryz.results9, go_sem]) rfl ?_
      rw [hp.out]
      exact ⟨none, 0, 0, [], rfl, Nat.le_refl _, Nat.zero_le _, Pcs.nil _ _ _, hb0.out⟩
  obtain ⟨lg, rfl⟩ : ∃ lg : Nat, long = (lg : Int) := ⟨long.toNat, by omega⟩
  have h1 : 1 ≤ lg := by omega
  have h2 : lg ≤ 4096 := by omega
  have i1 : ¬ (lg : Int) < 1 := by omega
  have i2 : ¬ (4096 : Int) < (lg : Int) := by omega
  have hres := Lib.hid (parseM_res l lg h1 h2)
  have hln := hT.2.2.len
  dsimp only at hln
  have hn1 : n ≤ 20000000 := by rw [← hln]; exact hsm.1
  have hlnh := Lib.hid hln
  have hTh := Lib.hid hT
  have hsmh := Lib.hid hsm.2
  have h12 := Lib.hid (And.intro h1 h2)
  obtain ⟨RR, hRR⟩ : ∃ RR, parseM l (lg : Int) = RR := ⟨_, rfl⟩
  rw [hRR] at hres ⊢
  have herr : Hid (∀ (m : Nat) (w' : World), walkM lg startM l 0 = .error m → Below w.heap.size w w' → ParseA w w' (.returned (.tuple #[.slice none 0 0, .int .i64 0, .int .i64 (m : Int), .int .i64 2])) RR) := Lib.hid (fun m w' he hb => by
    rw [hres.out, he]
    exact ⟨none, 0, 0, [], rfl, Nat.le_refl _, Nat.zero_le _, Pcs.nil _ _ _, hb⟩)
  clear hT hln h0 hlg hsm h1 h2 hRR
  obtain ⟨W0, hW0⟩ : ∃ W0, W0 = w.alloc (.cells #[.int .i64 (lg : Int), .slice none 0 0, .slice none 0 0, .int .i64 0, mvR 28 w.heap.size] 57) := ⟨_, rfl⟩
  have hX0 : Hid (RdX w W0 w.heap.size lg 0 startM) := Lib.hid (by rw [hW0]; exact RdX.start w lg)
  unfold mvR at hW0
  have hW0h := Lib.hid hW0
  clear hW0
  obtain ⟨m, hm⟩ : ∃ m : Int, (n : Int) - 1 = m := ⟨_, rfl⟩
  have hmw : IntKind.i64.wrap m = m := IntWalk.i64_in _ (by omega)
  have hmh := Lib.hid hm
  go_enter Tryz.func9, Tryz.ntmps9
  go_upto_region 5 with fail
  rw [← hW0h.out]
  go_wp2
  go_loopw [9, 10, 11, 24] (fun _ _ _ s24 wr => ∃ (k : Nat) (s : MSt), k ≤ n ∧ s24 = .int .i64 k ∧ Hid (RdX w wr w.heap.size lg k s) ∧ Hid (CurS s) ∧ Hid (walkM lg startM l 0 = walkM lg s (l.drop k) k)) (fun _ _ _ s24 _ => n - (intOf s24).toNat)
  case atStart => exact ⟨0, startM, Nat.zero_le _, rfl, hX0, Lib.hid ⟨fun h => (nomatch h), fun x hx => (nomatch hx)⟩, Lib.hid rfl⟩
  case round =>
    obtain ⟨k, s, hk, rfl, hX, hC, hw⟩ := hrel
    obtain ⟨wo, rfl⟩ : ∃ wo : World, wo = wr := ⟨_, rfl⟩
    obtain ⟨x0, x4, Aq, nq, cq, x2, hnq⟩ := hX.out.cells
    obtain ⟨cf, hcf⟩ : ∃ cf, s.conf.isSome = cf := ⟨_, rfl⟩
    rw [hcf] at hnq
    have hcfh := Lib.hid hcf
    have hIn : Hid (∀ W, Below wo.heap.size wo W → Calls Tryz.prog 29 #[.pointer (some ⟨w.heap.size, 0, none⟩)] W fun e w' => e = .returned (.bool cf) ∧ W = w') := Lib.hid (fun W hW => by
      obtain ⟨-, -, A3, n3, c3, k2, k3⟩ := (hX.out.up hW).cells
      rw [hcf] at k3
      rw [← k3]
      exact inConf_any _ A3 n3 c3 W k2)
    clear hcf hnq x0 x4 hX0
    by_cases hlt : k < n
    · obtain ⟨b, o, t, rfl, hb, ht, hcell⟩ := Strs.at_ hTh.out.2.2 (k := k) hlt
      have xc := (hX.out.below.cell (p := ⟨b, o + k, none⟩) hb).trans hcell
      have i3 : (k : Int) < (n : Int) := by omega
      have i4 : (0 : Int) ≤ (k : Int) := by omega
      have htl := hsmh.out t (List.mem_of_getElem? ht)
      obtain ⟨la, hla⟩ : ∃ la, (l.drop (k + 1)).isEmpty = la := ⟨_, rfl⟩
      have hlk : la = decide (k + 1 = n) := by
        rw [← hla, Bool.eq_iff_iff, decide_eq_true_eq, List.isEmpty_iff, List.drop_eq_nil_iff, hlnh.out]
        omega
      obtain ⟨mb, hmb⟩ : ∃ mb, (la && !cf) = mb := ⟨_, rfl⟩
      have hmb2 : mb = ((l.drop (k + 1)).isEmpty && s.conf.isNone) := by
        rw [hla, ← hmb, ← hcfh.out]
        cases s.conf <;> rfl
      have hstep := Lib.hid (walk_next h12.out.1 hX.out.nM ht hmb2)
      have hLine : Hid (∀ W, Below wo.heap.size wo W → Calls Tryz.prog 30 #[.string (str t), .bool mb] W fun e w' => e = .returned (.bool (lineC t mb)) ∧ Below wo.heap.size wo w') := Lib.hid (fun W hW => (isLine_any t mb W htl).mono fun e w' h => ⟨h.1, hW.trans (h.2.mono hW.size)⟩)
      have hRead : Hid (∀ W, Below wo.heap.size wo W → Calls Tryz.prog 31 #[.pointer (some ⟨w.heap.size, 0, none⟩), .string (str t)] W fun e w' => ∃ ok, e = .returned (.bool ok) ∧ Below w.heap.size w w' ∧ TookX w w.heap.size lg (k + 1) (readC lg s t) ok w') := Lib.hid (fun W hW => read_any (hX.out.up hW) (by omega) h12.out.1 h12.out.2 htl hC.out.1 hC.out.2)
      obtain ⟨T, hT⟩ : ∃ T, str t = T := ⟨_, rfl⟩
      obtain ⟨ol, hol⟩ : ∃ ol, lineC t mb = ol := ⟨_, rfl⟩
      rw [hT] at xc hLine hRead
      rw [hol] at hLine
      have hbad : Hid ((ol = false ∨ readC lg s t = none) → ∀ w', Below w.heap.size w w' → ParseA w w' (.returned (.tuple #[.slice none 0 0, .int .i64 0, .int .i64 ((k : Int) + 1), .int .i64 2])) RR) := Lib.hid (fun h w' hb => by
        refine herr.out (k + 1) w' ?_ hb
        rw [hw.out, hstep.out, hol]
        rcases h with h | h
        · rw [h]; rfl
        · rw [h]; cases ol <;> rfl)
      have hgo : Hid (∀ s', ol = true → readC lg s t = some s' → walkM lg startM l 0 = walkM lg s' (l.drop (k + 1)) (k + 1) ∧ CurS s') := Lib.hid (fun s' h h5 => by
        refine ⟨?_, hC.out.next h5 htl (by rw [hol]; exact h) (fun h6 => by rw [← hmb, ← hcfh.out, h6]; simp)⟩
        rw [hw.out, hstep.out, hol, h, h5]
        rfl)
      obtain ⟨RC, hRC⟩ : ∃ RC, readC lg s t = RC := ⟨_, rfl⟩
      rw [hRC] at hRead hbad hgo
      have hXh := Lib.hid hX.out.below
      have hrefl := Lib.hid (Below.refl wo.heap.size wo)
      have e1 : IntKind.i64.wrap ((k : Int) + 1) = (k : Int) + 1 := IntWalk.i64_in _ (by omega)
      have hmbh := Lib.hid hmb
      clear hstep ht hcell hb hla hmb2 hT hol hRC htl hC hX hw hcfh hmb
      have hlast : ((k : Int) == m) = la := by
        rw [hlk, Bool.eq_iff_iff, beq_iff_eq, decide_eq_true_eq, ← hmh.out]
        omega
      cases la
      case' false =>
        obtain rfl : mb = false := by rw [← hmbh.out]; rfl
        clear hlk hmbh
        go_upto_region 9 with fail
      case' true =>
        obtain rfl : mb = !cf := by rw [← hmbh.out]; simp
        clear hlk hmbh
        go_upto_region 9 with (go_at_call 29; refine (hIn.out _ hrefl.out).mono ?_; rintro e w2 ⟨rfl, rfl⟩)
      all_goals
        cases ol
        · go_wp2_with (go_at_call 30; refine (hLine.out _ hrefl.out).mono ?_; rintro e w2 ⟨rfl, hb2⟩; have hb2h := Lib.hid hb2; clear hb2)
          refine bodyPost_ret (v := .tuple #[.slice none 0 0, .int .i64 0, .int .i64 ((k : Int) + 1), .int .i64 2]) (by simp [results, Tryz.results9, go_sem]) rfl ?_
          exact hbad.out (by simp) _ (hXh.out.trans (hb2h.out.mono hXh.out.size))
        · cases RC with
          | none =>
            have hReadn : Hid (∀ W, Below wo.heap.size wo W → Calls Tryz.prog 31 #[.pointer (some ⟨w.heap.size, 0, none⟩), .string T] W fun e w' => e = .returned (.bool false) ∧ Below w.heap.size w w') := Lib.hid (fun W hW => (hRead.out W hW).mono fun e w' ⟨ok, h1, h2, h3⟩ => ⟨by rw [h1, h3.1 rfl], h2⟩)
            clear hRead
            go_wp2_with (first
              | (go_at_call 30; refine (hLine.out _ hrefl.out).mono ?_; rintro e w2 ⟨rfl, hb2⟩; have hb2h := Lib.hid hb2; clear hb2)
              | (go_at_call 31; refine (hReadn.out _ hb2h.out).mono ?_; rintro e w3 ⟨rfl, hb3⟩; have hb3h := Lib.hid hb3; clear hb3))
            refine bodyPost_ret (v := .tuple #[.slice none 0 0, .int .i64 0, .int .i64 ((k : Int) + 1), .int .i64 2]) (by simp [results, Tryz.results9, go_sem]) rfl ?_
            exact hbad.out (by simp) _ hb3h.out
          | some s' =>
            have hReadn : Hid (∀ W, Below wo.heap.size wo W → Calls Tryz.prog 31 #[.pointer (some ⟨w.heap.size, 0, none⟩), .string T] W fun e w' => e = .returned (.bool true) ∧ RdX w w' w.heap.size lg (k + 1) s') := Lib.hid (fun W hW => (hRead.out W hW).mono fun e w' ⟨ok, h1, h2, h3⟩ => ⟨by rw [h1, (h3.2 s' rfl).1], (h3.2 s' rfl).2⟩)
            clear hRead
            go_wp2_with (first
              | (go_at_call 30; refine (hLine.out _ hrefl.out).mono ?_; rintro e w2 ⟨rfl, hb2⟩; have hb2h := Lib.hid hb2; clear hb2)
              | (go_at_call 31; refine (hReadn.out _ hb2h.out).mono ?_; rintro e w3 ⟨rfl, hX3⟩; have hX3h := Lib.hid hX3; clear hX3))
            go_roundw
            case rel => exact ⟨k + 1, s', by omega, by go_num, hX3h, Lib.hid (hgo.out s' (by trivial) rfl).2, Lib.hid (hgo.out s' (by trivial) rfl).1⟩
            case measure => simp [intOf]; omega
    · obtain rfl : k = n := by omega
      have hfin := hw.out
      rw [List.drop_of_length_le (by rw [hlnh.out]; exact Nat.le_refl _)] at hfin
      have hfin2 : walkM lg startM l 0 = if s.conf.isSome = true then .error (k + 1) else .ok s := by rw [hfin, walkM]
      rw [hcfh.out] at hfin2
      have hrefl := Lib.hid (Below.refl wo.heap.size wo)
      have hbel := Lib.hid hX.out.below
      have e1 : IntKind.i64.wrap ((k : Int) + 1) = (k : Int) + 1 := IntWalk.i64_in _ (by omega)
      cases cf
      · obtain ⟨y3, A1, n1, c1, vs, y1, q1, q2, q3⟩ := hX.out.pcs (by cases hc : s.conf with | none => rfl | some x => have := hcfh.out; rw [hc] at this; cases this)
        have hst := hX.out.2
        have hok : Hid (RR = (flushM s.out s.cur, max s.style 1, 0, 0)) := Lib.hid (by rw [hres.out, hfin2]; rfl)
        have hP := Lib.hid (And.intro q1 (And.intro q2 q3))
        obtain ⟨sy, hsy⟩ : ∃ sy, s.style = sy := ⟨_, rfl⟩
        rw [hsy] at y3 hst hok
        clear hfin hfin2 hw hX hC q1 q2 q3 x2 hsy hmw hm
        by_cases h22 : sy = 2
        · subst h22
          go_wp2_with (go_at_call 29; refine (hIn.out _ hrefl.out).mono ?_; rintro e w2 ⟨rfl, rfl⟩)
          refine bodyPost_ret (v := .tuple #[.slice A1 n1 c1, .int .i64 2, .int .i64 0, .int .i64 0]) (by simp [results, Tryz.results9, go_sem]) rfl ?_
          rw [hok.out]
          exact ⟨A1, n1, c1, vs, rfl, hP.out.1, hP.out.2.1, hP.out.2.2, hbel.out⟩
        · have h2b : (sy == 2) = false := by rw [beq_eq_false_iff_ne]; exact h22
          have hmax : Hid (max sy 1 = 1) := Lib.hid (by omega)
          clear h22 hst
          go_wp2_with (go_at_call 29; refine (hIn.out _ hrefl.out).mono ?_; rintro e w2 ⟨rfl, rfl⟩)
          refine bodyPost_ret (v := .tuple #[.slice A1 n1 c1, .int .i64 1, .int .i64 0, .int .i64 0]) (by simp [results, Tryz.results9, go_sem]) rfl ?_
          rw [hok.out, hmax.out]
          exact ⟨A1, n1, c1, vs, rfl, hP.out.1, hP.out.2.1, hP.out.2.2, hbel.out⟩
      · have hbd : Hid (∀ w', Below w.heap.size w w' → ParseA w w' (.returned (.tuple #[.slice none 0 0, .int .i64 0, .int .i64 ((k : Int) + 1), .int .i64 2])) RR) := Lib.hid (fun w' hb => herr.out (k + 1) w' (by rw [hfin2]; rfl) hb)
        clear hfin hfin2 hw hX hC x2 hmw hm
        go_wp2_with (go_at_call 29; refine (hIn.out _ hrefl.out).mono ?_; rintro e w2 ⟨rfl, rfl⟩)
        refine bodyPost_ret (v := .tuple #[.slice none 0 0, .int .i64 0, .int .i64 ((k : Int) + 1), .int .i64 2]) (by simp [results, Tryz.results9, go_sem]) rfl ?_
        exact hbd.out _ hbel.out
end Go.Proofs.YtcpopnhnihbofaaGreatDoor
/- Proved here: contracts of what the landed package pick calls of slices, and of its small functions: Clone, text. -/
namespace Go.Proofs.YtcpopnhnihbofaaGreatDoor
open Go.RowKit
set_option linter.unusedVariables false

theorem ownsRow_low {w : World} {base base' : Nat} {e : TypeId} {size : Nat} {v : Value} {n : Nat} {xs : List Value} (h : w.ownsRow base e size v n xs) (hb : base' ≤ base) : w.ownsRow base' e size v n xs := by
  refine ⟨h.1, ?_⟩
  rcases h.2 with h | ⟨g, cap, cur, hv, h1, r⟩
  · exact .inl h
  · exact .inr ⟨g, cap, cur, hv, Nat.le_trans hb h1, r⟩

/-- Texts of the call's own, told. -/
def OwnOut (w w' : World) (e : Ending) (xs : Txs) : Prop := ∃ v, e = .returned v ∧ TxO w w' v xs

set_option maxHeartbeats 800000 in
theorem cloneT_any (A : Option Addr) (n c B : Nat) (ss : Txs) (w : World) (hn : n ≤ 1000000000) (hB : B ≤ w.heap.size) (hA : Strs w B A n ss) :
    Calls Tryz.prog 94 #[.slice A n c] w fun e w' => OwnOut w w' e ss := by
  have hl := hA.len
  obtain ⟨i0, hi, hzz⟩ := Option.map_eq_some_iff.1 infoStr
  simp only [Prod.mk.injEq] at hzz
  obtain ⟨hz0, hz1, hz2⟩ := hzz
  have hw0 : (w.alloc (.cells #[] 9)).ownsRow w.heap.size 9 1 (.slice (some ⟨w.heap.size, 0, none⟩) 0 0) 0 [] := own_empty w w.heap.size _ (Nat.le_refl _)
  have hB0 : Below w.heap.size w (w.alloc (.cells #[] 9)) := (Below.refl _ _).alloc (Nat.le_refl _) _
  have hm : Hid (0 + n ≤ maxLen ∧ (0 + n) * 16 ≤ 140737488355328) := Lib.hid ⟨by unfold maxLen; omega, by omega⟩
  cases A with
  | none =>
    have h0 : n = 0 := by
      rcases Nat.eq_zero_or_pos n with h0 | h0
      · exact h0
      · obtain ⟨_, _, h, _⟩ := hA.2 h0
        cases h
    subst h0
    obtain rfl : ss = [] := List.eq_nil_of_length_eq_zero hl
    have hq : ∀ W : World, (binOp .eql 25 (.slice none 0 c) (.slice none 0 0)).run Tryz.prog W = .ok (.bool true) W := fun W => Lib.run_eql_slice_nil W _ _ _ _ _ _ _ Tryz.underlying25
    go_enter Tryz.func94, Tryz.ntmps94
    go_wp2
    go_ret
    exact ⟨_, rfl, World.ownsRow_nil _ _ _ _, Below.refl _ _⟩
  | some p =>
    have hA0 := Lib.hid ((hA.more hB).below hB0)
    have hlh := Lib.hid hl
    clear hA hl
    have hq : ∀ W : World, (binOp .eql 25 (.slice (some p) n c) (.slice none 0 0)).run Tryz.prog W = .ok (.bool false) W := fun W => Lib.run_eql_slice_nil W _ _ _ _ _ _ _ Tryz.underlying25
    go_enter Tryz.func94, Tryz.ntmps94
    go_wp2_with (at_builtin; refine wpList_append_reads _ rfl _ _ 25 rfl w.heap.size 9 i0 (.string ByteArray.empty) 16 Tryz.underlying25 hi hz0 hz1 hz2 rfl _ 0 [] rfl hw0 w.heap.size (some p) n c _ rfl hA0.out (strs_one _) hm.out.1 hm.out.2 hB0.size ?_; intro v1 w1 hown1 hg1; have hB1 : Below w.heap.size w w1 := hB0.grown hg1 hB0.size (fun j e => (hw0.lt j e).1); rw [Nat.zero_add, List.nil_append] at hown1)
    go_ret
    exact ⟨_, rfl, by rw [hlh.out]; exact hown1, hB1⟩

/-- What a cell of a piece leaves. -/
theorem but_piece (w : World) (L : Nat) (hL : w.heap.size ≤ L) {w1 : World} (hb : Below w.heap.size w w1) (u0 u1 u2 u3 : Value) : Below w.heap.size w ((((w1.setCell ⟨L, 0, none⟩ u0).setCell ⟨L, 1, none⟩ u1).setCell ⟨L, 2, none⟩ u2).setCell ⟨L, 3, none⟩ u3) :=
  hb.trans ((But.piece w1 L u0 u1 u2 u3).below hb.size (by rintro k rfl; exact hL))

/-- A text, as the landed text makes it: a copy of the call's own. -/
def TextOut (w w' : World) (e : Ending) (xs : Txs) : Prop := ∃ A c, e = .returned (.agg #[.bool false, .slice A xs.length c, .slice none 0 0, .slice none 0 0]) ∧ TxO w w' (.slice A xs.length c) xs
theorem TextOut.piece {w w' : World} {e : Ending} {xs : Txs} (h : TextOut w w' e xs) : PieceOut w w' e (tPc xs) := by
  obtain ⟨A, c, rfl, hT⟩ := h
  obtain ⟨A', c', e1, h1, h2, h3⟩ := own_slice hT.own
  injection e1 with e2 e3 e4
  subst e2
  subst e4
  exact ⟨((A, xs.length, c), (none, 0, 0), (none, 0, 0)), rfl, PcR.text ⟨h1, h2, h3⟩, hT.below⟩

set_option maxHeartbeats 1000000 in
theorem text_any (A : Option Addr) (n c B : Nat) (ss : Txs) (w : World) (hn : n ≤ 1000000000) (hB : B ≤ w.heap.size) (hA : Strs w B A n ss) :
    Calls Tryz.prog 73 #[.slice A n c] w fun e w' => TextOut w w' e ss := by
  obtain ⟨W0, hW0⟩ : ∃ W0, W0 = w.alloc (.cells #[.bool false, .slice none 0 0, .slice none 0 0, .slice none 0 0] 40) := ⟨_, rfl⟩
  have hb0 : Below w.heap.size w W0 := by rw [hW0]; exact (Below.refl _ w).alloc (Nat.le_refl _) _
  have k0 : W0.heap[w.heap.size]? = some (.cells #[.bool false, .slice none 0 0, .slice none 0 0, .slice none 0 0] 40 (0, 0)) := by rw [hW0]; exact Go.Deep.blk_alloc_new w _
  have hs0 : W0.heap.size = w.heap.size + 1 := by rw [hW0]; simp
  have hC := Lib.hid (cloneT_any A n c B ss W0 hn (by omega) (hA.below (hb0.mono hB)))
  have hb0h := Lib.hid hb0
  have k0h := Lib.hid k0
  have hs0h := Lib.hid hs0
  have hW0h := Lib.hid hW0
  clear hA hb0 k0 hs0 hW0
  go_enter Tryz.func73, Tryz.ntmps73
  go_upto_region 1 with fail
  rw [← hW0h.out]
  go_wp2_with (go_at_call 94; refine hC.out.mono ?_; rintro e w1 ⟨v, rfl, hT⟩; obtain ⟨A1, c1, rfl, h1, h2, h3⟩ := own_slice hT.own; have k1 : w1.heap[w.heap.size]? = _ := ((hT.below.block _ (by have := hs0h.out; omega)).trans k0h.out); obtain ⟨e0, e1, e2, e3, z0, z1, z2, z3⟩ := piece_at k1; have hTh := Lib.hid hT; clear hT h1 h2 h3 k1)
  refine bodyPost_ret (v := .agg #[.bool false, .slice A1 ss.length c1, .slice none 0 0, .slice none 0 0]) (by simp [results, Tryz.results73, go_sem, World.cell?_setCell_same', e0, e1, e2, e3]) rfl ?_
  refine ⟨A1, c1, rfl, ?_, but_piece w w.heap.size (Nat.le_refl _) (hb0h.out.trans (hTh.out.below.mono hb0h.out.size)) _ _ _ _⟩
  have h1 := hTh.out.own
  refine ownsRow_kept (ownsRow_low h1 hb0h.out.size) fun k e => ?_
  have h2 := (h1.lt k e)
  have h3 := hs0h.out
  exact (But.piece w1 w.heap.size _ _ _ _).block k h2.2 (by omega)
end Go.Proofs.YtcpopnhnihbofaaGreatDoor
/- Proved here, without conditions: a new slice of slices of texts, and its cells as they are set one by one. -/
namespace Go.Proofs.YtcpopnhnihbofaaGreatDoor
open Go.RowKit
set_option linter.unusedVariables false

theorem make_rows (n : Nat) (hn : n ≤ 1000000) (w : World) : (Instr.makeSlice 38 (.int .i64 (n : Int)) (.int .i64 (n : Int))).run Tryz.prog w = .ok (.slice (some ⟨w.heap.size, 0, none⟩) n n) (w.alloc (.cells (madeCells #[.slice none 0 0] n) 25)) := by
  obtain ⟨i, hi, hzz⟩ := Option.map_eq_some_iff.1 infoTxs
  simp only [Prod.mk.injEq] at hzz
  obtain ⟨hz, hs, hb⟩ := hzz
  have := run_make (P := Tryz.prog) w 38 25 i (.slice none 0 0) Tryz.underlying38 hi hz .i64 .i64 n n (by omega) (Int.le_refl _) (by rw [hb]; omega) (by omega)
  simp only [Int.toNat_natCast, hs, Nat.mul_one] at this
  exact this

/-- The cells of parts, as far as they are asked. -/
def rowF (rs : List Slc) (i : Nat) : Value := slcV (rs.getD i (none, 0, 0))
theorem rowF_set {w : World} {G n k : Nat} {rs : List Slc} {r : Slc} (h : w.rowIs G 25 n (rowF rs)) (hk : rs.length = k) : (w.setCell ⟨G, k, none⟩ (slcV r)).rowIs G 25 n (rowF (rs ++ [r])) := by
  refine (h.set k _).congr fun i hi => ?_
  unfold rowF
  subst hk
  by_cases e : i = rs.length
  · subst e
    simp
  · rw [if_neg e]
    congr 1
    rw [List.getD_eq_getElem?_getD, List.getD_eq_getElem?_getD]
    rcases Nat.lt_or_ge i rs.length with h1 | h1
    · rw [List.getElem?_append_left h1]
    · rw [List.getElem?_eq_none h1, List.getElem?_eq_none (by simp; omega)]

end Go.Proofs.YtcpopnhnihbofaaGreatDoor
