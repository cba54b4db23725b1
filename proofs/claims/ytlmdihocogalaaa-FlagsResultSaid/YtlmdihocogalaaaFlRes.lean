/- Proved here: the contract of the document's own answer of layer 14: Result. -/
import Derived.Test.YtlmdihocogalaaaConFlags
import Derived.Test.YtlmdihocogalaaaFlKind
import Derived.Test.YtlmdihocogalaaaMkEnd
import Derived.Deep.DeepCutAuto
namespace Go.Proofs.Ytlmdihocogalaaa
open Go.RowKit
set_option linter.unusedVariables false
set_option maxRecDepth 100000

theorem result_split (c : UInt8) (mine older yours : Txs) (d : Nat) (h : doesF c (kindF mine older yours) = d) : (d = 0 → resultF c mine older yours = mine) ∧ (d = 1 → resultF c mine older yours = yours) ∧
    (d = 2 → ((([markT 60 7 [] wordM] ++ closed mine) ++ [markT 61 7 mine []]) ++ closed yours) ++ [markT 62 7 yours wordY] = resultF c mine older yours) ∧
    (d = 3 → ((((([markT 60 7 [] wordM] ++ closed mine) ++ [markT 124 7 mine wordO]) ++ closed older) ++ [markT 61 7 older []]) ++ closed yours) ++ [markT 62 7 yours wordY] = resultF c mine older yours) := by
  unfold resultF
  rw [h]
  refine ⟨?_, ?_, ?_, ?_⟩
  all_goals
    rintro rfl
    simp [shownF]

set_option maxHeartbeats 8000000 in
theorem rfResult_any (c : UInt8) (A0 : Option Addr) (n0 c0 : Nat) (mine : Txs) (A1 : Option Addr) (n1 c1 : Nat) (older : Txs) (A2 : Option Addr) (n2 c2 : Nat) (yours : Txs) (w : World) (x0 : smallX mine) (x1 : smallX older) (x2 : smallX yours)
    (h0 : TxR w w.heap.size (A0, n0, c0) mine) (h1 : TxR w w.heap.size (A1, n1, c1) older) (h2 : TxR w w.heap.size (A2, n2, c2) yours) :
    Calls Try.prog 18 #[.int .u8 (c.toNat : Int), .slice A0 n0 c0, .slice A1 n1 c1, .slice A2 n2 c2] w fun e w' => TxsOut w w' e (resultF c mine older yours) := by
  have hK := Lib.hid (rfKind_any A0 n0 c0 mine A1 n1 c1 older A2 n2 c2 yours w h0 h1 h2)
  have hD := Lib.hid (fun W : World => rfDoes_any c (kindF mine older yours : Nat) W (by have := kind_le (mine := mine) (older := older) (yours := yours); unfold inR64; omega))
  obtain ⟨d, hd⟩ : ∃ d, doesF c (kindF mine older yours) = d := ⟨_, rfl⟩
  have hdle : d ≤ 3 := by rw [← hd]; exact does_le
  obtain ⟨s0, s1, s2, s3⟩ := result_split c mine older yours d hd
  rw [hd] at hD
  obtain ⟨K, hKK⟩ : ∃ K, kindF mine older yours = K := ⟨_, rfl⟩
  rw [hKK] at hK hD
  obtain ⟨T, hT⟩ : ∃ T, resultF c mine older yours = T := ⟨_, rfl⟩
  rw [hT] at s0 s1 s2 s3 ⊢
  have hT0 := Lib.hid (fun (W : World) (hb : Below w.heap.size w W) => h0.up hb)
  have hT1 := Lib.hid (fun (W : World) (hb : Below w.heap.size w W) => h1.up hb)
  have hT2 := Lib.hid (fun (W : World) (hb : Below w.heap.size w W) => h2.up hb)
  clear hd hKK hT
  by_cases e01 : d = 0 ∨ d = 1
  · rcases e01 with rfl | rfl
    · have e := s0 rfl
      subst e
      clear s0 s1 s2 s3 h0 h1 h2 x0 x1 x2 hdle
      go_enter Try.func18, Try.ntmps18
      go_wp2_with (first
        | (go_at_call 11; refine hK.out.mono ?_; rintro e w1 ⟨rfl, q1⟩; have hB1 := Lib.hid q1; clear q1)
        | (go_at_call 15; refine (hD.out _).mono ?_; rintro e w2 ⟨rfl, hww⟩; have hws := hww.symm; clear hww; subst hws))
      go_ret
      exact ⟨_, _, _, rfl, hT0.out _ hB1.out, hB1.out⟩
    · have e := s1 rfl
      subst e
      clear s0 s1 s2 s3 h0 h1 h2 x0 x1 x2 hdle
      go_enter Try.func18, Try.ntmps18
      go_wp2_with (first
        | (go_at_call 11; refine hK.out.mono ?_; rintro e w1 ⟨rfl, q1⟩; have hB1 := Lib.hid q1; clear q1)
        | (go_at_call 15; refine (hD.out _).mono ?_; rintro e w2 ⟨rfl, hww⟩; have hws := hww.symm; clear hww; subst hws))
      go_ret
      exact ⟨_, _, _, rfl, hT2.out _ hB1.out, hB1.out⟩
  have hcall : Hid (∀ (ss : Txs) (r : Slc) (W : World), TxR w w.heap.size r ss → smallX ss → Below w.heap.size w W → Calls Try.prog 26 #[.slice r.1 r.2.1 r.2.2] W fun e w' => OwnT W w' e (closed ss)) := Lib.hid (fun ss r W h1 h2 h3 => rEnded_any r.1 r.2.1 r.2.2 W.heap.size ss W (by have := h1.2.2.len; have := h2.1; omega) h2.2 (Nat.le_refl _) (h1.up h3).2.2)
  have hmk : Hid (∀ (sg : UInt8) (ss : Txs) (r : Slc) (lab : Tx) (W : World), TxR w w.heap.size r ss → smallX ss → lab.length ≤ 1000 → Below w.heap.size w W → Calls Try.prog 25 #[.string (str [sg]), .int .i64 7, .slice r.1 r.2.1 r.2.2, .string (str lab)] W fun e w' => e = .returned (.string (str (markT sg 7 ss lab))) ∧ w' = W) := Lib.hid (fun sg ss r lab W h1 h2 h3 h4 => rMark_any sg 7 r.1 r.2.1 r.2.2 W.heap.size ss lab W (by decide) (by have := h1.2.2.len; have := h2.1; unfold maxLen; omega) (fun s hs => by have := h2.2 s hs; unfold maxLen; omega) h3 (h1.up h4).2.2)
  obtain ⟨M1, hM1⟩ : ∃ M, markT 60 7 [] wordM = M := ⟨_, rfl⟩
  obtain ⟨M2, hM2⟩ : ∃ M, markT 124 7 mine wordO = M := ⟨_, rfl⟩
  obtain ⟨M4, hM4⟩ : ∃ M, markT 62 7 yours wordY = M := ⟨_, rfl⟩
  have hK1 : Hid (∀ W, Below w.heap.size w W → Calls Try.prog 25 #[.string ⟨#[60]⟩, .int .i64 7, .slice none 0 0, .string ⟨#[32, 77, 73, 78, 69]⟩] W fun e w' => e = .returned (.string (str M1)) ∧ w' = W) := Lib.hid (fun W hW => by rw [← hM1]; exact hmk.out 60 [] (none, 0, 0) wordM W (TxR.nil _ _) ⟨by simp, by simp⟩ (by decide) hW)
  have hK2 : Hid (∀ W, Below w.heap.size w W → Calls Try.prog 25 #[.string ⟨#[124]⟩, .int .i64 7, .slice A0 n0 c0, .string ⟨#[32, 79, 76, 68, 69, 82]⟩] W fun e w' => e = .returned (.string (str M2)) ∧ w' = W) := Lib.hid (fun W hW => by rw [← hM2]; exact hmk.out 124 mine (A0, n0, c0) wordO W h0 x0 (by decide) hW)
  have hK4 : Hid (∀ W, Below w.heap.size w W → Calls Try.prog 25 #[.string ⟨#[62]⟩, .int .i64 7, .slice A2 n2 c2, .string ⟨#[32, 89, 79, 85, 82, 83]⟩] W fun e w' => e = .returned (.string (str M4)) ∧ w' = W) := Lib.hid (fun W hW => by rw [← hM4]; exact hmk.out 62 yours (A2, n2, c2) wordY W h2 x2 (by decide) hW)
  have hE0 : Hid (∀ W, Below w.heap.size w W → Calls Try.prog 26 #[.slice A0 n0 c0] W fun e w' => OwnT W w' e (closed mine)) := Lib.hid (fun W hW => hcall.out mine (A0, n0, c0) W h0 x0 hW)
  have hE1 : Hid (∀ W, Below w.heap.size w W → Calls Try.prog 26 #[.slice A1 n1 c1] W fun e w' => OwnT W w' e (closed older)) := Lib.hid (fun W hW => hcall.out older (A1, n1, c1) W h1 x1 hW)
  have hE2 : Hid (∀ W, Below w.heap.size w W → Calls Try.prog 26 #[.slice A2 n2 c2] W fun e w' => OwnT W w' e (closed yours)) := Lib.hid (fun W hW => hcall.out yours (A2, n2, c2) W h2 x2 hW)
  have hl0 : (closed mine).length ≤ 100000 := by rw [closed_len]; exact x0.1
  have hl1 : (closed older).length ≤ 100000 := by rw [closed_len]; exact x1.1
  have hl2 : (closed yours).length ≤ 100000 := by rw [closed_len]; exact x2.1
  obtain ⟨i0, hi, hzz⟩ := Option.map_eq_some_iff.1 infoStr
  simp only [Prod.mk.injEq] at hzz
  obtain ⟨hz0, hz1, hz2⟩ := hzz
  rw [hM1, hM2, hM4] at s3
  rw [hM1, hM4] at s2
  have s3h := Lib.hid s3
  have s2h := Lib.hid s2
  have tok1 := trivial
  rcases (by omega : d = 2 ∨ d = 3) with rfl | rfl
  case' inl =>
    have tokA := trivial
    obtain ⟨M3, hM3⟩ : ∃ M, markT 61 7 mine [] = M := ⟨_, rfl⟩
    have hK3 : Hid (∀ W, Below w.heap.size w W → Calls Try.prog 25 #[.string ⟨#[61]⟩, .int .i64 7, .slice A0 n0 c0, .string ⟨#[]⟩] W fun e w' => e = .returned (.string (str M3)) ∧ w' = W) := Lib.hid (fun W hW => by rw [← hM3]; exact hmk.out 61 mine (A0, n0, c0) [] W h0 x0 (by decide) hW)
    have hfin : Hid (((([M1] ++ closed mine) ++ [M3]) ++ closed yours) ++ [M4] = T) := Lib.hid (by rw [← hM3]; exact s2h.out rfl)
  case' inr =>
    have tokB := trivial
    obtain ⟨M3, hM3⟩ : ∃ M, markT 61 7 older [] = M := ⟨_, rfl⟩
    have hK3 : Hid (∀ W, Below w.heap.size w W → Calls Try.prog 25 #[.string ⟨#[61]⟩, .int .i64 7, .slice A1 n1 c1, .string ⟨#[]⟩] W fun e w' => e = .returned (.string (str M3)) ∧ w' = W) := Lib.hid (fun W hW => by rw [← hM3]; exact hmk.out 61 older (A1, n1, c1) [] W h1 x1 (by decide) hW)
    have hfin : Hid (((((([M1] ++ closed mine) ++ [M2]) ++ closed older) ++ [M3]) ++ closed yours) ++ [M4] = T) := Lib.hid (by rw [← hM3]; exact s3h.out rfl)
  all_goals
    clear s0 s1 s2 s3 s2h s3h h0 h1 h2 x0 x1 x2 hdle e01 hM1 hM2 hM3 hM4 hcall hmk
    go_enter Try.func18, Try.ntmps18
    go_upto_region 7 with (first
      | (go_at_call 11; refine hK.out.mono ?_; rintro e w1 ⟨rfl, q1⟩; have hB1 := Lib.hid q1; clear q1)
      | (go_at_call 15; refine (hD.out _).mono ?_; rintro e w2 ⟨rfl, hww⟩; have hws := hww.symm; clear hww; subst hws)
      | (go_at_call 25; refine (hK1.out _ hB1.out).mono ?_; rintro e wm ⟨rfl, hww⟩; have hws := hww.symm; clear hww; subst hws))
    have hOM := Lib.hid (TxO.lit w1 M1)
    have hBM := Lib.hid (hB1.out.trans (hOM.out.below.mono hB1.out.size))
    obtain ⟨W1, hW1⟩ : ∃ W1, W1 = w1.alloc (.cells #[.string (str M1)] 9) := ⟨_, rfl⟩
    rw [← hW1] at hOM hBM ⊢
    clear hW1
    go_upto_region 9 with (first
      | (go_at_call 26; have _t := tok1; refine (hE0.out _ hBM.out).mono ?_; rintro e w3 ⟨u3, rfl, hu3⟩; have hO3 := Lib.hid (hOM.out.call hu3.below); obtain ⟨A5, c5, hv5, l1, l2, hr5⟩ := own_slice hu3.own; subst hv5; have hr5h := Lib.hid hr5; clear tok1 hu3 l1 l2 hr5)
      | (at_builtin; refine wpList_append_reads _ rfl (.tmp 26) (.tmp 28) 22 rfl w1.heap.size 9 i0 (.string ByteArray.empty) 16 Try.underlying22 hi hz0 hz1 hz2 rfl _ 1 _ rfl hO3.out.own w3.heap.size A5 _ c5 _ rfl hr5h.out (strs_one _) (by unfold maxLen; omega) (by omega) hO3.out.below.size ?_; intro vz wz hown4 hg4; have hOz := Lib.hid (hO3.out.put (ys := closed mine) rfl hown4 hg4); have hBz := Lib.hid (hB1.out.trans (hOz.out.below.mono hB1.out.size)); clear hown4 hg4 hr5h hO3))
    first
      | (have _t := tokA
         obtain ⟨ys, hys⟩ : ∃ ys, [M1] ++ closed mine = ys := ⟨_, rfl⟩
         have hyl : ys.length ≤ 200003 := by rw [← hys, List.length_append, List.length_singleton]; omega
         rw [hys] at hOz hfin
         go_upto_region 13 with fail)
      | (have _t := tokB
         have hyl0 : ([M1] ++ closed mine).length ≤ 100001 := by rw [List.length_append, List.length_singleton]; omega
         obtain ⟨ys0, hys0⟩ : ∃ ys, [M1] ++ closed mine = ys := ⟨_, rfl⟩
         rw [hys0] at hOz hfin hyl0
         have hOy := hOz
         have hBy := hBz
         clear hOz hBz
         go_upto_region 13 with (first
           | (go_at_call 25; refine (hK2.out _ hBy.out).mono ?_; rintro e wm ⟨rfl, hww⟩; have hws := hww.symm; clear hww; subst hws)
           | (at_builtin; refine wpList_append_own_at _ rfl (.tmp 33) (.tmp 36) 22 rfl w1.heap.size 9 i0 (.string ByteArray.empty) 1 16 Try.underlying22 hi hz0 hz1 hz2 rfl (by decide) vz ys0.length _ rfl (hOy.out.own.alloc _) ⟨wz.heap.size, 0, none⟩ 1 1 [.string (str M2)] rfl rfl (cell_one_new _ _ _) (by simp [Value.oneCell']) (by unfold maxLen; omega) (by omega) (by have := hOy.out.below.size; simp; omega) ?_; intro v6 w6 hown6 hg6 hnil6 hloc6; have hO6 := Lib.hid (hOy.out.push hown6 hg6); have hB6 := Lib.hid (hB1.out.trans (hO6.out.below.mono hB1.out.size)); clear hown6 hg6 hnil6 hloc6)
           | (go_at_call 26; refine (hE1.out _ hB6.out).mono ?_; rintro e w7 ⟨u7, rfl, hu7⟩; have hO7 := Lib.hid (hO6.out.call hu7.below); obtain ⟨A8, c8, hv8, l1, l2, hr8⟩ := own_slice hu7.own; subst hv8; have hr8h := Lib.hid hr8; clear hu7 l1 l2 hr8)
           | (at_builtin; refine wpList_append_reads _ rfl (.tmp 38) (.tmp 40) 22 rfl w1.heap.size 9 i0 (.string ByteArray.empty) 16 Try.underlying22 hi hz0 hz1 hz2 rfl v6 _ _ rfl hO7.out.own w7.heap.size A8 _ c8 _ rfl hr8h.out (strs_one _) (by rw [List.length_append, List.length_singleton]; unfold maxLen; omega) (by rw [List.length_append, List.length_singleton]; omega) hO7.out.below.size ?_; intro v8 w8 hown8 hg8; have hOz := Lib.hid (hO7.out.put (ys := closed older) rfl hown8 hg8); have hBz := Lib.hid (hB1.out.trans (hOz.out.below.mono hB1.out.size)); clear hown8 hg8 hr8h hO7))
         obtain ⟨ys, hys⟩ : ∃ ys, ys0 ++ [M2] ++ closed older = ys := ⟨_, rfl⟩
         have hyl : ys.length ≤ 200003 := by rw [← hys, List.length_append, List.length_append, List.length_singleton]; omega
         rw [hys] at hOz hfin
         clear hOy hBy hO6 hB6
         obtain ⟨vy, rfl⟩ : ∃ x : Value, x = vz := ⟨_, rfl⟩
         obtain ⟨wy, rfl⟩ : ∃ x : World, x = wz := ⟨_, rfl⟩
         obtain ⟨vz, rfl⟩ : ∃ x : Value, x = v8 := ⟨_, rfl⟩
         obtain ⟨wz, rfl⟩ : ∃ x : World, x = w8 := ⟨_, rfl⟩)
    go_wp2_with (first
      | (go_at_call 25; refine (hK3.out _ hBz.out).mono ?_; rintro e wm ⟨rfl, hww⟩; have hws := hww.symm; clear hww; subst hws)
      | (at_builtin; refine wpList_append_own_at _ rfl (.tmp 43) (.tmp 46) 22 rfl w1.heap.size 9 i0 (.string ByteArray.empty) 1 16 Try.underlying22 hi hz0 hz1 hz2 rfl (by decide) vz ys.length _ rfl (hOz.out.own.alloc _) ⟨wz.heap.size, 0, none⟩ 1 1 [.string (str M3)] rfl rfl (cell_one_new _ _ _) (by simp [Value.oneCell']) (by unfold maxLen; omega) (by omega) (by have := hOz.out.below.size; simp; omega) ?_; intro va wa hown6 hg6 hnil6 hloc6; have hOa := Lib.hid (hOz.out.push hown6 hg6); have hBa := Lib.hid (hB1.out.trans (hOa.out.below.mono hB1.out.size)); clear hown6 hg6 hnil6 hloc6)
      | (go_at_call 26; refine (hE2.out _ hBa.out).mono ?_; rintro e wb ⟨ub, rfl, hub⟩; have hOb := Lib.hid (hOa.out.call hub.below); obtain ⟨Ab, cb, hvb, l1, l2, hrb⟩ := own_slice hub.own; subst hvb; have hrbh := Lib.hid hrb; clear hub l1 l2 hrb)
      | (at_builtin; refine wpList_append_reads _ rfl (.tmp 48) (.tmp 50) 22 rfl w1.heap.size 9 i0 (.string ByteArray.empty) 16 Try.underlying22 hi hz0 hz1 hz2 rfl va _ _ rfl hOb.out.own wb.heap.size Ab _ cb _ rfl hrbh.out (strs_one _) (by rw [List.length_append, List.length_singleton]; unfold maxLen; omega) (by rw [List.length_append, List.length_singleton]; omega) hOb.out.below.size ?_; intro vc wc hown8 hg8; have hOc := Lib.hid (hOb.out.put (ys := closed yours) rfl hown8 hg8); have hBc := Lib.hid (hB1.out.trans (hOc.out.below.mono hB1.out.size)); clear hown8 hg8 hrbh hOb hK3)
      | (go_at_call 25; refine (hK4.out _ hBc.out).mono ?_; rintro e wm ⟨rfl, hww⟩; have hws := hww.symm; clear hww; subst hws)
      | (at_builtin; refine wpList_append_own_at _ rfl (.tmp 52) (.tmp 55) 22 rfl w1.heap.size 9 i0 (.string ByteArray.empty) 1 16 Try.underlying22 hi hz0 hz1 hz2 rfl (by decide) vc _ _ rfl (hOc.out.own.alloc _) ⟨wc.heap.size, 0, none⟩ 1 1 [.string (str M4)] rfl rfl (cell_one_new _ _ _) (by simp [Value.oneCell']) (by rw [List.length_append, List.length_append, List.length_singleton]; unfold maxLen; omega) (by rw [List.length_append, List.length_append, List.length_singleton]; omega) (by have := hOc.out.below.size; simp; omega) ?_; intro vd wd hown9 hg9 hnil9 hloc9; have hOd := Lib.hid (hOc.out.push hown9 hg9); clear hown9 hg9 hnil9 hloc9))
    go_ret
    rw [hfin.out] at hOd
    obtain ⟨Af, nf, cf, e9, hTf, hbf⟩ := hOd.out.out
    injection e9 with e9
    subst e9
    exact ⟨Af, nf, cf, rfl, hTf, hB1.out.trans (hbf.mono hB1.out.size)⟩
end Go.Proofs.Ytlmdihocogalaaa
