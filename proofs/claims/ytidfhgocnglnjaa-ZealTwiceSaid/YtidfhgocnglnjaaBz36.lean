/- Proved here: texts joined: ZlLawD. -/
import Derived.Test.YtidfhgocnglnjaaBz17
import Derived.Test.YtidfhgocnglnjaaBz21
import Derived.Test.YtidfhgocnglnjaaBz22
import Derived.Test.YtidfhgocnglnjaaBz28
import Derived.Test.YtidfhgocnglnjaaBz35
import Derived.Deep.RegionHeld3
/- Proved here: what the statement ZealTwice says, by the contracts of packages zeal and pick. -/
namespace Go.Proofs.Ytidfhgocnglnjaa
open Go.RowKit
set_option linter.unusedVariables false
set_option maxRecDepth 100000

section
variable (H : ZealOk)
include H

set_option maxHeartbeats 16000000 in
theorem ZealTwice_walk (A : Option Addr) (n c : Nat) (vs : List PcV) (ps : List Pc) (y : Nat) (w : World) (h0 : ArgPcs w A n c vs ps) (hy : y ≤ 255) :
    Calls Try.prog 5 #[.slice A n c, .int .u8 y] w fun e w' => e = .returned (.bool true) ∧ Below w.heap.size w w' := by
  obtain ⟨hnc, hcm, hA⟩ := h0
  have haw := Lib.hid (zAwake_any H w)
  obtain ⟨fm, hfm⟩ : ∃ fm, fewP ps = fm := ⟨_, rfl⟩
  have hF := Lib.hid (fun (W : World) (hb : Below w.heap.size w W) => pFew_any A n c W.heap.size vs ps W (Nat.le_trans hnc hcm) (hA.up hb))
  rw [hfm] at hF
  cases fm
  · clear hA hfm
    go_enter Try.func5, Try.ntmps5
    go_wp2_with (first
      | (go_at_call 8; refine haw.out.mono ?_; rintro e w1 ⟨rfl, hb1⟩; have hB1 := Lib.hid hb1; clear hb1)
      | (go_at_call 9; refine (hF.out _ hB1.out).mono ?_; rintro e w2 ⟨rfl, q2, rfl⟩))
    go_ret
    exact ⟨rfl, below_drewN hB1.out q2⟩
  obtain ⟨hf1, hf2⟩ := fewP_parts hfm
  have hl := hA.len
  have hn12 : n ≤ 12 := by omega
  obtain ⟨k, hk⟩ : ∃ k, y % (n + 1) = k := ⟨_, rfl⟩
  have hkn : k ≤ n := by have := Nat.mod_lt y (show 0 < n + 1 by omega); omega
  have hkt : ((y : Int)).tmod ((n : Int) + 1) = (k : Int) := by rw [← hk]; exact Int.ofNat_tmod y (n + 1) ▸ rfl
  have hn0 : ((n : Int) + 1 == 0) = false := by simp; omega
  obtain ⟨Aa, ma, qa, hsa, ea1, ea2, ea3, hPa⟩ := pcs_to (k := k) hA hnc hcm hkn
  obtain ⟨Ab, mb, qb, hsb, eb1, eb2, eb3, hPb⟩ := pcs_from (k := k) hA hnc hcm hkn
  have hfa : fewP (ps.take k) = true := few_part hfm (by rw [List.length_take]; omega) (fun p hp => List.mem_of_mem_take hp)
  have hfb : fewP (ps.drop k) = true := few_part hfm (by rw [List.length_drop]; omega) (fun p hp => List.mem_of_mem_drop hp)
  have hZ := Lib.hid (fun (lo : Nat) (W : World) (hb : Below w.heap.size w W) (hlo : w.heap.size ≤ lo) (hlw : lo ≤ W.heap.size) => H.zeal_ok lo A n c vs ps W hnc hcm hlw (few_small hfm) ((hA.below hb).more hlo))
  have hZa := Lib.hid (fun (lo : Nat) (W : World) (hb : Below w.heap.size w W) (hlo : w.heap.size ≤ lo) (hlw : lo ≤ W.heap.size) => H.zeal_ok lo Aa ma qa _ _ W ea1 ea2 hlw (few_small hfa) ((hPa.below hb).more hlo))
  have hZb := Lib.hid (fun (lo : Nat) (W : World) (hb : Below w.heap.size w W) (hlo : w.heap.size ≤ lo) (hlw : lo ≤ W.heap.size) => H.zeal_ok lo Ab mb qb _ _ W eb1 eb2 hlw (few_small hfb) ((hPb.below hb).more hlo))
  have hAh := Lib.hid hA
  have hfmh := Lib.hid hfm
  have hla : Hid ((zealD (ps.take k)).length ≤ 300 ∧ (zealD (ps.drop k)).length ≤ 300) := Lib.hid ⟨zeal_len (few_small hfa), zeal_len (few_small hfb)⟩
  have hsa' : Hid (smallZ (zealD (ps.take k)) ∧ sumT (zealD (ps.take k)) ≤ 480 ∧ smallZ (zealD (ps.drop k)) ∧ sumT (zealD (ps.drop k)) ≤ 480) := Lib.hid ⟨(few_zeal hfa).1, (few_zeal hfa).2, (few_zeal hfb).1, (few_zeal hfb).2⟩
  have hzt : Hid (normal (zealD (ps.take k) ++ zealD (ps.drop k)) = zealD ps) := Lib.hid (by rw [zeal_parts, List.take_append_drop])
  obtain ⟨pa, hpa⟩ : ∃ pa, zealD (ps.take k) = pa := ⟨_, rfl⟩
  obtain ⟨pb, hpb⟩ : ∃ pb, zealD (ps.drop k) = pb := ⟨_, rfl⟩
  rw [hpa] at hZa
  rw [hpb] at hZb
  rw [hpa, hpb] at hla hsa' hzt
  obtain ⟨j0, hj, hyy⟩ := Option.map_eq_some_iff.1 infoPc
  simp only [Prod.mk.injEq] at hyy
  obtain ⟨hy0, hy1, hy2⟩ := hyy
  have tok1 := trivial
  clear hA hfm hl hf1 hf2 hPa hPb hk hfa hfb hpa hpb ea1 ea2 ea3 eb1 eb2 eb3
  go_enter Try.func5, Try.ntmps5
  go_upto_region 6 with (first
    | (go_at_call 8; refine haw.out.mono ?_; rintro e w1 ⟨rfl, hb1⟩; have hB1 := Lib.hid hb1; clear hb1)
    | (go_at_call 9; refine (hF.out _ hB1.out).mono ?_; rintro e w2 ⟨rfl, q2, hw2⟩; have hB2 : Hid (Below w.heap.size w w2) := Lib.hid (by rw [hw2]; exact below_drewN hB1.out q2); clear hw2)
    | (go_at_call 13; refine (hZ.out w.heap.size _ hB2.out (Nat.le_refl _) hB2.out.size).mono ?_; rintro e w3 ⟨A5, n5, c5, vs5, rfl, q1, q2, q3, q4⟩; have hP5 := Lib.hid (And.intro q1 (And.intro q2 (q3 w3 (But.refl _ _)))); have hB3 := Lib.hid (hB2.out.trans (q4.mono hB2.out.size)); clear q1 q2 q3 q4))
  obtain ⟨wa, rfl⟩ : ∃ wa : World, wa = w3 := ⟨_, rfl⟩
  have hrefl := Below.refl wa.heap.size wa
  have hwh := Lib.hid hB3.out.size
  have hZa2 : Hid (∀ W, Below wa.heap.size wa W → Calls Try.prog 13 #[.slice Aa ma qa] W fun e w' => PcsLo wa.heap.size W w' e pa ∧ Below wa.heap.size wa w') := Lib.hid (fun W hW => (hZa.out wa.heap.size W (hB3.out.trans (hW.mono hwh.out)) hwh.out hW.size).mono fun e w' h => by obtain ⟨_, _, _, _, _, _, _, _, hb⟩ := h; exact ⟨⟨_, _, _, _, ‹_›, ‹_›, ‹_›, ‹_›, hb⟩, hW.trans (hb.mono hW.size)⟩)
  have hZb2 : Hid (∀ U W, Below U.heap.size U W → Below wa.heap.size wa W → Calls Try.prog 13 #[.slice Ab mb qb] W fun e w' => PcsLo wa.heap.size W w' e pb ∧ Below U.heap.size U w' ∧ Below wa.heap.size wa w') := Lib.hid (fun U W hU hW => (hZb.out wa.heap.size W (hB3.out.trans (hW.mono hwh.out)) hwh.out hW.size).mono fun e w' h => by obtain ⟨_, _, _, _, _, _, _, _, hb⟩ := h; exact ⟨⟨_, _, _, _, ‹_›, ‹_›, ‹_›, ‹_›, hb⟩, hU.trans (hb.mono hU.size), hW.trans (hb.mono hW.size)⟩)
  go_cut [8] (fun s8 wx => ∃ A8 N c8 vs8, s8 = .slice A8 N c8 ∧ Hid (N ≤ c8 ∧ c8 ≤ maxLen ∧ Pcs wx wx.heap.size A8 N vs8 (pa ++ pb) ∧ Below wa.heap.size wa wx))
  case first =>
    have tok2 := trivial
    go_region_held3 (fun wx : World => True)
      (trivial)
      ((first
        | (go_at_call 13; have _t := tok1; refine (hZa2.out _ ?_).mono ?_; (repeat (first | assumption | refine below_drew ?_ | refine below_alloc ?_ _)); rintro e w6 ⟨⟨A6, n6, c6, vs6, rfl, q1, q2, q3, q4⟩, hb6⟩; have hown6 : w6.ownsRow wa.heap.size 25 4 (.slice (some ⟨wa.heap.size, 0, none⟩) 0 0) 0 [] := ownsRow_kept (own_empty4 wa wa.heap.size 25 (Nat.le_refl _)) (fun k e => q4.block k (by cases e; simp)); have hPa6 : ∀ w2, But (fun k => k = wa.heap.size) w6 w2 → Pcs w2 w2.heap.size A6 n6 vs6 pa := (fun w2 hb => q3 w2 (hb.more fun k hk => by subst hk; simp)); have hn6 : n6 ≤ 300 := (by have := (hPa6 w6 (But.refl _ _)).len; have := hla.out.1; omega); have hz6 := Lib.hid (zip_snd (hPa6 w6 (But.refl _ _))); clear q3 q4 tok1)
        | (go_at_call 13; have _t := tok1; refine (hZa2.out _ ?_).mono ?_; (repeat (first | assumption | refine below_drew ?_ | refine below_alloc ?_ _)); rintro e w6 ⟨⟨A6, n6, c6, vs6, rfl, q1, q2, q3, q4⟩, hb6⟩; have hPb6 : ∀ w2, But (fun _ => False) w6 w2 → Pcs w2 w2.heap.size A6 n6 vs6 pa := (fun w2 hb => q3 w2 (hb.more fun k hk => hk.elim)); have hn6 : n6 ≤ 300 := (by have := (hPb6 w6 (But.refl _ _)).len; have := hla.out.1; omega); have hz6 := Lib.hid (zip_snd (hPb6 w6 (But.refl _ _))); clear q3 q4 tok1)
        | (refine appendP_step rfl (.tmp 22) (.tmp 26) 26 rfl wa.heap.size 25 j0 (.agg #[.bool false, .slice none 0 0, .slice none 0 0, .slice none 0 0]) Try.underlying26 hj hy0 hy1 hy2 rfl (.slice (some ⟨wa.heap.size, 0, none⟩) 0 0) 0 [] (by go_simp) hown6 w6.heap.size A6 n6 c6 vs6 pa (by go_simp) (hPa6 w6 (But.refl _ _)) (by unfold maxLen; omega) (by omega) hb6.size ?_; intro v7 w7 hown7 hg7 hloc7; have hR7 : RowF (fun _ => False) w7 v7 (vs6.zip pa) := (RowF.start (fun _ => False) w6 (.slice (some ⟨wa.heap.size, 0, none⟩) 0 0)).puts (fun w3 h3 q hq => zip_in (hPa6 w3 (h3.more fun k e => by rcases e with e | e; exact e.elim; cases e; rfl)) q hq) hg7 hloc7; have hb7 : Below wa.heap.size wa w7 := hb6.grown hg7 hb6.size (fun g e => (hown6.lt g e).1); clear hPa6 hown6 hg7 hloc7)
        | (refine appendP_step rfl (.tmp 22) (.tmp 26) 26 rfl wa.heap.size 25 j0 (.agg #[.bool false, .slice none 0 0, .slice none 0 0, .slice none 0 0]) Try.underlying26 hj hy0 hy1 hy2 rfl (.slice (some ⟨w6.heap.size, 0, none⟩) 0 0) 0 [] (by go_simp) (own_empty4 w6 wa.heap.size 25 hb6.size) (w6.heap.size + 1) A6 n6 c6 vs6 pa (by go_simp) (by have := hPb6 (w6.alloc (.cells #[] 25)) ((But.alloc w6 _).more fun k e => e); simpa using this) (by unfold maxLen; omega) (by omega) (below_alloc hb6 _).size ?_; intro v7 w7 hown7 hg7 hloc7; have hR7 : RowF (fun _ => False) w7 v7 (vs6.zip pa) := (RowF.start (fun _ => False) (w6.alloc (.cells #[] 25)) (.slice (some ⟨w6.heap.size, 0, none⟩) 0 0)).puts (fun w3 h3 q hq => zip_in (hPb6 w3 ((But.alloc w6 _).trans h3 fun k e => by rcases e with e | e; exact e.elim; cases e; exact .inr (Nat.le_refl _))) q hq) hg7 hloc7; have hb7 : Below wa.heap.size wa w7 := (below_alloc hb6 _).grown hg7 (below_alloc hb6 _).size (fun g e => by cases e; exact hb6.size); clear hPb6 hg7 hloc7)
        | (go_at_call 13; refine (hZb2.out w7 _ ?_ ?_).mono ?_; (repeat (first | exact Below.refl _ _ | refine below_drew ?_)); (repeat (first | assumption | refine below_drew ?_)); rintro e w8 ⟨⟨A8, n8, c8, vs8, rfl, r1, r2, r3, r4⟩, hu8, hb8⟩; have hown8 := ownsRow_kept hown7 (w' := w8) (fun k e => hu8.block k (hown7.lt k e).2); have hn8 : n8 ≤ 300 := (by have := (r3 w8 (But.refl _ _)).len; have := hla.out.2; omega); have hz8 := Lib.hid (zip_snd (r3 w8 (But.refl _ _))))
        | (refine appendP_step rfl (.tmp 27) (.tmp 31) 26 rfl wa.heap.size 25 j0 (.agg #[.bool false, .slice none 0 0, .slice none 0 0, .slice none 0 0]) Try.underlying26 hj hy0 hy1 hy2 rfl v7 (0 + n6) _ (by go_simp) hown8 w8.heap.size A8 n8 c8 vs8 pb (by go_simp) (r3 w8 (But.refl _ _)) (by unfold maxLen; omega) (by omega) hb8.size ?_; intro v9 w9 hown9 hg9 hloc9; have hR9 : RowF (fun _ => False) w9 v9 ([] ++ vs6.zip pa ++ vs8.zip pb) := (hR7.up hu8).puts (fun w3 h3 q hq => zip_in (r3 w3 (h3.more fun k e => by rcases e with e | e; exact e.elim; exact ⟨(hown7.lt k e).1, (hown7.lt k e).2⟩)) q hq) hg9 hloc9; have hb9 : Below wa.heap.size wa w9 := hb8.grown hg9 hb8.size (fun g e => (hown8.lt g e).1))))
    all_goals (go_wp2_with fail; go_meet)
    all_goals
      have hO9 : w9.ownsRow wa.heap.size 25 4 v9 (vs6.zip pa ++ vs8.zip pb).length (pcCs (vs6.zip pa ++ vs8.zip pb)) := by
        rw [List.length_append, hz6.out.2, hz8.out.2, pcCs_app]
        have := hown9
        rw [Nat.zero_add, List.nil_append] at this
        exact this
      obtain ⟨A9, c9, rfl, e1, e2, hP9⟩ := pcs_reads (w := wa) hO9 (fun q hq => hR9 w9 (But.refl _ _) q (by rw [List.nil_append]; exact hq))
      rw [List.map_append (f := fun q : PcV × Pc => q.2), hz6.out.1, hz8.out.1] at hP9
      exact ⟨A9, _, c9, _, rfl, Lib.hid ⟨e1, e2, hP9, hb9⟩⟩
  case rest =>
  obtain ⟨A8, N, c8, vs8, rfl, h8⟩ := hcut
  obtain ⟨wt, rfl⟩ : ∃ wt : World, wt = wc := ⟨_, rfl⟩
  have hBt := Lib.hid (hB3.out.trans (h8.out.2.2.2.mono hB3.out.size))
  have hP5t := Lib.hid (hP5.out.2.2.up h8.out.2.2.2)
  have hfz := Lib.hid (few_zeal hfmh.out)
  have hZz : Hid (∀ W, Below wt.heap.size wt W → Calls Try.prog 13 #[.slice A5 n5 c5] W fun e w' => ∃ A n c vs, e = .returned (.slice A n c) ∧ n ≤ maxLen ∧ Pcs w' w'.heap.size A n vs (zealD ps) ∧ Below wt.heap.size wt w') := Lib.hid (fun W hW => by
    refine (H.zeal_ok W.heap.size A5 n5 c5 vs5 (zealD ps) W hP5.out.1 hP5.out.2.1 (Nat.le_refl _) hfz.out.1 (hP5t.out.up hW)).mono ?_
    rintro e w' ⟨A, n, c, vs, r1, r2, r3, r4, r5⟩
    have := r4 w' (But.refl _ _)
    rw [zeal_twice] at this
    exact ⟨A, n, c, vs, r1, Nat.le_trans r2 r3, this, hW.trans (r5.mono hW.size)⟩)
  have hNz : Hid (∀ W, Below wt.heap.size wt W → Calls Try.prog 18 #[.slice A8 N c8] W fun e w' => ∃ A n c vs, e = .returned (.slice A n c) ∧ n ≤ maxLen ∧ Pcs w' w'.heap.size A n vs (zealD ps) ∧ Below wt.heap.size wt w') := Lib.hid (fun W hW => by
    refine (H.normal_ok A8 N c8 vs8 (pa ++ pb) W h8.out.1 h8.out.2.1 (by have := h8.out.2.2.1.len; have := hla.out; rw [List.length_append] at *; omega) (by have := hsa'.out; have e : sumT (pa ++ pb) = sumT pa + sumT pb := (by simp [sumT]); omega) (smallN_of fun p hp => by rcases List.mem_append.1 hp with hp | hp; exact hsa'.out.1.2 p hp; exact hsa'.out.2.2.1.2 p hp) (h8.out.2.2.1.up hW)).mono ?_
    rintro e w' ⟨A, n, c, vs, r1, r2, r3, r4, r5⟩
    rw [hzt.out] at r4
    exact ⟨A, n, c, vs, r1, Nat.le_trans r2 r3, r4, hW.trans (r5.mono hW.size)⟩)
  have hSm : Hid (∀ (A A' : Option Addr) (n n' c c' : Nat) (vs vs' : List PcV) (W : World), n ≤ maxLen → n' ≤ maxLen → Pcs W W.heap.size A n vs (zealD ps) → Pcs W W.heap.size A' n' vs' (zealD ps) → Below wt.heap.size wt W → Calls Try.prog 10 #[.slice A n c, .slice A' n' c'] W fun e w' => e = .returned (.bool true) ∧ Below wt.heap.size wt w') := Lib.hid (fun A A' n n' c c' vs vs' W a b h h' hW => by
    have := pSame_any A A' n n' c c' _ _ vs vs' (zealD ps) (zealD ps) W a b h h'
    rw [decide_eq_true rfl] at this
    refine this.mono ?_
    rintro e w' ⟨r1, q, rfl⟩
    exact ⟨r1, below_drewN hW q⟩)
  have hn5 : Hid (n5 ≤ maxLen) := Lib.hid (Nat.le_trans hP5.out.1 hP5.out.2.1)
  have hAt := Lib.hid (hAh.out.up hBt.out)
  obtain ⟨cl, hcl⟩ : ∃ cl, cleanB ps = cl := ⟨_, rfl⟩
  have hCl : Hid (∀ W, Below wt.heap.size wt W → Calls Try.prog 19 #[.slice A n c] W fun e w' => e = .returned (.bool cl) ∧ w' = W) := Lib.hid (fun W hW => by
    rw [← hcl]
    exact rClean_any A n c W.heap.size vs ps W (Nat.le_trans hnc hcm) (hAt.out.up hW))
  have hNr : Hid (cl = true → ∀ W, Below wt.heap.size wt W → Calls Try.prog 20 #[.slice A n c] W fun e w' => ∃ A n c vs, e = .returned (.slice A n c) ∧ n ≤ maxLen ∧ Pcs w' w'.heap.size A n vs (zealD ps) ∧ Below wt.heap.size wt w') := Lib.hid (fun h W hW => by
    obtain ⟨f1, f2⟩ := fewP_parts hfmh.out
    refine (rNormal_any A n c vs ps W (by omega) (by have := sumT_few f2; omega) (hAt.out.up hW)).mono ?_
    rintro e w' ⟨A, n, c, vs, r1, r2, r3, r4, r5⟩
    rw [← zeal_clean (by rw [hcl, h])] at r4
    exact ⟨A, n, c, vs, r1, Nat.le_trans r2 r3, r4, hW.trans (r5.mono hW.size)⟩)
  have hreft := Lib.hid (Below.refl wt.heap.size wt)
  have tok3 := trivial
  have tok4 := trivial
  clear hcl hrefl tok1
  cases cl
  · go_wp2_with (first
      | (go_at_call 13; refine (hZz.out _ hreft.out).mono ?_; rintro e w4 ⟨Ax, nx, cx, vsx, rfl, r1, r2, r3⟩; have hx := Lib.hid (And.intro r1 (And.intro r2 r3)); clear r1 r2 r3)
      | (go_at_call 10; have _t := tok3; refine (hSm.out Ax A5 nx n5 cx c5 vsx vs5 _ hx.out.1 hn5.out hx.out.2.1 (hP5t.out.up hx.out.2.2) hx.out.2.2).mono ?_; rintro e w5 ⟨rfl, hb5⟩; have hb5h := Lib.hid hb5; clear hb5 tok3)
      | (go_at_call 18; refine (hNz.out _ hb5h.out).mono ?_; rintro e w6 ⟨Ay, ny, cy, vsy, rfl, r1, r2, r3⟩; have hz := Lib.hid (And.intro r1 (And.intro r2 r3)); clear r1 r2 r3)
      | (go_at_call 10; have _t := tok4; refine (hSm.out Ay A5 ny n5 cy c5 vsy vs5 _ hz.out.1 hn5.out hz.out.2.1 (hP5t.out.up hz.out.2.2) hz.out.2.2).mono ?_; rintro e w7 ⟨rfl, hb7⟩; have hb7h := Lib.hid hb7; clear hb7 tok4)
      | (go_at_call 19; refine (hCl.out _ hb7h.out).mono ?_; rintro e w8 ⟨rfl, rfl⟩))
    go_ret
    exact ⟨rfl, hBt.out.trans (hb7h.out.mono hBt.out.size)⟩
  · have hNr2 := Lib.hid (hNr.out rfl)
    go_wp2_with (first
      | (go_at_call 13; refine (hZz.out _ hreft.out).mono ?_; rintro e w4 ⟨Ax, nx, cx, vsx, rfl, r1, r2, r3⟩; have hx := Lib.hid (And.intro r1 (And.intro r2 r3)); clear r1 r2 r3)
      | (go_at_call 10; have _t := tok3; refine (hSm.out Ax A5 nx n5 cx c5 vsx vs5 _ hx.out.1 hn5.out hx.out.2.1 (hP5t.out.up hx.out.2.2) hx.out.2.2).mono ?_; rintro e w5 ⟨rfl, hb5⟩; have hb5h := Lib.hid hb5; clear hb5 tok3)
      | (go_at_call 18; refine (hNz.out _ hb5h.out).mono ?_; rintro e w6 ⟨Ay, ny, cy, vsy, rfl, r1, r2, r3⟩; have hz := Lib.hid (And.intro r1 (And.intro r2 r3)); clear r1 r2 r3)
      | (go_at_call 10; have _t := tok4; refine (hSm.out Ay A5 ny n5 cy c5 vsy vs5 _ hz.out.1 hn5.out hz.out.2.1 (hP5t.out.up hz.out.2.2) hz.out.2.2).mono ?_; rintro e w7 ⟨rfl, hb7⟩; have hb7h := Lib.hid hb7; clear hb7 tok4)
      | (go_at_call 19; refine (hCl.out _ hb7h.out).mono ?_; rintro e w8 ⟨rfl, hw8⟩; have hb8h : Hid (Below wt.heap.size wt w8) := Lib.hid (by rw [hw8]; exact hb7h.out); clear hw8)
      | (go_at_call 20; refine (hNr2.out _ hb8h.out).mono ?_; rintro e w9 ⟨Av, nv, cv, vsv, rfl, r1, r2, r3⟩; have hv := Lib.hid (And.intro r1 (And.intro r2 r3)); clear r1 r2 r3)
      | (go_at_call 10; refine (hSm.out A5 Av n5 nv c5 cv vs5 vsv _ hn5.out hv.out.1 (hP5t.out.up hv.out.2.2) hv.out.2.1 hv.out.2.2).mono ?_; rintro e w10 ⟨rfl, hb10⟩; have hb10h := Lib.hid hb10; clear hb10))
    go_ret
    exact ⟨rfl, hBt.out.trans (hb10h.out.mono hBt.out.size)⟩
end
end Go.Proofs.Ytidfhgocnglnjaa
