/- Proved here: texts joined: EdCut2. -/
import Derived.Test.YtdfpifipkchmnaaGreatDoorBa38
import Derived.Test.YtdfpifipkchmnaaGreatDoorBa40
import Derived.Test.YtdfpifipkchmnaaGreatDoorBa41
import Derived.Maps.AppendAt
import Derived.Maps.OwnIn
/- Proved here: the landed cut, where numbers stand ahead of the name. -/
namespace Go.Proofs.YtdfpifipkchmnaaGreatDoor
open Go.RowKit Go.Shelf
set_option linter.unusedVariables false
set_option maxRecDepth 100000
attribute [local go_sem] Oper.semAt_some

/-- What cut tells: a name, and numbers, or that a line is wrong. -/
def CutP (w w' : World) (e : Ending) (pre name : Tx) (rd : Int) : Prop := (∃ l, cutN pre = some l ∧ CutO w w' e name l) ∨ (cutN pre = none ∧ e = .panicked (WR rd 2) ∧ Below w.heap.size w w')

/-- Four new blocks. -/
theorem four_new (w : World) (o1 o2 o3 o4 : Obj) : ((((w.alloc o1).alloc o2).alloc o3).alloc o4).heap.size = w.heap.size + 4 ∧ ((((w.alloc o1).alloc o2).alloc o3).alloc o4).heap[w.heap.size]? = some o1 ∧ ((((w.alloc o1).alloc o2).alloc o3).alloc o4).heap[w.heap.size + 1]? = some o2 ∧
    ((((w.alloc o1).alloc o2).alloc o3).alloc o4).heap[w.heap.size + 1 + 1]? = some o3 ∧ ((((w.alloc o1).alloc o2).alloc o3).alloc o4).heap[w.heap.size + 1 + 1 + 1]? = some o4 ∧ Below w.heap.size w ((((w.alloc o1).alloc o2).alloc o3).alloc o4) := by
  have hb : Below w.heap.size w ((((w.alloc o1).alloc o2).alloc o3).alloc o4) := below_alloc (below_alloc (below_alloc (below_alloc (Below.refl _ _) _) _) _) _
  refine ⟨by simp, ?_, ?_, ?_, ?_, hb⟩
  · simp only [push_at, push_size]
    rw [if_neg (by omega), if_neg (by omega), if_neg (by omega), if_pos trivial]
  · simp only [push_at, push_size]
    rw [if_neg (by omega), if_neg (by omega), if_pos trivial]
  · simp only [push_at, push_size]
    rw [if_neg (by omega), if_pos trivial]
  · simp only [push_at, push_size]
    rw [if_pos trivial]
theorem infoInt : ∃ i0 : TypeInfo, Tryz.prog.info? 3 = some i0 ∧ i0.zero = some (.int .i64 0) ∧ i0.size = 1 ∧ i0.bytes = 8 := by
  have h : (Tryz.prog.info? 3).map (fun i => (i.zero, i.size, i.bytes)) = some (some (.int .i64 0), 1, 8) := by kernel_rfl
  obtain ⟨i, hi, hz⟩ := Option.map_eq_some_iff.1 h
  simp only [Prod.mk.injEq] at hz
  exact ⟨i, hi, hz.1, hz.2.1, hz.2.2⟩
theorem below_put {w V : World} (hB : Below w.heap.size w V) {D : Nat} (hD : w.heap.size ≤ D) (o : Obj) : Below w.heap.size w (V.putObj D o) :=
  hB.trans ((But.of_grown (F := fun r => r = D) (grownBy_putObj' V D o) (fun k e => by cases e; rfl)).below hB.size (fun k e => by omega))

theorem num_put {V w2 w3 : World} {B n : Nat} {v v' u : Value} {xs : List Value} {o : Obj} (hb2 : Below V.heap.size V w2) (g2 : Boxed V B 60 v) (g3 : V.ownsRow (B + 6) 3 1 v n xs) (hg : (w2.alloc o).grownBy w3 v.ownBlock) (hown : w3.ownsRow (B + 6) 3 1 v' (n + 1) (xs ++ [u])) :
    Boxed w3 B 60 v ∧ Boxed (w3.setCell ⟨B, 0, none⟩ v') B 60 v' ∧ (w3.setCell ⟨B, 0, none⟩ v').ownsRow (B + 6) 3 1 v' (n + 1) (xs ++ [u]) ∧ But (fun r => r = B ∨ B + 6 ≤ r) V (w3.setCell ⟨B, 0, none⟩ v') := by
  have h1 : But (fun r => r = B ∨ B + 6 ≤ r) V w3 := ((But.of_below (F := fun r => r = B ∨ B + 6 ≤ r) hb2 fun k hk _ => hk).trans (But.alloc (F := fun r => r = B ∨ B + 6 ≤ r) w2 o) fun k e => .inl e).trans (But.of_grown (F := fun r => r = B ∨ B + 6 ≤ r) hg fun k e => .inr (g3.lt k e).1) fun k e => .inl e
  have hb3 : Boxed w3 B 60 v := by
    have e1 : w2.heap[B]? = some (.cells #[v] 60 (0, 0)) := (hb2.block _ g2.lt).trans g2
    have e2 : (w2.alloc o).heap[B]? = some (.cells #[v] 60 (0, 0)) := (Below.heap_alloc w2 o B (Array.getElem?_eq_some_iff.1 e1).1).trans e1
    exact (hg.block _ (Array.getElem?_eq_some_iff.1 e2).1 (fun e => by have := (g3.lt _ e.symm).1; omega)).trans e2
  refine ⟨hb3, hb3.set _, ownsRow_kept hown fun k e => Below.heap_setCell _ _ _ _ (fun e2 => by have := (hown.lt k e).1; have : k = B := e2; omega), h1.trans (But.setCell (F := fun r => r = B ∨ B + 6 ≤ r) w3 (p := ⟨B, 0, none⟩) (.inl rfl) _) fun k e => .inl e⟩

set_option maxHeartbeats 4000000 in
theorem cut_nums (E : Nat) (rd : Int) (pre name : Tx) (w : World) (hs : (pre ++ name).length ≤ 900000) (hE : w.cell? ⟨E, 1, none⟩ = some (.int .i64 rd)) (hEl : E < w.heap.size) (hp : ∀ c ∈ pre, comB c = true) (h : ∀ c, name.head? = some c → comB c = false) (hne : pre ≠ []) :
    Calls Tryz.prog 35 #[.pointer (some ⟨E, 0, none⟩), .string (str (pre ++ name ++ [10]))] w fun e w' => CutP w w' e pre name rd := by
  obtain ⟨W0, hW0⟩ : ∃ W0, W0 = w.alloc (.cells #[.pointer (some ⟨E, 0, none⟩)] 57) := ⟨_, rfl⟩
  have hb0 : Below w.heap.size w W0 := by rw [hW0]; exact below_alloc (Below.refl _ _) _
  have hk0 := Lib.hid (And.intro hW0 hb0)
  have hlast : (pre ++ name ++ [10] : Tx).getLast? = some 10 := by simp
  have hc := Lib.hid (sufT_any (pre ++ name ++ [10]) W0 (by rw [List.length_append]; simp only [List.length_singleton]; omega))
  rw [if_pos hlast, decide_eq_true hlast, List.dropLast_concat] at hc
  have hm := Lib.hid (must_ok E 2 W0)
  have ht := Lib.hid (trimT_any (pre ++ name) W0)
  rw [(take_com hp h).2] at ht
  have q0 : W0.cell? ⟨w.heap.size, 0, none⟩ = some (.pointer (some ⟨E, 0, none⟩)) := by rw [hW0, World.cell?_alloc_mark]; rfl
  have q0b : W0.heap[w.heap.size]? = some (.cells #[.pointer (some ⟨E, 0, none⟩)] 57 (0, 0)) := by rw [hW0, push_at, if_pos rfl]
  have hsl : ∀ W, (Instr.slice 9 (.string (str (pre ++ name))) none (some (.int .i64 (pre.length : Int))) none).run Tryz.prog W = .ok (.string (str pre)) W := fun W => by
    have := slice_str_to (pre ++ name) pre.length (by simp) W
    rwa [List.take_left] at this
  have hpe : ((str pre).toList == []) = false := by rw [Lib.toList_data, str_data, beq_eq_false_iff_ne]; exact hne
  have hpi : (str pre).toList.isEmpty = false := by rw [Lib.toList_data, str_data]; cases pre with | nil => exact absurd rfl hne | cons _ _ => rfl
  have hplen : pre.length ≤ 900000 := by rw [List.length_append] at hs; omega
  have hPs := Lib.hid (fun W => split_any (str pre) ⟨#[44]⟩ W)
  obtain ⟨L, hL⟩ : ∃ L, str (pre ++ name ++ [10]) = L := ⟨_, rfl⟩
  obtain ⟨T, hT⟩ : ∃ T, str (pre ++ name) = T := ⟨_, rfl⟩
  obtain ⟨S, hS⟩ : ∃ S, str name = S := ⟨_, rfl⟩
  obtain ⟨Q, hQ⟩ : ∃ Q, str pre = Q := ⟨_, rfl⟩
  have hTz : (T.size : Int) = (pre.length : Int) + (S.size : Int) := by rw [← hT, ← hS, str_size, str_size, List.length_append]; push_cast; rfl
  have hSz : S.size ≤ 900000 := by rw [← hS, str_size]; rw [List.length_append] at hs; omega
  rw [hL, hT] at hc
  rw [hT, hS] at ht
  rw [hT, hQ] at hsl
  rw [hQ] at hpe hpi hPs
  have hSh := Lib.hid (And.intro hS hQ)
  rw [hL]
  obtain ⟨N, hN⟩ : ∃ N, pre.length = N := ⟨_, rfl⟩
  rw [hN] at hTz hsl hplen
  have hNh := Lib.hid hN
  have hzz : IntKind.i64.wrap ((T.size : Int) - (S.size : Int)) = (N : Int) := by rw [IntKind.wrap_i64]; omega
  have hzd : (T.size : Int) - (S.size : Int) = (N : Int) := by omega
  have hneh := Lib.hid hne
  clear hW0 hb0 hL hS hQ hT hlast h hne hs hTz hN
  refine calls_of_wpB Tryz.func35 rfl ?_
  simp only [Tryz.ntmps35, List.size_toArray, List.length_cons, List.length_nil, Nat.reduceAdd, Nat.reduceSub, Array.replicate_succ, Array.replicate_zero, List.push_toArray, List.append_toArray, List.nil_append, List.cons_append]
  refine wpB_seq (wpB_of_wp ?_)
  go_wp2
  rw [← hk0.out.1]
  refine wpB_seq (wpB_of_wp ?_)
  go_wp2_with (go_at_call 50; refine hc.out.mono ?_; rintro e w' ⟨rfl, rfl⟩)
  refine wpB_seq (wpB_of_wp ?_)
  go_wp2_with (go_at_call 36; refine hm.out.mono ?_; rintro e w' ⟨rfl, rfl⟩)
  refine wpB_seq (wpB_of_wp ?_)
  go_wp2_with (go_at_call 51; refine ht.out.mono ?_; rintro e w1 ⟨rfl, hb1⟩; have hB1 := Lib.hid (hk0.out.2.trans (hb1.mono hk0.out.2.size)); have q1b := (hb1.block _ (Array.getElem?_eq_some_iff.1 q0b).1).trans q0b; clear hb1)
  refine wpB_seq (wpB_of_wp ?_)
  go_wp2
  refine wpB_seq (wpB_seq (wpB_of_wp ?_))
  go_wp2
  refine wpB_of_wp ?_
  go_wp2
  refine wpB_seq (wpB_of_wp ?_)
  go_wp2
  refine wpB_seq (wpB_seq (wpB_of_wp ?_))
  go_wp2_with (go_at_call 52; refine (hPs.out _).mono ?_; rintro e w' ⟨rfl, rfl⟩)
  refine wpB_block ?_
  have hfour := four_new w1 (.cells #[.slice none 0 0] 60) (.cells #[.string Q] 9) (.cells #[.string ⟨#[44]⟩] 9) (.cells #[.int .i64 0] 3)
  obtain ⟨W5, hW5⟩ : ∃ W5, ((((w1.alloc (.cells #[.slice none 0 0] 60)).alloc (.cells #[.string Q] 9)).alloc (.cells #[.string ⟨#[44]⟩] 9)).alloc (.cells #[.int .i64 0] 3)) = W5 := ⟨_, rfl⟩
  rw [hW5] at hfour ⊢
  clear hW5
  obtain ⟨hs5, f0, f1, f2, f3, hb5⟩ := hfour
  have hB5 : Below w.heap.size w W5 := hB1.out.trans (hb5.mono hB1.out.size)
  have hw1s := hB1.out.size
  have hrun5 := (hb5.block _ (Array.getElem?_eq_some_iff.1 q1b).1).trans q1b
  have hrl := (Array.getElem?_eq_some_iff.1 q1b).1
  have hit := split_iter (w1.heap.size + 1 + 1) (w1.heap.size + 1) (w1.heap.size + 1 + 1 + 1) pre W5 (by rw [hNh.out]; omega) f2 (by rw [hSh.out.2]; exact f1) f3 (by omega) (by omega)
  refine wpB_range_iterW ⟨_, Tryz.func35⟩ (gf := 79) (lb := #[.pointer (some ⟨w1.heap.size + 1 + 1, 0, none⟩), .pointer (some ⟨w1.heap.size + 1, 0, none⟩), .pointer (some ⟨w1.heap.size + 1 + 1 + 1, 0, none⟩)]) rfl (enters_of Tryz.func79 (by kernel_rfl) rfl) hit (fun r h => ?hS) (fun _ => rfl)
    (fun done V => Hid (∀ p ∈ done, mayN p = true) ∧ (∃ v, Boxed V w1.heap.size 60 v ∧ V.ownsRow (w1.heap.size + 6) 3 1 v done.length (done.map fun p => .int .i64 ((numV p : Nat) : Int))) ∧ Boxed V w.heap.size 57 (.pointer (some ⟨E, 0, none⟩)) ∧ Below w.heap.size w V ∧ w1.heap.size + 4 ≤ V.heap.size)
    (fun ch V => ch = WR rd 2 ∧ Below w.heap.size w V ∧ ∃ p ∈ splitC pre, mayN p = false)
    ?hI ?hIp ?h0
    (fun x a' V => a' = { tmps := #[.pointer (some ⟨E, 0, none⟩), .string L, .pointer (some ⟨w.heap.size, 0, none⟩), undef, .string ⟨#[]⟩, .slice none 0 0, .string T, .bool true, .string S, .string Q, .pointer (some ⟨w1.heap.size, 0, none⟩), .string (str x), undef, undef, .tuple #[.string T, .bool true], .string L, .tuple #[.string T, .bool true], .string T, .bool true, .pointer (some ⟨E, 0, none⟩), .bool true, .tuple #[], .string T, .string S, .string T, .string T, .int .i64 T.size, .string S, .int .i64 S.size, .int .i64 N, .string Q, .string Q, .bool false, undef, .string Q, .func (.func 79) #[] #[.pointer (some ⟨w1.heap.size + 1 + 1, 0, none⟩), .pointer (some ⟨w1.heap.size + 1, 0, none⟩), .pointer (some ⟨w1.heap.size + 1 + 1 + 1, 0, none⟩)], .string (str x), undef, undef, undef, undef, undef, undef, undef, undef, undef, undef, undef, undef, undef, undef, undef], defers := [] }) (fun x a' V V' h _ => h) ?assign ?body ?done ?pan
  case hS => rcases h with h | h | h <;> omega
  case hI =>
    rw [hs5]
    rintro s V V' ⟨g1, ⟨v, g2, g3⟩, g4, g5, g6⟩ hsz hb
    have hlt := g3.lt
    refine ⟨g1, ⟨v, (hb.block _ (by omega) (by omega)).trans g2, ownsRow_kept g3 fun k e => hb.block k (g3.lt k e).2 (by have := (g3.lt k e).1; omega)⟩, (hb.block _ (by omega) (by omega)).trans g4, g5.trans (hb.below g5.size (fun k hk => by omega)), by have := hb.size; omega⟩
  case hIp =>
    rw [hs5]
    rintro ch V V' ⟨g1, g2, g3⟩ hb
    exact ⟨g1, g2.trans (hb.below g2.size (fun k hk => by omega)), g3⟩
  case h0 => exact ⟨Lib.hid (by simp), ⟨_, f0, World.ownsRow_nil _ _ _ _⟩, hrun5, hB5, by omega⟩
  case assign =>
    rintro l1 dn x V K hi hsV hK
    gi_wp2
    exact hK _ _ (Below.refl _ V) rfl
  case body =>
    rintro l1 dn post x a' V hx hsV ⟨g1, ⟨v, g2, g3⟩, g4, g5, g6⟩ rfl
    rw [hs5] at hsV ⊢
    have hxm : x ∈ splitC pre := by rw [hx]; simp
    have hxf : x.all figB = true := part_figs hp hxm
    have hxl : x.length ≤ 1000000 := by
      have := splitC_len hxm
      have := hNh.out
      omega
    have hmn := Lib.hid (fun W => mayNum_any x W hxl)
    have x4 := g4.cell
    have hVE : V.cell? ⟨E, 1, none⟩ = some (.int .i64 rd) := (g5.cell (p := ⟨E, 1, none⟩) hEl).trans hE
    obtain ⟨Sx, hSx⟩ : ∃ S, str x = S := ⟨_, rfl⟩
    rw [hSx]
    rw [hSx] at hmn
    cases hmx : mayN x
    · rw [hmx] at hmn
      have hmb := Lib.hid (fun (W : World) (hW : W.cell? ⟨E, 1, none⟩ = some (.int .i64 rd)) => must_bad E 2 rd W hW)
      gi_wp2
      refine wpIn_region_any (by kernel_rfl) (wpAnyIn_inRound l1 rfl (by simp) _ _ _ _ ?_)
      change wpAnyIn _ _ _ _ _ _ _ _ _ (World.drew _)
      refine wpAnyIn_take (i := 1) (v := ?_) rfl rfl (by kernel_rfl) (by kernel_rfl) (by kernel_rfl) (fun _ _ _ h => h) ⟨Or.inl ⟨by rfl, ?_⟩, fun _ => rfl⟩ ?_
      rotate_left
      · intro W
        go_simp
        try with_reducible rfl
      refine wpAnyIn_ready (rs := [0, 2]) (by kernel_rfl) (by simp) ?_
      refine AllReadyIn.cons rfl (fun K hK => ?_) (AllReadyIn.cons rfl (fun K hK => ?_) AllReadyIn.nil)
      · go_simp
        refine hK _ _ ?_
        clear hK K
        refine wpAnyIn_ready (rs := [2]) (by kernel_rfl) (by simp) ?_
        refine AllReadyIn.cons rfl (fun K hK => ?_) AllReadyIn.nil
        go_simp
        refine ⟨trivial, (callsIn_wide.2 (hmn.out _)).mono ?_⟩
        rintro e wv ⟨rfl, rfl⟩
        refine hK _ _ ?_
        clear hK K
        refine wpAnyIn_ready (rs := [3]) (by kernel_rfl) (by simp) ?_
        refine AllReadyIn.cons rfl (fun K hK => ?_) AllReadyIn.nil
        go_simp
        refine ⟨trivial, (callsIn_wide.2 (hmb.out V.drew hVE)).mono ?_⟩
        rintro e wv ⟨rfl, rfl⟩
        exact ⟨rfl, fun r _ _ => rfl, rfl, below_drew g5, x, hxm, hmx⟩
      · go_simp
        refine ⟨trivial, (callsIn_wide.2 (hmn.out _)).mono ?_⟩
        rintro e wv ⟨rfl, rfl⟩
        refine hK _ _ ?_
        clear hK K
        refine wpAnyIn_ready (rs := [0]) (by kernel_rfl) (by simp) ?_
        refine AllReadyIn.cons rfl (fun K hK => ?_) AllReadyIn.nil
        go_simp
        refine hK _ _ ?_
        clear hK K
        refine wpAnyIn_ready (rs := [3]) (by kernel_rfl) (by simp) ?_
        refine AllReadyIn.cons rfl (fun K hK => ?_) AllReadyIn.nil
        go_simp
        refine ⟨trivial, (callsIn_wide.2 (hmb.out V.drew hVE)).mono ?_⟩
        rintro e wv ⟨rfl, rfl⟩
        exact ⟨rfl, fun r _ _ => rfl, rfl, below_drew g5, x, hxm, hmx⟩
    · rw [hmx] at hmn
      have hmg := Lib.hid (fun (W : World) => must_ok E 2 W)
      gi_wp2
      refine wpIn_region_any (by kernel_rfl) (wpAnyIn_inRound l1 rfl (by simp) _ _ _ _ ?_)
      change wpAnyIn _ _ _ _ _ _ _ _ _ (World.drew _)
      refine wpAnyIn_take (i := 1) (v := ?_) rfl rfl (by kernel_rfl) (by kernel_rfl) (by kernel_rfl) (fun _ _ _ h => h) ⟨Or.inl ⟨by rfl, ?_⟩, fun _ => rfl⟩ ?_
      rotate_left
      · intro W
        go_simp
        try with_reducible rfl
      refine wpAnyIn_ready (rs := [0, 2]) (by kernel_rfl) (by simp) ?_
      refine AllReadyIn.cons rfl (fun K hK => ?_) (AllReadyIn.cons rfl (fun K hK => ?_) AllReadyIn.nil)
      · go_simp
        refine hK _ _ ?_
        clear hK K
        refine wpAnyIn_ready (rs := [2]) (by kernel_rfl) (by simp) ?_
        refine AllReadyIn.cons rfl (fun K hK => ?_) AllReadyIn.nil
        go_simp
        refine ⟨trivial, (callsIn_wide.2 (hmn.out _)).mono ?_⟩
        rintro e wv ⟨rfl, rfl⟩
        refine hK _ _ ?_
        clear hK K
        refine wpAnyIn_ready (rs := [3]) (by kernel_rfl) (by simp) ?_
        refine AllReadyIn.cons rfl (fun K hK => ?_) AllReadyIn.nil
        go_simp
        refine ⟨trivial, (callsIn_wide.2 (hmg.out V.drew)).mono ?_⟩
        rintro e wv ⟨rfl, rfl⟩
        refine hK _ _ ?_
        clear hK K
        refine wpAnyIn_done (by kernel_rfl) ?_ _
        obtain ⟨i0, hi, hz0, hz1, hz2⟩ := infoInt
        have hAt := Lib.hid (atoiT_any x V.drew hxf hmx)
        rw [hSx] at hAt
        have hmax : Hid (dn.length + 1 ≤ maxLen ∧ (dn.length + 1) * 8 ≤ 140737488355328) := Lib.hid (by
          have h1 := congrArg List.length hx
          simp only [List.length_append, List.length_cons] at h1
          have h2 := splitC_cnt pre
          have h3 := hNh.out
          unfold maxLen
          omega)
        have hdr : Below V.heap.size V V.drew := below_drew (Below.refl _ _)
        have hput := Lib.hid (fun (w2 w3 : World) (v' u : Value) (hb2 : Below V.heap.size V w2) (hg : (w2.alloc (.cells #[u] 3)).grownBy w3 v.ownBlock) (hown : w3.ownsRow (w1.heap.size + 6) 3 1 v' (dn.length + 1) ((dn.map fun p => .int .i64 ((numV p : Nat) : Int)) ++ [u])) => num_put hb2 g2 g3 hg hown)
        have hown2 : Hid (∀ (w2 : World), Below V.heap.size V w2 → w2.ownsRow (w1.heap.size + 6) 3 1 v dn.length (dn.map fun p => .int .i64 ((numV p : Nat) : Int))) := Lib.hid (fun w2 hb2 => ownsRow_kept g3 fun k e => hb2.block k (g3.lt k e).2)
        have hbx2 : Hid (∀ (w2 : World), Below V.heap.size V w2 → Boxed w2 w1.heap.size 60 v) := Lib.hid (fun w2 hb2 => (hb2.block _ g2.lt).trans g2)
        gi_wp2_with (first
          | (refine ⟨trivial, ?_⟩; gi_at_call 54; refine (CallsIn.inRound l1 (callsIn_wide.2 hAt.out)).mono ?_; rintro e w2 ⟨rfl, hb2⟩; have hB2 := Lib.hid (hdr.trans (hb2.mono hdr.size)); have z8 := (hbx2.out w2 hB2.out).cell; clear hb2)
          | (gi_at_builtin; refine wpListIn_append_own_at _ rfl _ _ 60 rfl (w1.heap.size + 6) 3 i0 (.int .i64 0) 1 8 Tryz.underlying60 hi hz0 hz1 hz2 rfl (by decide) _ _ _ rfl ((hown2.out w2 hB2.out).alloc _) ⟨w2.heap.size, 0, none⟩ 1 1 [.int .i64 ((numV x : Nat) : Int)] rfl rfl (cell_one_new _ _ _) (by simp; rfl) hmax.out.1 hmax.out.2 (by have := hB2.out.size; simp; omega) ?_; intro v' w3 hown' hgrow hnil hloc; obtain ⟨A3, c3, rfl, -⟩ := own_slice hown'; obtain ⟨p1, p2, p3, p4⟩ := hput.out _ _ _ _ hB2.out hgrow hown'; have hc2 := p1.cell; have hf2 := p1.frozen; have hP := Lib.hid (And.intro p2 (And.intro p3 p4)); clear p1 p2 p3 p4 hnil hloc))
        obtain ⟨p2, p3, p4⟩ := hP.out
        have hps := p4.size
        refine ⟨hps, fun r hr => p4.block r (by omega) (by omega), Lib.hid (fun p hpp => ?_), ⟨_, p2, by simpa using p3⟩, (p4.block _ (by omega) (by omega)).trans g4, g5.trans (p4.below g5.size fun k hk => (by omega)), by omega⟩
        rcases List.mem_append.1 hpp with h1 | h1
        · exact g1.out p h1
        · rw [List.mem_singleton.1 h1]
          exact hmx
      · go_simp
        refine ⟨trivial, (callsIn_wide.2 (hmn.out _)).mono ?_⟩
        rintro e wv ⟨rfl, rfl⟩
        refine hK _ _ ?_
        clear hK K
        refine wpAnyIn_ready (rs := [0]) (by kernel_rfl) (by simp) ?_
        refine AllReadyIn.cons rfl (fun K hK => ?_) AllReadyIn.nil
        go_simp
        refine hK _ _ ?_
        clear hK K
        refine wpAnyIn_ready (rs := [3]) (by kernel_rfl) (by simp) ?_
        refine AllReadyIn.cons rfl (fun K hK => ?_) AllReadyIn.nil
        go_simp
        refine ⟨trivial, (callsIn_wide.2 (hmg.out V.drew)).mono ?_⟩
        rintro e wv ⟨rfl, rfl⟩
        refine hK _ _ ?_
        clear hK K
        refine wpAnyIn_done (by kernel_rfl) ?_ _
        obtain ⟨i0, hi, hz0, hz1, hz2⟩ := infoInt
        have hAt := Lib.hid (atoiT_any x V.drew hxf hmx)
        rw [hSx] at hAt
        have hmax : Hid (dn.length + 1 ≤ maxLen ∧ (dn.length + 1) * 8 ≤ 140737488355328) := Lib.hid (by
          have h1 := congrArg List.length hx
          simp only [List.length_append, List.length_cons] at h1
          have h2 := splitC_cnt pre
          have h3 := hNh.out
          unfold maxLen
          omega)
        have hdr : Below V.heap.size V V.drew := below_drew (Below.refl _ _)
        have hput := Lib.hid (fun (w2 w3 : World) (v' u : Value) (hb2 : Below V.heap.size V w2) (hg : (w2.alloc (.cells #[u] 3)).grownBy w3 v.ownBlock) (hown : w3.ownsRow (w1.heap.size + 6) 3 1 v' (dn.length + 1) ((dn.map fun p => .int .i64 ((numV p : Nat) : Int)) ++ [u])) => num_put hb2 g2 g3 hg hown)
        have hown2 : Hid (∀ (w2 : World), Below V.heap.size V w2 → w2.ownsRow (w1.heap.size + 6) 3 1 v dn.length (dn.map fun p => .int .i64 ((numV p : Nat) : Int))) := Lib.hid (fun w2 hb2 => ownsRow_kept g3 fun k e => hb2.block k (g3.lt k e).2)
        have hbx2 : Hid (∀ (w2 : World), Below V.heap.size V w2 → Boxed w2 w1.heap.size 60 v) := Lib.hid (fun w2 hb2 => (hb2.block _ g2.lt).trans g2)
        gi_wp2_with (first
          | (refine ⟨trivial, ?_⟩; gi_at_call 54; refine (CallsIn.inRound l1 (callsIn_wide.2 hAt.out)).mono ?_; rintro e w2 ⟨rfl, hb2⟩; have hB2 := Lib.hid (hdr.trans (hb2.mono hdr.size)); have z8 := (hbx2.out w2 hB2.out).cell; clear hb2)
          | (gi_at_builtin; refine wpListIn_append_own_at _ rfl _ _ 60 rfl (w1.heap.size + 6) 3 i0 (.int .i64 0) 1 8 Tryz.underlying60 hi hz0 hz1 hz2 rfl (by decide) _ _ _ rfl ((hown2.out w2 hB2.out).alloc _) ⟨w2.heap.size, 0, none⟩ 1 1 [.int .i64 ((numV x : Nat) : Int)] rfl rfl (cell_one_new _ _ _) (by simp; rfl) hmax.out.1 hmax.out.2 (by have := hB2.out.size; simp; omega) ?_; intro v' w3 hown' hgrow hnil hloc; obtain ⟨A3, c3, rfl, -⟩ := own_slice hown'; obtain ⟨p1, p2, p3, p4⟩ := hput.out _ _ _ _ hB2.out hgrow hown'; have hc2 := p1.cell; have hf2 := p1.frozen; have hP := Lib.hid (And.intro p2 (And.intro p3 p4)); clear p1 p2 p3 p4 hnil hloc))
        obtain ⟨p2, p3, p4⟩ := hP.out
        have hps := p4.size
        refine ⟨hps, fun r hr => p4.block r (by omega) (by omega), Lib.hid (fun p hpp => ?_), ⟨_, p2, by simpa using p3⟩, (p4.block _ (by omega) (by omega)).trans g4, g5.trans (p4.below g5.size fun k hk => (by omega)), by omega⟩
        rcases List.mem_append.1 hpp with h1 | h1
        · exact g1.out p h1
        · rw [List.mem_singleton.1 h1]
          exact hmx
  case done =>
    rintro D V hD hV2 ⟨g1, ⟨v, g2, g3⟩, g4, g5, g6⟩ hK
    have hne2 : ∀ k, v.ownBlock = some k → k ≠ D := by
      rintro k e rfl
      rcases g3.2 with ⟨hv, _⟩ | ⟨g, cap, cur, hv, _, hg, _⟩
      · rw [hv] at e; cases e
      · rw [hv] at e
        obtain rfl : g = k := by simpa [Value.ownBlock] using e
        rw [hg] at hK
        cases hK
    have hcut : cutN pre = some ((splitC pre).map numV) := by
      unfold cutN
      rw [if_neg hneh.out, if_pos (List.all_eq_true.2 g1.out)]
    have z := g2.cell
    have g3p : ((V.drew).putObj D (.deferred none)).ownsRow (w1.heap.size + 6) 3 1 v (splitC pre).length ((splitC pre).map fun p => .int .i64 ((numV p : Nat) : Int)) := ownsRow_kept g3 fun k e => World.putObj_heap_other (w := V.drew) (hne2 k e)
    obtain ⟨A3, c3, rfl, -, -, hrd⟩ := own_slice g3p
    have hnm : Hid (Nums ((V.drew).putObj D (.deferred none)) ((V.drew).putObj D (.deferred none)).heap.size A3 (splitC pre).length (((splitC pre).map numV).map fun x : Nat => (x : Int))) := Lib.hid (by
      unfold Nums
      rw [List.map_map, List.map_map]
      exact hrd)
    have hbf := Lib.hid (below_put (below_drew g5) (D := D) (by omega) (.deferred none))
    have hKd : (V.drew).heap[D]? = some (.deferred (some [])) := hK
    have hcuth := Lib.hid hcut
    clear hrd g3p g3 g1 hcut
    refine wpB_of_wp ?_
    go_wp2
    go_region
    all_goals
      go_wp2
      refine ⟨by simp, .inl ⟨_, _, rfl, run_takeDeferred hKd, ?_⟩⟩
      refine ⟨_, results_tmp2 rfl _ _ _, .inl ⟨_, hcuth.out, A3, _, c3, ?_, hnm.out, hbf.out⟩⟩
      simp [hSh.out.1]
  case pan =>
    rintro D V ch hD ⟨rfl, hBV, p, hp1, hp2⟩ hK
    refine ⟨by simp, .inl ⟨_, _, rfl, run_takeDeferred hK, ?_⟩⟩
    refine .inr ⟨?_, rfl, below_put hBV (by omega) _⟩
    unfold cutN
    rw [if_neg hneh.out, if_neg]
    intro hall
    have := List.all_eq_true.1 hall p hp1
    rw [hp2] at this
    cases this
end Go.Proofs.YtdfpifipkchmnaaGreatDoor
