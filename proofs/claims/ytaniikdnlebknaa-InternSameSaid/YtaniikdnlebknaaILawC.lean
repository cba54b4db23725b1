/- Proved here: the walk of InternSame. -/
import Derived.Test.YtaniikdnlebknaaILawD
import Derived.Deep.QuietTactic
import Derived.BigQuiet
namespace Go.Proofs.Ytaniikdnlebknaa
open Go.RowKit Go.Maps Go.WideMaps
set_option linter.unusedVariables false

theorem withAll_mem {s : List UInt8} {l : List (List UInt8)} : ∀ {ts : List (List UInt8)}, s ∈ l → s ∈ withAll ts l := by
  induction l with
  | nil => intro ts h; cases h
  | cons t r ih =>
    intro ts h
    rcases List.mem_cons.1 h with rfl | h
    · exact (withAll_pre r (withText ts s)).subset (withText_mem ts s)
    · exact ih h
theorem num_inj {ts : List (List UInt8)} {s t : List UInt8} (hs : s ∈ ts) (ht : t ∈ ts) (h : numOf ts s = numOf ts t) : s = t := by
  unfold numOf at h
  have h1 := List.getElem_idxOf (List.idxOf_lt_length_of_mem hs)
  have h2 := List.getElem_idxOf (List.idxOf_lt_length_of_mem ht)
  rw [← h1, ← h2]
  congr 1
theorem own_apart {w : World} {b1 b2 n m : Nat} {e1 e2 : TypeId} {v u : Value} {xs ys : List Value} (h : w.ownsRow b1 e1 1 v n xs) (k : w.ownsRow b2 e2 1 u m ys) (hne : e1 ≠ e2) : v.ownBlock = none ∨ v.ownBlock ≠ u.ownBlock := by
  rcases h.2 with ⟨rfl, _⟩ | ⟨g, cap, cur, rfl, _, hg, _⟩
  · exact .inl rfl
  · refine .inr fun e => ?_
    rcases k.2 with ⟨rfl, _⟩ | ⟨g', cap', cur', rfl, _, hg', _⟩
    · simp [Value.ownBlock] at e
    · simp only [Value.ownBlock, Option.some.injEq] at e
      subst e
      rw [hg] at hg'
      injection hg' with hg'
      simp at hg'
      exact hne hg'.2

/-- How far InternSame has come: the texts of k files, and their numbers. -/
def FlatIn (w2 wr : World) (tv iv : Value) (files : List (List (List UInt8))) (fin : List (List UInt8)) (k : Nat) : Prop :=
  wr.ownsRow w2.heap.size 9 1 tv (files.take k).flatten.length ((files.take k).flatten.map fun s => .string (str s)) ∧
    wr.ownsRow w2.heap.size 3 1 iv (files.take k).flatten.length ((files.take k).flatten.map fun s => .int .i64 (numOf fin s)) ∧ Below w2.heap.size w2 wr

theorem ints_one (fin l : List (List UInt8)) : ∀ u ∈ (l.map fun s => (numOf fin s : Int)).map (fun x => Value.int .i64 x), u.oneCell' = true := by
  intro u hu
  obtain ⟨b, _, rfl⟩ := List.mem_map.1 hu
  rfl

theorem flat_step {w2 wr wa wb : World} {tv iv tv' iv' : Value} {files : List (List (List UInt8))} {fin f : List (List UInt8)} {k : Nat} (hk : files[k]? = some f) (h : FlatIn w2 wr tv iv files fin k)
    (ht : wa.ownsRow w2.heap.size 9 1 tv' ((files.take k).flatten.length + f.length) (((files.take k).flatten.map fun s => .string (str s)) ++ f.map fun s => .string (str s))) (hga : wr.grownBy wa tv.ownBlock)
    (hi : wb.ownsRow w2.heap.size 3 1 iv' ((files.take k).flatten.length + f.length) (((files.take k).flatten.map fun s => .int .i64 (numOf fin s)) ++ (f.map fun s => (numOf fin s : Int)).map fun x => .int .i64 x)) (hgb : wa.grownBy wb iv.ownBlock) (hia : wa.ownsRow w2.heap.size 3 1 iv (files.take k).flatten.length ((files.take k).flatten.map fun s => .int .i64 (numOf fin s))) : FlatIn w2 wb tv' iv' files fin (k + 1) := by
  obtain ⟨h1, h2, hB⟩ := h
  have e : (files.take (k + 1)).flatten = (files.take k).flatten ++ f := by rw [take_at hk, List.flatten_append]; simp
  have hla := hga.size
  refine ⟨?_, ?_, (hB.grown hga hB.size (fun j e => (h1.lt j e).1)).grown hgb (by have := hB.size; omega) (fun j e => (h2.lt j e).1)⟩
  · rw [e, List.length_append, List.map_append]
    exact ht.kept hgb (own_apart ht hia (by decide))
  · rw [e, List.length_append, List.map_append]
    rw [List.map_map] at hi
    exact hi

set_option maxRecDepth 100000 in
set_option maxHeartbeats 4000000 in
theorem InternSame_walk (A : Option Addr) (n c : Nat) (rows : List (Option Addr × Nat × Nat)) (files : List (List (List UInt8))) (x y : Int) (w : World) (hA : ArgRows w A n c rows files) (hx : 0 ≤ x ∧ x ≤ 255) (hy : 0 ≤ y ∧ y ≤ 255) :
    Calls Try.prog 5 #[.slice A n c, .agg #[.int .u8 x, .int .u8 y]] w fun e w' => e = .returned (.bool true) ∧ Below w.heap.size w w' := by
  obtain ⟨hnc, hcm, hfl, hst⟩ := hA
  obtain ⟨x, rfl⟩ : ∃ z : Nat, x = z := ⟨x.toNat, by omega⟩
  obtain ⟨y, rfl⟩ : ∃ z : Nat, y = z := ⟨y.toNat, by omega⟩
  have hlen : files.length = n := by have := hst.1.1; have := hst.2.1; simp at *; omega
  have hn : n ≤ maxLen := by omega
  unfold maxLen at hcm
  have hB0 : Below w.heap.size w (w.alloc (.cells #[.int .u8 x, .int .u8 y] 40)) := (Below.refl _ _).alloc (Nat.le_refl _) _
  obtain ⟨fb, hfb⟩ : ∃ fb, fewF files = fb := ⟨_, rfl⟩
  have hF := fun (w' : World) (h : Rows2 w' w.heap.size A n rows files) => few_any A n c w.heap.size rows files w' hn (fun f hf => (hfl f hf).1) h
  rw [hfb] at hF
  cases fb
  · have hB0' := Lib.hid hB0
    clear hB0
    go_enter Try.func5, Try.ntmps5
    go_wp2_with fail
    refine (awake_any _).mono ?_
    rintro e w1 ⟨rfl, hB1⟩
    have hB01 : Below w.heap.size w w1 := hB0'.out.trans (hB1.mono hB0'.out.size)
    have hF1 := Lib.hid (hF w1 (hst.below hB01))
    clear hF hB1
    go_wp2_with (go_at_call 15; refine hF1.out.mono ?_; rintro e w' ⟨rfl, rfl⟩)
    go_ret
    exact ⟨rfl, hB01⟩
  · obtain ⟨h6, hf20⟩ := fewF_use hfb
    have hn6 : n ≤ 6 := by omega
    have hmore : ∀ {w' : World}, Below w.heap.size w w' → Rows2 w' w'.heap.size A n rows files := fun {w'} hB => by
      have h := hst.below hB
      exact ⟨Reads.more h.1 hB.size, h.2.1, fun k r ss h1 h2 => Strs.more (h.2.2 k r ss h1 h2) hB.size⟩
    have hAll := fun (w' : World) (hB : Below w.heap.size w w') => Lib.hid (All_any A n c rows files w' (hmore hB) (fun f hf s hs => by have := (hf20 f hf).2 s hs; unfold maxLen; omega) (by omega) (fun f hf => by have := (hf20 f hf).1; omega))
    have hsum : files.flatten.length ≤ 120 := by
      have h2 : files.flatten.length ≤ files.length * 20 := by
        rw [List.length_flatten]
        exact sum_le files 20 (fun f hf => (hf20 f hf).1)
      omega
    obtain ⟨fin, hfin⟩ : ∃ fin, fin = withAll [] files.flatten := ⟨_, rfl⟩
    rw [← hfin] at hAll
    have hfinh := Lib.hid hfin
    have hAll' := Lib.hid hAll
    have hFh := Lib.hid hF
    have hsth := Lib.hid hst
    have hlenh := Lib.hid hlen
    have hf20h := Lib.hid hf20
    have hB0' := Lib.hid hB0
    clear hf20 hfl hmore hAll hF hst hlen hfin hB0
    obtain ⟨i0, hi, hz0, hz1, hz2⟩ := info_parts info3
    obtain ⟨i1, gi, gz0, gz1, gz2⟩ := info_parts info9
    go_enter Try.func5, Try.ntmps5
    go_wp2_with fail
    refine (awake_any _).mono ?_
    rintro e w1 ⟨rfl, hB1⟩
    have hB01 : Below w.heap.size w w1 := hB0'.out.trans (hB1.mono hB0'.out.size)
    have hF1 := Lib.hid (hFh.out w1 (hsth.out.below hB01))
    have hbx : Hid (∀ j u, #[Value.int .u8 x, Value.int .u8 y][j]? = some u → w1.cell? ⟨w.heap.size, j, none⟩ = some u) := Lib.hid (fun j u hu => by
      rw [hB1.cell (p := ⟨w.heap.size, j, none⟩) (by simp), World.cell?_alloc_mark]; exact hu)
    go_wp2_with (first
      | (go_at_call 15; refine hF1.out.mono ?_; rintro e w' ⟨rfl, rfl⟩)
      | (go_at_call 16; refine (hAll'.out _ hB01).out.mono ?_; rintro e w2 ⟨Aa, na, ca, ra, rfl, hca, hma, hRa, hB2⟩; have hla := hRa.len; rw [show (numsL fin files).length = n from by simp [numsL, hlenh.out]] at hla; subst hla))
    have hB02 := hB01.trans (hB2.mono hB01.size)
    have hsz1 : w.heap.size < w1.heap.size := by have := hB1.size; simp at this; omega
    have hbx2 : Hid (∀ j u, #[Value.int .u8 x, Value.int .u8 y][j]? = some u → w2.cell? ⟨w.heap.size, j, none⟩ = some u) := Lib.hid (fun j u hu => by
      rw [hB2.cell (p := ⟨w.heap.size, j, none⟩) hsz1]; exact hbx.out j u hu)
    have hsz2 : w.heap.size < w2.heap.size := by have := hB2.size; omega
    clear hF1 hB2 hB1 hB01 hbx
    go_loopw [7, 8, 9] (fun st si i wr => ∃ (k : Nat) (tv iv : Value), k ≤ n ∧ i = .int .i64 k ∧ tv = st ∧ iv = si ∧ FlatIn w2 wr tv iv files fin k) (fun _ _ i _ => n - (intOf i).toNat)
    case atStart => exact ⟨0, _, _, Nat.zero_le _, rfl, rfl, rfl, World.ownsRow_nil _ _ _ _, World.ownsRow_nil _ _ _ _, .refl _ _⟩
    case round =>
      obtain ⟨k, tv, iv, hk, rfl, rfl, rfl, hN⟩ := hrel
      obtain ⟨wo, rfl⟩ : ∃ wo : World, wo = wr := ⟨_, rfl⟩
      have hNh := Lib.hid hN
      obtain ⟨htv, hiv, hBr⟩ := hN
      have hflen : Hid ((files.take k).flatten.length ≤ 120) := Lib.hid (by
        have : (files.take k).flatten.length ≤ files.flatten.length := by
          conv => rhs; rw [← List.take_append_drop k files, List.flatten_append, List.length_append]
          omega
        omega)
      by_cases hlt : k < n
      · obtain ⟨b, o, A1, n1, c1, f, rfl, hb, hf, hc0, hs1⟩ := hsth.out.at_ (k := k) hlt
        obtain ⟨b', o', A2, n2, c2, xs, rfl, hb', hx2, hd0, hs2⟩ := hRa.at_ (k := k) hlt
        obtain ⟨f', hf', rfl⟩ := numsL_at hx2
        rw [hf] at hf'
        injection hf' with hf'
        subst hf'
        have hl1 := hs1.len
        have hl2 : f.length = n2 := by have := hs2.len; simpa using this
        subst hl1
        subst hl2
        have hf20 := (hf20h.out f (List.mem_of_getElem? hf)).1
        have hcw : wo.cell? ⟨b, o + k, none⟩ = some (.slice A1 f.length c1) := by
          rw [hBr.cell (p := ⟨b, o + k, none⟩) (by show b < _; omega), hB02.cell (p := ⟨b, o + k, none⟩) hb]; exact hc0
        have hdw : ∀ (wa : World), wo.grownBy wa tv.ownBlock → wa.cell? ⟨b', o' + k, none⟩ = some (.slice A2 f.length c2) := fun wa hg => by
          rw [(hBr.grown hg hBr.size (fun j e => (htv.lt j e).1)).cell (p := ⟨b', o' + k, none⟩) hb']; exact hd0
        have hs1w : Strs wo w.heap.size A1 f.length f := (hs1.below hB02).below (hBr.mono (by omega))
        have hs2w : ∀ (wa : World), wo.grownBy wa tv.ownBlock → Nums wa w2.heap.size A2 f.length (f.map fun s => (numOf fin s : Int)) := fun wa hg => hs2.below (hBr.grown hg hBr.size (fun j e => (htv.lt j e).1))
        have hiva : ∀ (wa : World), wo.grownBy wa tv.ownBlock → wa.ownsRow w2.heap.size 3 1 iv (files.take k).flatten.length ((files.take k).flatten.map fun s => .int .i64 (numOf fin s)) := fun wa hg => hiv.kept hg (own_apart hiv htv (by decide))
        have hb1 : Hid ((files.take k).flatten.length + f.length ≤ maxLen ∧ ((files.take k).flatten.length + f.length) * 16 ≤ 140737488355328 ∧ ((files.take k).flatten.length + f.length) * 8 ≤ 140737488355328) := Lib.hid (by
          have := hflen.out
          unfold maxLen; omega)
        have hso := hBr.size
        have tok1 := trivial
        have hx2' := Lib.hid hx2
        have hdwh := Lib.hid hdw
        have hs1wh := Lib.hid hs1w
        have hs2wh := Lib.hid hs2w
        have hivah := Lib.hid hiva
        clear hx2 hd0 hc0 hs1 hs2 hdw hs1w hs2w hiva
        go_wp2_with (first
          | (at_builtin; have _t := tok1; refine wpList_append_reads _ rfl _ _ 22 rfl w2.heap.size 9 i1 (.string ⟨#[]⟩) 16 Try.underlying22 gi gz0 gz1 gz2 rfl tv _ _ rfl htv w.heap.size A1 f.length c1 _ rfl hs1wh.out (strs_one _) hb1.out.1 hb1.out.2.1 hso ?_; intro tv' wa hown1 hg1; clear tok1; have hda := hdwh.out wa hg1; have hsa : w2.heap.size ≤ wa.heap.size := Nat.le_trans hso hg1.size)
          | (at_builtin; refine wpList_append_reads _ rfl _ _ 39 rfl w2.heap.size 3 i0 (.int .i64 0) 8 Try.underlying39 hi hz0 hz1 hz2 rfl iv _ _ rfl (hivah.out wa hg1) w2.heap.size A2 f.length c2 _ rfl (hs2wh.out wa hg1) (ints_one _ _) hb1.out.1 hb1.out.2.2 hsa ?_; intro iv' wb hown2 hg2))
        go_roundw
        case rel => exact ⟨k + 1, tv', iv', by omega, by go_num, rfl, rfl, flat_step hf hNh.out hown1 hg1 hown2 hg2 (hivah.out wa hg1)⟩
        case measure => simp [intOf]; omega
      · obtain rfl : k = n := by omega
        rw [List.take_of_length_le (by rw [hlenh.out]; exact Nat.le_refl _)] at htv hiv
        obtain ⟨M, hM⟩ : ∃ M, M = files.flatten.length := ⟨_, rfl⟩
        rw [← hM] at htv hiv hsum
        have hMh := Lib.hid hM
        clear hM
        have hBend : Below w.heap.size w wo := hB02.trans (hBr.mono (by omega))
        clear hNh hflen
        obtain ⟨At, ct, rfl, _, _, hrt⟩ := own_slice htv
        obtain ⟨Ai, ci, rfl, _, _, hri⟩ := own_slice hiv
        clear htv hiv
        by_cases h0 : M = 0
        · subst h0
          go_wp2
          go_ret
          exact ⟨rfl, hBend⟩
        · have hMp : 0 < M := by omega
          have hMi : ((M : Int) == 0) = false := by simp; omega
          have hI : ((x : Int) % (M : Int)) = ((x % M : Nat) : Int) := rfl
          have hK : ((y : Int) % (M : Int)) = ((y % M : Nat) : Int) := rfl
          have hIlt : x % M < M := Nat.mod_lt _ hMp
          have hKlt : y % M < M := Nat.mod_lt _ hMp
          obtain ⟨I, hIe⟩ : ∃ I, I = x % M := ⟨_, rfl⟩
          obtain ⟨K, hKe⟩ : ∃ K, K = y % M := ⟨_, rfl⟩
          rw [← hIe] at hI hIlt
          rw [← hKe] at hK hKlt
          clear hIe hKe
          have hc0 : wo.cell? ⟨w.heap.size, 0, none⟩ = some (.int .u8 x) := by rw [hBr.cell (p := ⟨w.heap.size, 0, none⟩) hsz2]; exact hbx2.out 0 _ rfl
          have hc1 : wo.cell? ⟨w.heap.size, 1, none⟩ = some (.int .u8 y) := by rw [hBr.cell (p := ⟨w.heap.size, 1, none⟩) hsz2]; exact hbx2.out 1 _ rfl
          obtain ⟨bt, ot, si, rfl, _, hsi, hti⟩ := (show Strs wo wo.heap.size At M files.flatten from hrt).at_ hIlt
          obtain ⟨bt', ot', sk, e1, _, hsk, htk⟩ := (show Strs wo wo.heap.size (some ⟨bt, ot, none⟩) M files.flatten from hrt).at_ hKlt
          injection e1 with e1; injection e1 with e1 e2; subst e1; subst e2
          have hri' : Nums wo wo.heap.size Ai M (files.flatten.map fun s => (numOf fin s : Int)) := by
            unfold Nums
            rw [List.map_map]
            exact hri
          obtain ⟨bi, oi, ni, rfl, _, hni, hii⟩ := hri'.at_ hIlt
          obtain ⟨bi', oi', nk, e1, _, hnk, hik⟩ := hri'.at_ hKlt
          injection e1 with e1; injection e1 with e1 e2; subst e1; subst e2
          rw [List.getElem?_map, hsi] at hni
          rw [List.getElem?_map, hsk] at hnk
          simp only [Option.map_some, Option.some.injEq] at hni hnk
          have hmi : si ∈ fin := by rw [hfinh.out]; exact withAll_mem (List.mem_of_getElem? hsi)
          have hmk : sk ∈ fin := by rw [hfinh.out]; exact withAll_mem (List.mem_of_getElem? hsk)
          have hbb : ∃ B, ((str si).toList == (str sk).toList) = B ∧ (ni == nk) = B := by
            by_cases e : si = sk
            · subst e
              exact ⟨true, by simp, by rw [← hni, ← hnk]; simp⟩
            · refine ⟨false, ?_, ?_⟩
              · rw [ByteArray.toList_eq, ByteArray.toList_eq, str_data, str_data]
                simpa using e
              · rw [← hni, ← hnk]
                have : ¬ numOf fin si = numOf fin sk := fun h => e (num_inj hmi hmk h)
                simp; omega
          obtain ⟨B, hB1, hB2⟩ := hbb
          have hI0 : (0 : Int) ≤ (I : Int) := by omega
          have hI1 : (I : Int) < (M : Int) := by omega
          have hK0 : (0 : Int) ≤ (K : Int) := by omega
          have hK1 : (K : Int) < (M : Int) := by omega
          clear hri hri' hrt hsi hsk hni hnk hmi hmk
          cases B
          all_goals
            go_wp2
            go_quiet (fail)
            go_wp2
            go_ret
            exact ⟨rfl, below_drewN hBend _⟩
end Go.Proofs.Ytaniikdnlebknaa
