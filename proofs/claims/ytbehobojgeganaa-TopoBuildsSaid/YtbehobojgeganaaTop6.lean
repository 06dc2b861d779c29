/- Package topo: edges. -/
import Derived.Test.YtbehobojgeganaaTop5
namespace Go.Proofs.Ytbehobojgeganaa
open Go.RowKit
set_option linter.unusedVariables false
set_option linter.unusedSimpArgs false
set_option linter.unnecessarySimpa false
set_option maxRecDepth 100000


theorem grown_of {W W' : World} (hb : Below W.heap.size W W') : W.grownBy W' none := ⟨hb.os, hb.tape, hb.output, hb.size, fun i hi _ => hb.block i hi⟩
theorem GoRg.below {W W' : World} {B r : Nat} {P dn : List Way} {cnt : Nat} (h : GoRg W B r P dn cnt) (hb : Below W.heap.size W W') : GoRg W' B r P dn cnt := h.kept (grown_of hb) (by simp) (by simp)
/-- The ways that tell an edge. -/
def tells (al : List Way) (w : Way) : Prop := w.a < w.b ∨ look al w.b w.a = none
/-- The edges that the ways gone by have told. -/
structure EdL (al dn : List Way) (L : List (Int × Int)) : Prop where
  mem : ∀ p, p ∈ L ↔ ∃ w ∈ dn, tells al w ∧ p = (min w.a w.b, max w.a w.b)
  nodup : L.Nodup
theorem EdL.nil (al : List Way) : EdL al [] [] := ⟨by simp, List.nodup_nil⟩
theorem EdL.skip {al dn : List Way} {L : List (Int × Int)} (h : EdL al dn L) (w : Way) (hw : ¬ tells al w) : EdL al (dn ++ [w]) L := ⟨fun p => by
  rw [h.mem]
  constructor
  · rintro ⟨u, hu, h2⟩; exact ⟨u, List.mem_append_left _ hu, h2⟩
  · rintro ⟨u, hu, h2, h3⟩
    rcases List.mem_append.1 hu with hu | hu
    · exact ⟨u, hu, h2, h3⟩
    · rw [List.mem_singleton.1 hu] at h2; exact absurd h2 hw, h.nodup⟩
theorem EdL.add {al dn : List Way} {L : List (Int × Int)} (h : EdL al dn L) (hA : Apart al) (hne : ∀ u ∈ al, u.a ≠ u.b) (hs : ∀ u ∈ dn, u ∈ al) (w : Way) (hwa : w ∈ al) (hnd : w ∉ dn) (hw : tells al w) : EdL al (dn ++ [w]) (L ++ [(min w.a w.b, max w.a w.b)]) where
  mem p := by
    rw [List.mem_append, h.mem, List.mem_singleton]
    constructor
    · rintro (⟨u, hu, h2⟩ | rfl)
      · exact ⟨u, List.mem_append_left _ hu, h2⟩
      · exact ⟨w, by simp, hw, rfl⟩
    · rintro ⟨u, hu, h2, h3⟩
      rcases List.mem_append.1 hu with hu | hu
      · exact .inl ⟨u, hu, h2, h3⟩
      · rw [List.mem_singleton.1 hu] at h3; exact .inr h3
  nodup := by
    rw [List.nodup_append]
    refine ⟨h.nodup, by simp, ?_⟩
    intro x hx y hy e
    rw [List.mem_singleton.1 hy] at e
    obtain ⟨u, hu, ht, rfl⟩ := (h.mem x).1 hx
    have e1 := congrArg Prod.fst e
    have e2 := congrArg Prod.snd e
    simp only at e1 e2
    have n1 := hne u (hs u hu)
    have n2 := hne w hwa
    have hcase : (u.a = w.a ∧ u.b = w.b) ∨ (u.a = w.b ∧ u.b = w.a) := by omega
    rcases hcase with ⟨c1, c2⟩ | ⟨c1, c2⟩
    · rw [hA.key (hs u hu) hwa c1 c2] at hu; exact hnd hu
    · have l1 := look_mem hA hwa
      have l2 := look_mem hA (hs u hu)
      unfold tells at ht hw
      rw [c1, c2] at l2
      rw [c1, c2, l1] at ht
      rw [l2] at hw
      rcases ht with ht | ht
      · rcases hw with hw | hw
        · omega
        · cases hw
      · cases ht
theorem EdL.done {al dn : List Way} {L : List (Int × Int)} (h : EdL al dn L) (hne : ∀ u ∈ al, u.a ≠ u.b) (hall : ∀ w ∈ al, w ∈ dn) (hs : ∀ u ∈ dn, u ∈ al) : EdgesR al ((srt L).map fun p => edOf al p.1 p.2) where
  sorted := by
    rw [List.pairwise_map]
    exact (srt_pw L h.nodup).imp fun {x y} hxy => hxy
  mem e := by
    rw [List.mem_map]
    constructor
    · rintro ⟨p, hp, rfl⟩
      obtain ⟨w, hw, _, rfl⟩ := (h.mem p).1 ((srt_perm L).mem_iff.1 hp)
      exact ⟨w, hs w hw, rfl⟩
    · rintro ⟨w, hw, rfl⟩
      by_cases ht : tells al w
      · exact ⟨_, (srt_perm L).mem_iff.2 ((h.mem _).2 ⟨w, hall w hw, ht, rfl⟩), rfl⟩
      · unfold tells at ht
        cases hl : look al w.b w.a with
        | none => exact absurd (.inr hl) ht
        | some u =>
          obtain ⟨hu, ha, hb⟩ := look_some hl
          have n2 := hne w hw
          have hlt : u.a < u.b := by
            have : ¬ w.a < w.b := fun h => ht (.inl h)
            omega
          refine ⟨_, (srt_perm L).mem_iff.2 ((h.mem (min u.a u.b, max u.a u.b)).2 ⟨u, hall u hu, .inl hlt, rfl⟩), ?_⟩
          rw [ha, hb]
          simp only [Int.min_comm w.b w.a, Int.max_comm w.b w.a]
theorem infoE : (Try.prog.info? 38).map (fun i => (i.zero, i.size, i.bytes)) = some (some (.agg #[.int .i64 0, .int .i64 0, .int .i64 0, .int .i64 0]), 4, 32) := by kernel_rfl
theorem cell_four_new (W : World) (a b c d : Value) (t : TypeId) : ∀ j u, [a, b, c, d][j]? = some u → (W.alloc (.cells #[a, b, c, d] t)).cell? ((⟨W.heap.size, 0, none⟩ : Addr).add j) = some u := by
  intro j u hj
  match j, hj with
  | 0, hj => simp at hj; subst hj; simp [Addr.add]
  | 1, hj => simp at hj; subst hj; simp [Addr.add]
  | 2, hj => simp at hj; subst hj; simp [Addr.add]
  | 3, hj => simp at hj; subst hj; simp [Addr.add]
theorem own_kept {W W' : World} {base : Nat} {e : TypeId} {size n : Nat} {v : Value} {xs : List Value} {row : Option Nat} (h : W.ownsRow base e size v n xs) (hg : W.grownBy W' row) (hne : ∀ k, v.ownBlock = some k → row ≠ some k) : W'.ownsRow base e size v n xs := by
  obtain ⟨h0, h | ⟨g, cap, cur, rfl, h2, h3, h4⟩⟩ := h
  · exact ⟨h0, .inl h⟩
  · exact ⟨h0, .inr ⟨g, cap, cur, rfl, h2, (hg.block g (Array.getElem?_eq_some_iff.1 h3).1 (fun e => hne g rfl e.symm)).trans h3, h4⟩⟩


set_option maxHeartbeats 2000000 in
theorem edges_any (W : World) (B : Nat) (n : Int) (fs : List (List Int)) (ok : WalkOk n fs) (hM : GoM W B (waysL 0 fs)) (hlen : (waysL 0 fs).length < 1099511627776) :
    Calls Try.prog 43 #[.map (some B)] W fun e W' => ∃ L A c, EdgesR (waysL 0 fs) ((srt L).map fun p => edOf (waysL 0 fs) p.1 p.2) ∧ e = .returned (.slice A L.length c) ∧ Below W.heap.size W W' ∧ W'.ownsRow W.heap.size 38 4 (.slice A L.length c) L.length (edCs (waysL 0 fs) (srt L)) := by
  obtain ⟨i0, hi0, hz0, hz1, hz2⟩ := info_parts infoE
  have hBW := hM.lt
  go_enter Try.func43, Try.ntmps43
  go_wp2_with (first | (at_range; (refine wpL_range_go _ rfl _ rfl B _ ok.apart rfl hM ?_); intro W1 cnt0 hrg0 hg0 hs0) | fail)
  go_frame
  have hbel0 : Below W.heap.size W W1 := bel_own (Below.refl _ _) hg0 (by intro k h; cases h)
  go_loopw [3] (fun lv wr => ∃ dn cnt L A c, GoRg wr B W.heap.size (waysL 0 fs) dn cnt ∧ lv = .slice A L.length c ∧ wr.ownsRow (W.heap.size + 1) 38 4 (.slice A L.length c) L.length (edCs (waysL 0 fs) L) ∧ Below W.heap.size W wr ∧ EdL (waysL 0 fs) dn L ∧ (∀ u ∈ dn, u ∈ waysL 0 fs) ∧ L.length ≤ dn.length ∧ dn.Nodup) (fun _ wr => wr.rangeLeft B W.heap.size)
  case atStart => exact ⟨[], cnt0, [], _, _, hrg0, rfl, World.ownsRow_nil _ _ _ _, hbel0, EdL.nil _, by simp, by simp, List.nodup_nil⟩
  case round =>
    obtain ⟨dn, cnt, L, A, c, hrg, rfl, hown, hbel, hE, hs, hll, hnd⟩ := hrel
    clear hrg0 hg0 hs0 hbel0
    go_upto_region 4 with (first | (at_next; (refine wpL_next_go _ rfl _ rfl B W.heap.size _ dn ok.apart rfl cnt hrg ?_ ?_)) | fail)
    · intro hall
      have hLl : L.length < 4611686018427387904 := by
        have := nodup_le dn (waysL 0 fs) hnd hs
        omega
      have hob := own_block hown
      have hsort : Calls Try.prog 61 #[.slice A L.length c, .func (.func 62) #[] #[]] wr fun e W' => e = .returned (.tuple #[]) ∧ Below W.heap.size W W' ∧ W'.ownsRow (W.heap.size + 1) 38 4 (.slice A L.length c) L.length (edCs (waysL 0 fs) (srt L)) := by
        rcases hown.2 with ⟨e, h0⟩ | ⟨g, cap, cur, e, _⟩
        · obtain rfl : L = [] := List.eq_nil_of_length_eq_zero h0
          obtain ⟨rfl, rfl⟩ : A = none ∧ c = 0 := by simpa using e
          have hh : Calls Try.prog 61 #[.slice none 0 0, .func (.func 62) #[] #[]] wr fun e W' => e = .returned (.tuple #[]) ∧ W' = wr := AnyF.slices_SortFunc_none { Try.sort61 with } none 0 _ wr
          refine hh.mono ?_
          rintro e W' ⟨he, rfl⟩
          exact ⟨he, hbel, by simpa [srt] using hown⟩
        · obtain ⟨rfl, rfl⟩ : A = some ⟨g, 0, none⟩ ∧ c = cap := by simpa using e
          refine (sort_any (waysL 0 fs) wr (W.heap.size + 1) g c L hown hLl).mono ?_
          rintro e W' ⟨he, hg, ho⟩
          exact ⟨he, bel_own hbel hg (fun k hk => by have := (hob k (by rw [← hk]; rfl)).1; omega), ho⟩
      have hED := hE.done (fun u hu => ok.ne hu) hall hs
      replace hED := Lib.hid hED
      clear hall hE hs hnd hll hob hrg hown hbel
      go_wp2_with (first | (go_at_call 61; (refine hsort.mono ?_); rintro e W2 ⟨rfl, hb2, ho2⟩) | fail)
      go_ret
      exact ⟨L, A, c, hED.out, rfl, hb2, own_base ho2 (by omega)⟩
    · intro w Wn cnt' hw hwn hrg2 hlt hgr hsz hen
      have hob := own_block hown
      have hown2 := own_kept hown hgr (fun k hk => by have := (hob k hk).1; intro e; cases e; omega)
      have hbel2 := bel_own hbel hgr (fun k hk => by cases hk; omega)
      clear hown hbel hgr
      go_upto_region 5 with (fail)
      have hrng : i64B w.a ∧ i64B w.b := by obtain ⟨D, _, hd⟩ := hM; exact hd.rng w hw
      have hbox : Blk (Wn.alloc (.cells #[.int .i64 w.a, .int .i64 w.b] 88)) wr.heap.size 88 #[.int .i64 w.a, .int .i64 w.b] := Blk.new _ _ _ _ hsz.symm
      have hb4 := bel_alloc hbel2 (.cells #[.int .i64 w.a, .int .i64 w.b] 88)
      have hown4 := hown2.alloc (.cells #[.int .i64 w.a, .int .i64 w.b] 88)
      have hrg4 := hrg2.below (bel_alloc (Below.refl _ _) (.cells #[.int .i64 w.a, .int .i64 w.b] 88))
      have hGW : W.heap.size + 1 ≤ wr.heap.size := by have := hrg2.lt; omega
      clear hen hown2 hrg2 hbel2
      generalize Wn.alloc (.cells #[.int .i64 w.a, .int .i64 w.b] 88) = W4 at *
      have hLB : L.length + 1 < 1099511627777 := by
        have h1 := nodup_le (dn ++ [w]) (waysL 0 fs) (by rw [List.nodup_append]; exact ⟨hnd, by simp, fun x hx y hy e => hwn (by rw [List.mem_singleton.1 hy] at e; rw [← e]; exact hx)⟩) (fun u hu => (List.mem_append.1 hu).elim (hs u) (fun h => by rw [List.mem_singleton.1 h]; exact hw))
        simp only [List.length_append, List.length_singleton] at h1
        omega
      have hnd2 : (dn ++ [w]).Nodup := by rw [List.nodup_append]; exact ⟨hnd, by simp, fun x hx y hy e => hwn (by rw [List.mem_singleton.1 hy] at e; rw [← e]; exact hx)⟩
      have hs2 : ∀ u ∈ dn ++ [w], u ∈ waysL 0 fs := fun u hu => (List.mem_append.1 hu).elim (hs u) (fun h => by rw [List.mem_singleton.1 h]; exact hw)
      have hrl := hrg.left
      generalize wr.heap.size = G at *
      have c0 : W4.cell? ⟨G, 0, none⟩ = some (.int .i64 w.a) := hbox.cell 0
      have c1 : W4.cell? ⟨G, 1, none⟩ = some (.int .i64 w.b) := hbox.cell 1
      have cl := hbox.lt
      have hM4 := hrg4.go
      have hne := ok.ne hw
      replace hnd2 := Lib.hid hnd2
      replace hs2 := Lib.hid hs2
      replace hrl := Lib.hid hrl
      by_cases hlt2 : w.a < w.b
      · have hE2 := Lib.hid (hE.add ok.apart (fun u hu => ok.ne hu) hs w hw hwn (.inl hlt2))
        go_upto_region 6 with (fail)
        refine wp_region_grow (by kernel_rfl) (by kernel_rfl) ?_
        repeat (go_big_quiet_step ((fail)))
        refine wpQuiet_nil ?_
        rintro _ ⟨xg, rfl⟩
        have hb6 := bel_grow hb4 xg
        have own6 := own_lay hown4 (xg.kept _)
        have hrg6 := GoRg.below hrg4 (xg.kept _)
        have hM6 := hrg6.go
        change GoM (grow W4 xg) B _ at hM6
        change GoRg (grow W4 xg) _ _ _ _ _ at hrg6
        change (grow W4 xg).ownsRow _ _ _ _ _ _ at own6
        generalize grow W4 xg = W6 at *
        have hmn : i64B (min w.a w.b) := by obtain ⟨h1, h2⟩ := hrng; unfold i64B at *; omega
        have hmx : i64B (max w.a w.b) := by obtain ⟨h1, h2⟩ := hrng; unfold i64B at *; omega
        generalize min w.a w.b = mn at *
        generalize max w.a w.b = mx at *
        have hob6 := Lib.hid (own_block own6)
        clear hE hlt2 hrg hrng
        clear hM4 c0 c1 cl hbox
        go_wp2_with (first
          | (go_at_call 60; (with_reducible refine (face_any W6 B _ hM6 mn mx hmn hmx).mono ?_); rintro e W7 ⟨rfl, hb7⟩; have hM7 := hM6.below hb7; have own7 := own_lay own6 hb7; have hrg7 := hrg6.below hb7; have hb67 := bel_trans hb6 hb7; clear hb6 own6 hrg6 hM6)
          | (go_at_call 60; (with_reducible refine (face_any W7 B _ hM7 mx mn hmx hmn).mono ?_); rintro e W8 ⟨rfl, hb8⟩; have own8 := own_lay own7 hb8; have hrg8 := hrg7.below hb8; have hb68 := bel_trans hb67 hb8; clear hb67 own7 hrg7 hM7)
          | (at_builtin; (refine wpList_append_own _ rfl _ _ 26 rfl (W.heap.size + 1) 38 i0 _ 4 32 Try.underlying26 hi0 hz0 hz1 hz2 rfl (by decide) _ _ _ rfl (own8.alloc _) ⟨W8.heap.size, 0, none⟩ 1 1 [.int .i64 mn, .int .i64 mx, .int .i64 (faceOf (waysL 0 fs) mn mx), .int .i64 (faceOf (waysL 0 fs) mx mn)] rfl rfl (cell_four_new _ _ _ _ _ _) (fun x hx => by simp at hx; rcases hx with rfl | rfl | rfl | rfl <;> rfl) (by unfold maxLen; omega) (by omega) (by have h1 := hrg8.lt; simp; omega) ?_); intro v9 W9 hown9 hg9 hnil; have hg9b : W8.grownBy W9 (Value.slice A L.length c).ownBlock := (World.grownBy_alloc _ _ _).trans hg9; clear hg9 hnil; obtain ⟨A9, c9, rfl⟩ := own_form hown9) | fail)
        have hob8 := own_block own8
        have hr8 := hrg8.lt
        have hrg9 := hrg8.kept hg9b (fun e => by have := (hob8 _ e.symm).1; omega) (fun e => by have := (hob8 _ e.symm).1; omega)
        have hb9 := bel_own hb68 hg9b (fun k hk => by have := (hob8 k hk).1; omega)
        go_roundw
        case rel => exact ⟨dn ++ [w], cnt', L ++ [(mn, mx)], A9, c9, hrg9, by simp, by simpa [edCs_snoc, encE] using hown9, hb9, hE2.out, hs2.out, by simpa using hll, hnd2.out⟩
        case measure => rw [hrg9.left, hrl.out]; exact hlt
      · have hfb : (decide (w.a < w.b)) = false := by simpa using hlt2
        have hfa : faceOf (waysL 0 fs) w.b w.a = -1 ∨ faceOf (waysL 0 fs) w.b w.a ≠ -1 := by omega
        rcases hfa with hfa | hfa
        · have hlk := (faceOf_neg ok.long w.b w.a).1 hfa
          have hE2 := Lib.hid (hE.add ok.apart (fun u hu => ok.ne hu) hs w hw hwn (.inr hlk))
          go_upto_region 6 with (first | (go_at_call 60; (with_reducible refine (face_any W4 B _ hM4 w.b w.a hrng.2 hrng.1).mono ?_); rintro e W5 ⟨rfl, hb5⟩; have c5 := (hb5.cell (p := ⟨G, 0, none⟩) cl).trans c0; have c6 := (hb5.cell (p := ⟨G, 1, none⟩) cl).trans c1; have cl5 := Nat.lt_of_lt_of_le cl hb5.size; have own5 := own_lay hown4 hb5; have hrg5 := hrg4.below hb5; have hb5b := bel_trans hb4 hb5; rw [hfa]) | fail)
          refine wp_region_grow (by kernel_rfl) (by kernel_rfl) ?_
          repeat (go_big_quiet_step ((fail)))
          refine wpQuiet_nil ?_
          rintro _ ⟨xg, rfl⟩
          have hb6 := bel_grow hb5b xg
          have own6 := own_lay own5 (xg.kept _)
          have hrg6 := GoRg.below hrg5 (xg.kept _)
          have hM6 := hrg6.go
          change GoM (grow W5 xg) B _ at hM6
          change GoRg (grow W5 xg) _ _ _ _ _ at hrg6
          change (grow W5 xg).ownsRow _ _ _ _ _ _ at own6
          generalize grow W5 xg = W6 at *
          have hmn : i64B (min w.a w.b) := by obtain ⟨h1, h2⟩ := hrng; unfold i64B at *; omega
          have hmx : i64B (max w.a w.b) := by obtain ⟨h1, h2⟩ := hrng; unfold i64B at *; omega
          generalize min w.a w.b = mn at *
          generalize max w.a w.b = mx at *
          have hob6 := Lib.hid (own_block own6)
          clear hE hlt2 hrg hrng
          clear hM4 c0 c1 cl hbox c5 c6 cl5 hb5 hrg4 hown4 hb4 hfa hlk hfb
          go_wp2_with (first
            | (go_at_call 60; (with_reducible refine (face_any W6 B _ hM6 mn mx hmn hmx).mono ?_); rintro e W7 ⟨rfl, hb7⟩; have hM7 := hM6.below hb7; have own7 := own_lay own6 hb7; have hrg7 := hrg6.below hb7; have hb67 := bel_trans hb6 hb7; clear hb6 own6 hrg6 hM6)
            | (go_at_call 60; (with_reducible refine (face_any W7 B _ hM7 mx mn hmx hmn).mono ?_); rintro e W8 ⟨rfl, hb8⟩; have own8 := own_lay own7 hb8; have hrg8 := hrg7.below hb8; have hb68 := bel_trans hb67 hb8; clear hb67 own7 hrg7 hM7)
            | (at_builtin; (refine wpList_append_own _ rfl _ _ 26 rfl (W.heap.size + 1) 38 i0 _ 4 32 Try.underlying26 hi0 hz0 hz1 hz2 rfl (by decide) _ _ _ rfl (own8.alloc _) ⟨W8.heap.size, 0, none⟩ 1 1 [.int .i64 mn, .int .i64 mx, .int .i64 (faceOf (waysL 0 fs) mn mx), .int .i64 (faceOf (waysL 0 fs) mx mn)] rfl rfl (cell_four_new _ _ _ _ _ _) (fun x hx => by simp at hx; rcases hx with rfl | rfl | rfl | rfl <;> rfl) (by unfold maxLen; omega) (by omega) (by have h1 := hrg8.lt; simp; omega) ?_); intro v9 W9 hown9 hg9 hnil; have hg9b : W8.grownBy W9 (Value.slice A L.length c).ownBlock := (World.grownBy_alloc _ _ _).trans hg9; clear hg9 hnil; obtain ⟨A9, c9, rfl⟩ := own_form hown9) | fail)
          have hob8 := own_block own8
          have hr8 := hrg8.lt
          have hrg9 := hrg8.kept hg9b (fun e => by have := (hob8 _ e.symm).1; omega) (fun e => by have := (hob8 _ e.symm).1; omega)
          have hb9 := bel_own hb68 hg9b (fun k hk => by have := (hob8 k hk).1; omega)
          go_roundw
          case rel => exact ⟨dn ++ [w], cnt', L ++ [(mn, mx)], A9, c9, hrg9, by simp, by simpa [edCs_snoc, encE] using hown9, hb9, hE2.out, hs2.out, by simpa using hll, hnd2.out⟩
          case measure => rw [hrg9.left, hrl.out]; exact hlt
        · have hlk : look (waysL 0 fs) w.b w.a ≠ none := fun h => hfa ((faceOf_neg ok.long w.b w.a).2 h)
          have hE2 := Lib.hid (hE.skip w (fun h => h.elim hlt2 hlk))
          have hfc : (faceOf (waysL 0 fs) w.b w.a == -1) = false := by simpa using hfa
          clear hfa
          go_wp2_with (first | (go_at_call 60; (with_reducible refine (face_any W4 B _ hM4 w.b w.a hrng.2 hrng.1).mono ?_); rintro e W5 ⟨rfl, hb5⟩; have own5 := own_lay hown4 hb5; have hrg5 := hrg4.below hb5; have hb5b := bel_trans hb4 hb5; generalize faceOf (waysL 0 fs) w.b w.a = fa at *) | fail)
          go_roundw
          case rel => exact ⟨dn ++ [w], cnt', L, A, c, hrg5, rfl, own5, hb5b, hE2.out, hs2.out, by simp; omega, hnd2.out⟩
          case measure => rw [hrg5.left, hrl.out]; exact hlt
end Go.Proofs.Ytbehobojgeganaa