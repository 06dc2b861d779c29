/- Package topo: walk. -/
import Derived.Test.YtbehobojgeganaaTop3
namespace Go.Proofs.Ytbehobojgeganaa
open Go.RowKit
set_option linter.unusedVariables false
set_option linter.unusedSimpArgs false
set_option linter.unnecessarySimpa false
set_option maxRecDepth 100000


theorem wayR_f (f : Int) : ∀ (x : List Int) (b a : Int) (w : Way), w ∈ wayR f b a x → w.f = f
  | [], _, _, w, h => by simp [wayR] at h
  | t :: r, b, a, w, h => by
    rw [wayR] at h
    rcases List.mem_cons.1 h with rfl | h
    · rfl
    · exact wayR_f f r a t w h
theorem apart_add {P : List Way} {w : Way} (h : Apart P) (k : ∀ x ∈ P, apart x w) : Apart (P ++ [w]) := by
  unfold Apart
  rw [List.pairwise_append]
  exact ⟨h, List.pairwise_singleton _ _, fun x hx y hy => by rw [List.mem_singleton.1 hy]; exact k x hx⟩
theorem apart_fst {P Q : List Way} (h : Apart (P ++ Q)) : Apart P := (List.pairwise_append.1 h).1
theorem waysF_in {f : Int} {x : List Int} (hn : 2 ≤ x.length) {w : Way} (h : w ∈ waysF f x) : w.a ∈ x ∧ w.b ∈ x ∧ w.c ∈ x := by
  obtain ⟨i, hi, rfl⟩ := (mem_waysF hn).1 h
  have g : ∀ k, k < x.length → x.getD k 0 ∈ x := fun k hk => by
    rw [List.getD_eq_getElem?_getD, List.getElem?_eq_getElem hk]; exact List.getElem_mem hk
  exact ⟨g _ (Nat.mod_lt _ (by omega)), g _ hi, g _ (Nat.mod_lt _ (by omega))⟩
theorem wpL_len_la {ops : Array Oper} {rest : List Oper} {o : Oper} {a : Act} {Q : Exit → Act → World → Prop} (W : World) (hg : o.guard = none) (m : Operand) (hop : o.op = Op.call { callee := Callee.builtin Builtin.len, args := #[m], argTypes := #[102] }) (B : Nat) (P : List Way) (hm : a.eval m = .map (some B)) (h : LaM W B P)
    (hK : ∀ M : List Int, M.Nodup → (∀ v, v ∈ M ↔ ∃ x ∈ P, x.b = v) → wpList Try.prog ops Q rest (a.put o.dst (.int .i64 (M.length : Int))) W) : wpList Try.prog ops Q (o :: rest) a W := by
  obtain ⟨D, ho, hd⟩ := h
  obtain ⟨M, h1, h2, h3⟩ := hd.size
  refine wpList_len_own W hg m _ hop 3 3 Try.underlying102 (plainElem Try.prog 3) B P.length D hm ho ?_
  rw [h3]
  exact hK M h1 h2
theorem walk_count {V : Int} {fs : List (List Int)} (hL : Long fs) (hR : InR V (waysL 0 fs)) (hA : Apart (waysL 0 fs)) (M : List Int) (h1 : M.Nodup) (h2 : ∀ v, v ∈ M ↔ ∃ x ∈ waysL 0 fs, x.b = v) : (M.length : Int) = V ↔ WalkOk V fs := by
  have hsub : ∀ v ∈ M, v ∈ (List.range V.toNat).map Int.ofNat := fun v hv => by
    obtain ⟨x, hx, rfl⟩ := (h2 v).1 hv
    have := hR x hx
    rw [List.mem_map]
    exact ⟨x.b.toNat, by rw [List.mem_range]; omega, by simp; omega⟩
  have hn : ((List.range V.toNat).map Int.ofNat).Nodup := by
    rw [List.nodup_iff_pairwise_ne, List.pairwise_map]
    have := List.nodup_range (n := V.toNat)
    rw [List.nodup_iff_pairwise_ne] at this
    exact this.imp fun h e => h (by simp at e; omega)
  constructor
  · intro h
    refine ⟨hL, hR, hA, by omega, fun v h0 hv => ?_⟩
    have := nodup_all M _ h1 hsub (by simp; omega) v (by rw [List.mem_map]; exact ⟨v.toNat, by rw [List.mem_range]; omega, by simp; omega⟩)
    obtain ⟨x, hx, e⟩ := (h2 v).1 this
    exact ⟨x, hx, e⟩
  · intro h
    have e1 := nodup_le M _ h1 hsub
    have e2 := nodup_le _ M hn fun v hv => by
      obtain ⟨k, hk, rfl⟩ := List.mem_map.1 hv
      rw [List.mem_range] at hk
      exact (h2 _).2 (h.all _ (by simp) (by simp; omega))
    have := h.pos
    simp at e1 e2
    omega
set_option maxHeartbeats 4000000 in
theorem walk_any (W : World) (V : Int) (k : Nat) (fs : List (List Int)) (A : Option Addr) (hA : FL W A fs) (hV : i64B V) (hi : ∀ x ∈ fs, ∀ y ∈ x, i64B y) (hlen : (waysL 0 fs).length < 1099511627776) (hfl : fs.length < 1099511627776) (hxl : ∀ x ∈ fs, x.length < 1099511627776) :
    Calls Try.prog 40 #[.int .i64 V, .slice A fs.length k] W fun e W' => Below W.heap.size W W' ∧ ((¬ WalkOk V fs ∧ ∃ m, e = .returned (.tuple #[m, .bool false])) ∨ (WalkOk V fs ∧ ∃ B, e = .returned (.tuple #[.map (some B), .bool true]) ∧ GoM W' B (waysL 0 fs))) := by
  have hmm := @run_makeMap Try.prog
  go_enter Try.func40, Try.ntmps40
  go_wp2
  clear hmm
  have hGo0 : GoM ((W.alloc (.map #[] 0)).alloc (.map #[] 0)) W.heap.size [] := (GoM.made W).below (bel_alloc (Below.refl _ _) _)
  have hLa0 : LaM ((W.alloc (.map #[] 0)).alloc (.map #[] 0)) (W.heap.size + 1) [] := by simpa using LaM.made (W.alloc (.map #[] 0))
  have hb0 : Below W.heap.size W ((W.alloc (.map #[] 0)).alloc (.map #[] 0)) := bel_alloc (bel_alloc (Below.refl _ _) _) _
  go_loopw [22] (fun i wr => ∃ j : Nat, i = .int .i64 (j : Int) ∧ j ≤ fs.length ∧ Below W.heap.size W wr ∧ Long (fs.take j) ∧ InR V (waysL 0 (fs.take j)) ∧ Apart (waysL 0 (fs.take j)) ∧ GoM wr W.heap.size (waysL 0 (fs.take j)) ∧ LaM wr (W.heap.size + 1) (waysL 0 (fs.take j))) (fun i _ => fs.length - (intOf i).toNat)
  case atStart => exact ⟨0, rfl, by omega, hb0, by simp [Long], by simp [waysL, InR], by simp [waysL, Apart], by simpa [waysL] using hGo0, by simpa [waysL] using hLa0⟩
  case round =>
    obtain ⟨j, rfl, hj, hbel, hL, hR, hAp, hGo, hLa⟩ := hrel
    clear hGo0 hLa0 hb0
    by_cases hlt : j < fs.length
    · obtain ⟨b, off, Bf, m, rfl, hbl, hcell, hIL⟩ := hA.at_ j hlt
      have hcr := (hbel.cell (p := ⟨b, off + j, none⟩) hbl).trans hcell
      have hbl2 : b < wr.heap.size := Nat.lt_of_lt_of_le hbl hbel.size
      have hxb := hxl _ (List.getElem_mem hlt)
      have hxi := hi _ (List.getElem_mem hlt)
      have hsp := waysL_split fs 0 j hlt
      have htk : waysL 0 (fs.take (j + 1)) = waysL 0 (fs.take j) ++ waysF (j : Int) fs[j] := by
        rw [List.take_succ_eq_append_getElem hlt, waysL_append]
        simp [waysL, Nat.min_eq_left (Nat.le_of_lt hlt)]
      have hLtk : Long (fs.take (j + 1)) ↔ Long (fs.take j) ∧ 3 ≤ fs[j].length := by
        rw [List.take_succ_eq_append_getElem hlt]
        unfold Long
        simp only [List.mem_append, List.mem_singleton]
        constructor
        · intro h; exact ⟨fun x hx => h x (.inl hx), h _ (.inr rfl)⟩
        · rintro ⟨h1, h2⟩ x (hx | rfl)
          · exact h1 x hx
          · exact h2
      have hLong3 : WalkOk V fs → 3 ≤ fs[j].length := fun h => h.long _ (List.getElem_mem hlt)
      generalize hxe : fs[j] = x at *
      clear hcell
      have k0 : (0 : Int) ≤ (j : Int) := by omega
      have k1 : (j : Int) < (fs.length : Int) := by omega
      by_cases h3 : x.length < 3
      · have h3i : (x.length : Int) < 3 := by omega
        clear hGo hLa hIL
        go_wp2
        go_ret2
        exact ⟨hbel, .inl ⟨fun h => by have := hLong3 h; omega, _, rfl⟩⟩
      · have h3i : ¬ (x.length : Int) < 3 := by omega
        obtain ⟨b2, off2, rfl, hb2, hc2⟩ := (hIL.below hbel).at_ (x.length - 1) (by omega)
        obtain ⟨b3, off3, e3, hb3, hc3⟩ := (hIL.below hbel).at_ (x.length - 2) (by omega)
        obtain ⟨rfl, rfl⟩ : b2 = b3 ∧ off2 = off3 := by simpa using e3
        have n1 : ((x.length : Int) - 1) = ((x.length - 1 : Nat) : Int) := by omega
        have n2 : ((x.length : Int) - 2) = ((x.length - 2 : Nat) : Int) := by omega
        go_upto_region 8 with (fail)
        refine wp_region_grow (by kernel_rfl) (by kernel_rfl) ?_
        repeat (go_big_quiet_step ((fail)))
        refine wpQuiet_nil ?_
        rintro _ ⟨xg, rfl⟩
        have hGo1 := hGo.below (xg.kept _)
        have hLa1 := hLa.below (xg.kept _)
        have hbel1 := bel_grow hbel xg
        change GoM (grow wr xg) _ _ at hGo1
        change LaM (grow wr xg) _ _ at hLa1
        clear hGo hLa hbel hcr hbl2 hb2 hc2 hb3 hc3 e3
        generalize grow wr xg = W1 at *
        have hgd1 : x[x.length - 1]'(by omega) = x.getD (x.length - 1) 0 := by rw [List.getD_eq_getElem?_getD, List.getElem?_eq_getElem (by omega)]; rfl
        have hgd2 : x[x.length - 2]'(by omega) = x.getD (x.length - 2) 0 := by rw [List.getD_eq_getElem?_getD, List.getElem?_eq_getElem (by omega)]; rfl
        have hxm1 := hxi _ (List.getElem_mem (show x.length - 1 < x.length by omega))
        have hxm2 := hxi _ (List.getElem_mem (show x.length - 2 < x.length by omega))
        generalize x[x.length - 1]'(by omega) = x1 at *
        generalize x[x.length - 2]'(by omega) = x2 at *
        replace hgd1 := Lib.hid hgd1
        replace hgd2 := Lib.hid hgd2
        go_wp2
        go_loopw [10, 11, 44] (fun bv av i wq => ∃ (q : Nat) (bi ai : Int) (pre : List Way), i = .int .i64 (q : Int) ∧ q ≤ x.length ∧ bv = .int .i64 bi ∧ av = .int .i64 ai ∧ i64B ai ∧ waysF (j : Int) x = pre ++ wayR (j : Int) bi ai (x.drop q) ∧ Below W.heap.size W wq ∧ InR V (waysL 0 (fs.take j) ++ pre) ∧ Apart (waysL 0 (fs.take j) ++ pre) ∧ GoM wq W.heap.size (waysL 0 (fs.take j) ++ pre) ∧ LaM wq (W.heap.size + 1) (waysL 0 (fs.take j) ++ pre)) (fun _ _ i _ => x.length - (intOf i).toNat)
        case atStart => exact ⟨0, x2, x1, [], rfl, by omega, rfl, rfl, hxm1, by rw [hgd1.out, hgd2.out]; rfl, hbel1, by simpa using hR, by simpa using hAp, by simpa using hGo1, by simpa using hLa1⟩
        case round =>
          obtain ⟨q, bi, ai, pre, rfl, hq, rfl, rfl, hai, hpre, hbelq, hRq, hApq, hGo, hLa⟩ := hrel
          clear hGo1 hLa1 hbel1 hR hAp
          by_cases hlq : q < x.length
          · obtain ⟨b9, o9, e9, hl9, hc9⟩ := hIL.at_ q hlq
            obtain ⟨rfl, rfl⟩ : b2 = b9 ∧ off2 = o9 := by simpa using e9
            have hcq := (hbelq.cell (p := ⟨b2, off2 + q, none⟩) hl9).trans hc9
            have hl9q : b2 < wr.heap.size := Nat.lt_of_lt_of_le hl9 hbelq.size
            rw [List.drop_eq_getElem_cons hlq, wayR] at hpre
            have htt := hxi _ (List.getElem_mem hlq)
            generalize hte : x[q] = tt at *
            have hal : waysL 0 fs = (waysL 0 (fs.take j) ++ pre ++ [⟨ai, tt, (j : Int), bi⟩]) ++ (wayR (j : Int) ai tt (x.drop (q + 1)) ++ waysL (0 + j + 1) (fs.drop (j + 1))) := by
              rw [hsp]
              simp only [Nat.zero_add, hpre]
              simp
            have hPl : (waysL 0 (fs.take j) ++ pre).length < 9223372036854775807 := by
              rw [hal] at hlen
              simp only [List.length_append] at hlen ⊢
              omega
            have hle : ∀ y ∈ waysL 0 (fs.take j) ++ pre, y.b = tt → y.f ≤ (j : Int) := fun y hy _ => by
              have hm : y ∈ waysL 0 (fs.take (j + 1)) := by
                rw [htk, hpre]
                rcases List.mem_append.1 hy with hy | hy
                · exact List.mem_append_left _ hy
                · exact List.mem_append_right _ (List.mem_append_left _ hy)
              obtain ⟨jj, hjj, hmm2⟩ := (mem_waysL _ _ _).1 hm
              have hf := wayR_f _ _ _ _ _ hmm2
              have : jj < j + 1 := by simp only [List.length_take] at hjj; omega
              omega
            have hji : i64B (j : Int) := by unfold i64B; omega
            have BAD : (tt < 0 ∨ V ≤ tt ∨ (∃ y ∈ waysL 0 (fs.take j) ++ pre, y.b = tt ∧ y.f = (j : Int)) ∨ look (waysL 0 (fs.take j) ++ pre) ai tt ≠ none) → ¬ WalkOk V fs := by
              intro h ok
              have h1 := ok.inr
              have h2 := ok.apart
              rw [hal] at h1 h2
              have h3 := h1 ⟨ai, tt, (j : Int), bi⟩ (by simp)
              simp only at h3
              have h4 := List.pairwise_append.1 (apart_fst h2)
              rcases h with h | h | ⟨y, hy, h5, h6⟩ | h
              · omega
              · omega
              · exact (h4.2.2 y hy ⟨ai, tt, (j : Int), bi⟩ (by simp)).1 ⟨h5, h6⟩
              · cases hlk : look (waysL 0 (fs.take j) ++ pre) ai tt with
                | none => exact h hlk
                | some y =>
                  obtain ⟨hy, h5, h6⟩ := look_some hlk
                  exact (h4.2.2 y hy ⟨ai, tt, (j : Int), bi⟩ (by simp)).2 ⟨h5, h6⟩
            replace BAD := Lib.hid BAD
            have hpre9 := Lib.hid (show waysF (j : Int) x = (pre ++ [⟨ai, tt, (j : Int), bi⟩]) ++ wayR (j : Int) ai tt (x.drop (q + 1)) by rw [hpre]; simp)
            replace hsp := Lib.hid hsp
            replace htk := Lib.hid htk
            replace hal := Lib.hid hal
            replace hRq := Lib.hid hRq
            replace hApq := Lib.hid hApq
            clear hpre
            have q0 : (0 : Int) ≤ (q : Int) := by omega
            have q1 : (q : Int) < (x.length : Int) := by omega
            go_upto_region 14 with (first | (at_lookup; (refine wpL_look_la _ rfl _ _ rfl (W.heap.size + 1) _ rfl hLa tt rfl htt ?_); intro gg met hm1 hm2) | (at_lookup; (refine wpL_look_go _ rfl _ _ rfl W.heap.size _ rfl hGo ai tt rfl hai htt ?_)) | fail)
            have hGo2 := hGo.below (bel_alloc (Below.refl _ _) (.cells #[.int .i64 (gF (look (waysL 0 (fs.take j) ++ pre) ai tt)), .int .i64 (gC (look (waysL 0 (fs.take j) ++ pre) ai tt))] 104))
            have hLa2 := hLa.below (bel_alloc (Below.refl _ _) (.cells #[.int .i64 (gF (look (waysL 0 (fs.take j) ++ pre) ai tt)), .int .i64 (gC (look (waysL 0 (fs.take j) ++ pre) ai tt))] 104))
            have hb2 := bel_alloc hbelq (.cells #[.int .i64 (gF (look (waysL 0 (fs.take j) ++ pre) ai tt)), .int .i64 (gC (look (waysL 0 (fs.take j) ++ pre) ai tt))] 104)
            clear hGo hLa hbelq hcq hl9q hl9 hc9
            generalize wr.alloc (.cells #[.int .i64 (gF (look (waysL 0 (fs.take j) ++ pre) ai tt)), .int .i64 (gC (look (waysL 0 (fs.take j) ++ pre) ai tt))] 104) = W2 at *
            by_cases d1 : tt < 0
            · clear hGo2 hLa2
              go_wp2
              go_ret2
              exact ⟨hb2, .inl ⟨BAD.out (.inl d1), _, rfl⟩⟩
            · by_cases d2 : V ≤ tt
              · clear hGo2 hLa2
                go_wp2
                go_ret2
                exact ⟨hb2, .inl ⟨BAD.out (.inr (.inl d2)), _, rfl⟩⟩
              · by_cases d3 : met = true ∧ gg = (j : Int)
                · obtain ⟨rfl, rfl⟩ := d3
                  obtain ⟨y, hy, h5, h6, _⟩ := hm1 rfl
                  clear hGo2 hLa2
                  go_wp2
                  go_ret2
                  exact ⟨hb2, .inl ⟨BAD.out (.inr (.inr (.inl ⟨y, hy, h5, h6⟩))), _, rfl⟩⟩
                · have d3b : (met && (gg == (j : Int))) = false := by
                    cases met <;> simp_all
                  have hNF : ∀ y ∈ waysL 0 (fs.take j) ++ pre, ¬(y.b = tt ∧ y.f = (j : Int)) := fun y hy hh => by
                    cases met with
                    | false => exact hm2 rfl y hy hh.1
                    | true =>
                      obtain ⟨z, hz, h5, h6, h7⟩ := hm1 rfl
                      have h8 := h7 y hy hh.1
                      have h9 := hle z hz h5
                      exact d3 ⟨rfl, by omega⟩
                  cases hlk : look (waysL 0 (fs.take j) ++ pre) ai tt with
                  | some y9 =>
                    clear hGo2 hLa2
                    have hbd : look (waysL 0 (fs.take j) ++ pre) ai tt ≠ none := by rw [hlk]; simp
                    replace hbd := Lib.hid hbd
                    clear hm1 hm2 hNF
                    cases met with
                    | false =>
                      go_wp2
                      go_ret2
                      exact ⟨hb2, .inl ⟨BAD.out (.inr (.inr (.inr hbd.out))), _, rfl⟩⟩
                    | true =>
                      have d4 : (gg == (j : Int)) = false := by simpa using d3b
                      go_wp2
                      go_ret2
                      exact ⟨hb2, .inl ⟨BAD.out (.inr (.inr (.inr hbd.out))), _, rfl⟩⟩
                  | none =>
                    have hRn := Lib.hid (show InR V (waysL 0 (fs.take j) ++ (pre ++ [⟨ai, tt, (j : Int), bi⟩])) by
                      rw [← List.append_assoc]
                      intro y hy
                      rcases List.mem_append.1 hy with hy | hy
                      · exact hRq.out y hy
                      · rw [List.mem_singleton.1 hy]; exact ⟨by simp only; omega, by simp only; omega⟩)
                    have hAn := Lib.hid (show Apart (waysL 0 (fs.take j) ++ (pre ++ [⟨ai, tt, (j : Int), bi⟩])) by
                      rw [← List.append_assoc]
                      exact apart_add hApq.out fun y hy => ⟨hNF y hy, look_none hlk y hy⟩)
                    clear hm1 hm2 hNF BAD
                    cases met with
                    | false =>
                      go_wp2_with (first | (at_mapUpdate; (refine wpL_put_la _ rfl _ _ _ rfl (W.heap.size + 1) _ rfl hLa2 ⟨ai, tt, (j : Int), bi⟩ rfl rfl htt hji hle hPl ?_); intro W3 hLa3 hg3; have hGo3 := hGo2.kept hg3 (by simp); have hb3 := bel_turn hb2 hg3 (by omega); clear hLa2 hGo2 hg3 hb2) | (at_mapUpdate; (refine wpL_put_go _ rfl _ _ _ rfl W.heap.size _ rfl hGo3 ⟨ai, tt, (j : Int), bi⟩ rfl rfl hai htt hlk hPl ?_); intro W4 hGo4 hg4; have hLa4 := hLa3.kept hg4 (by simp); have hb4 := bel_turn hb3 hg4 (by omega); clear hLa3 hGo3 hg4 hb3) | fail)
                      go_roundw
                      case rel => exact ⟨q + 1, _, _, pre ++ [⟨ai, tt, (j : Int), bi⟩], by go_num, by omega, rfl, rfl, htt, hpre9.out, hb4, hRn.out, hAn.out, by rw [← List.append_assoc]; exact hGo4, by rw [← List.append_assoc]; exact hLa4⟩
                      case measure => simp [intOf]; omega
                    | true =>
                      have d4 : (gg == (j : Int)) = false := by simpa using d3b
                      go_wp2_with (first | (at_mapUpdate; (refine wpL_put_la _ rfl _ _ _ rfl (W.heap.size + 1) _ rfl hLa2 ⟨ai, tt, (j : Int), bi⟩ rfl rfl htt hji hle hPl ?_); intro W3 hLa3 hg3; have hGo3 := hGo2.kept hg3 (by simp); have hb3 := bel_turn hb2 hg3 (by omega); clear hLa2 hGo2 hg3 hb2) | (at_mapUpdate; (refine wpL_put_go _ rfl _ _ _ rfl W.heap.size _ rfl hGo3 ⟨ai, tt, (j : Int), bi⟩ rfl rfl hai htt hlk hPl ?_); intro W4 hGo4 hg4; have hLa4 := hLa3.kept hg4 (by simp); have hb4 := bel_turn hb3 hg4 (by omega); clear hLa3 hGo3 hg4 hb3) | fail)
                      go_roundw
                      case rel => exact ⟨q + 1, _, _, pre ++ [⟨ai, tt, (j : Int), bi⟩], by go_num, by omega, rfl, rfl, htt, hpre9.out, hb4, hRn.out, hAn.out, by rw [← List.append_assoc]; exact hGo4, by rw [← List.append_assoc]; exact hLa4⟩
                      case measure => simp [intOf]; omega
          · obtain rfl : q = x.length := by omega
            have hpre2 : waysF (j : Int) x = pre := by simpa [wayR] using hpre
            subst hpre2
            go_wp2
            go_roundw
            case rel => exact ⟨j + 1, by go_num, by omega, hbelq, hLtk.2 ⟨hL, by omega⟩, by rw [htk]; exact hRq, by rw [htk]; exact hApq, by rw [htk]; exact hGo, by rw [htk]; exact hLa⟩
            case measure => simp [intOf]; omega
    · obtain rfl : j = fs.length := by omega
      rw [List.take_length] at hL hR hAp hGo hLa
      go_upto_region 21 with (fail)
      go_wp2_with (first | (at_len; (refine wpL_len_la _ rfl _ rfl (W.heap.size + 1) _ rfl hLa ?_); intro M hM1 hM2) | fail)
      go_ret2
      have hiff := walk_count hL hR hAp M hM1 hM2
      refine ⟨hbel, ?_⟩
      by_cases hc : (M.length : Int) = V
      · exact .inr ⟨hiff.1 hc, W.heap.size, by (have e9 : ((M.length : Int) == V) = true := by simpa using hc); rw [e9]; rfl, hGo⟩
      · exact .inl ⟨fun h => hc (hiff.2 h), .map (some W.heap.size), by (have e9 : ((M.length : Int) == V) = false := by simpa using hc); rw [e9]; rfl⟩
end Go.Proofs.Ytbehobojgeganaa