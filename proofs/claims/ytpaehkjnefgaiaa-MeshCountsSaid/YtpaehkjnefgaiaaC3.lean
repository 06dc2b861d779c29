/- Package weave: all spots laid. Package weave: all triangles. Package weave: Weave. Package relievoref13: a spot's number; two spots compared. Package relievoref13: Weave, its list of spots. Package relievoref13: Weave, up to its list of spots. -/
import Derived.RegionTactic
import Derived.BigRegion
import Derived.Test.YtpaehkjnefgaiaaC2
namespace Go.Proofs.Ytpaehkjnefgaiaa
open Go.RowKit
set_option linter.unusedVariables false
set_option linter.unusedSimpArgs false
set_option linter.unnecessarySimpa false
set_option maxRecDepth 100000
/-- The web, its row of spots wherever it lies. -/
def WebS (W : World) (base g B : Nat) (r : Nat → Nat) (R : Nat) (P : List Spt) (T : List NTri) (tv : Value) (X : Nat → Prop) : Prop := ∃ sv, WebB W base g B r R P P T sv tv X
theorem WebS.grow {W : World} {base g B : Nat} {r : Nat → Nat} {R : Nat} {P : List Spt} {T : List NTri} {tv : Value} {X : Nat → Prop} (h : WebS W base g B r R P T tv X) (x : More) : WebS (grow W x) base g B r R P T tv X ∧ KX X W (Go.Proofs.Ytpaehkjnefgaiaa.grow W x) := by
  obtain ⟨sv, h⟩ := h; exact ⟨⟨sv, (h.below (x.kept W)).1⟩, (h.below (x.kept W)).2⟩
theorem WebS.most {W : World} {base g B : Nat} {r : Nat → Nat} {R : Nat} {P : List Spt} {T : List NTri} {tv : Value} {X : Nat → Prop} (h : WebS W base g B r R P T tv X) : W.cell? ⟨g, 8, none⟩ = some (.int .i64 (R : Int)) ∧ g < W.heap.size ∧ ∀ k, k < 4 → W.cell? ⟨g, k * 2 + 1, none⟩ = some (.int .i64 (r k : Int)) ∧ W.cell? ⟨g, k * 2, none⟩ = some (.int .i64 (k : Int)) := by
  obtain ⟨sv, h⟩ := h; exact ⟨h.blk.cell 8, h.blk.lt, fun k hk => web_part h.blk k hk⟩
theorem spot_S {W : World} {base g B : Nat} {r : Nat → Nat} {R : Nat} {P : List Spt} {T : List NTri} {tv : Value} {X : Nat → Prop} (h : WebS W base g B r R P T tv X) (s : Spt) (hs : rngS s) (hn : s ∉ P) (hl : P.length < 100000) :
    Calls Try.prog 77 #[.pointer (some ⟨g, 0, none⟩), sV s] W fun e W' => e = .returned (.tuple #[]) ∧ KX X W W' ∧ WebS W' base g B r R (P ++ [s]) T tv X := by
  obtain ⟨sv, h⟩ := h
  exact spot_any W base g B r R P T sv tv X h s hs hn hl
theorem rng_cor {k : Nat} (hk : k < 4) : rngS (corS k) := by unfold rngS corS i64W; simp only; omega
theorem rng_edg {k i : Nat} (hk : k < 4) (hi : i ≤ 16) : rngS (edgS k i) := by unfold rngS edgS i64W; simp only; omega
theorem rng_inn {a b : Nat} (ha : a ≤ 16) (hb : b ≤ 16) : rngS (innS a b) := by unfold rngS innS i64W; simp only; omega
theorem mem_cors {n : Nat} {s : Spt} (h : s ∈ corsS n) : ∃ k, k < n ∧ s = corS k := by
  unfold corsS at h
  obtain ⟨i, h1, h2⟩ := mem_upTo.1 h
  exact ⟨i, h1, List.mem_singleton.1 h2⟩
theorem mem_edge {k n : Nat} {s : Spt} (h : s ∈ edgeS k n) : ∃ i, 1 ≤ i ∧ i ≤ n ∧ s = edgS k i := by
  unfold edgeS at h
  obtain ⟨i, h1, h2⟩ := mem_upTo.1 h
  exact ⟨i + 1, by omega, by omega, List.mem_singleton.1 h2⟩
theorem mem_edges {r : Nat → Nat} {n : Nat} {s : Spt} (h : s ∈ edgesS r n) : ∃ k i, k < n ∧ s = edgS k i := by
  unfold edgesS at h
  obtain ⟨k, h1, h2⟩ := mem_upTo.1 h
  obtain ⟨i, _, _, h3⟩ := mem_edge h2
  exact ⟨k, i, h1, h3⟩
theorem mem_row {b n : Nat} {s : Spt} (h : s ∈ rowS b n) : ∃ a, 1 ≤ a ∧ a ≤ n ∧ s = innS a (b + 1) := by
  unfold rowS at h
  obtain ⟨i, h1, h2⟩ := mem_upTo.1 h
  exact ⟨i + 1, by omega, by omega, List.mem_singleton.1 h2⟩
theorem mem_rows {R n : Nat} {s : Spt} (h : s ∈ rowsS R n) : ∃ a b, b ≤ n ∧ s = innS a b := by
  unfold rowsS at h
  obtain ⟨b, h1, h2⟩ := mem_upTo.1 h
  obtain ⟨a, _, _, h3⟩ := mem_row h2
  exact ⟨a, b + 1, by omega, h3⟩
theorem cor_new (k : Nat) : corS k ∉ corsS k := fun h => by
  obtain ⟨i, h1, h2⟩ := mem_cors h
  have := corS_inj h2
  omega
theorem edg_new {r : Nat → Nat} {k i : Nat} : edgS k (i + 1) ∉ corsS 4 ++ edgesS r k ++ edgeS k i := fun h => by
  rw [List.mem_append, List.mem_append] at h
  rcases h with (h | h) | h
  · obtain ⟨j, _, h2⟩ := mem_cors h
    unfold edgS corS at h2; simp at h2
  · obtain ⟨j, u, h1, h2⟩ := mem_edges h
    have := edgS_inj h2; omega
  · obtain ⟨j, _, h1, h2⟩ := mem_edge h
    have := edgS_inj h2; omega
theorem inn_new {r : Nat → Nat} {R a b : Nat} : innS (a + 1) (b + 1) ∉ corsS 4 ++ edgesS r 4 ++ rowsS R b ++ rowS b a := fun h => by
  rw [List.mem_append, List.mem_append, List.mem_append] at h
  rcases h with ((h | h) | h) | h
  · obtain ⟨j, _, h2⟩ := mem_cors h
    unfold innS corS at h2; simp at h2
  · obtain ⟨j, u, h1, h2⟩ := mem_edges h
    unfold innS edgS at h2; simp at h2
  · obtain ⟨j, u, h1, h2⟩ := mem_rows h
    have := innS_inj h2; omega
  · obtain ⟨j, _, h1, h2⟩ := mem_row h
    have := innS_inj h2; omega
theorem edges_len_le {r : Nat → Nat} (h : ∀ k, k < 4 → 1 ≤ r k ∧ r k ≤ 16) : ∀ n, n ≤ 4 → (edgesS r n).length ≤ n * 16
  | 0, _ => by simp [edgesS, upTo]
  | n + 1, hn => by
    have := edges_len_le h n (by omega)
    have h2 := (h n (by omega)).2
    show (edgesS r n ++ edgeS n (r n - 1)).length ≤ _
    rw [List.length_append, edge_len]
    omega
theorem rows_len_le {R n : Nat} (hR : R ≤ 16) (hn : n ≤ 16) : (rowsS R n).length ≤ 256 := by
  rw [rows_len]
  exact Nat.le_trans (Nat.mul_le_mul hn (show R - 1 ≤ 16 by omega)) (by omega)
set_option maxHeartbeats 4000000 in
theorem lay_any (W : World) (base g B : Nat) (r : Nat → Nat) (R : Nat) (tv : Value) (X : Nat → Prop) (h : WebS W base g B r R [] [] tv X) (hr : ∀ k, k < 4 → 1 ≤ r k ∧ r k ≤ 16) (hR : 1 ≤ R) (hR2 : R ≤ 16) :
    Calls Try.prog 67 #[.pointer (some ⟨g, 0, none⟩)] W fun e W' => e = .returned (.tuple #[]) ∧ KX X W W' ∧ WebS W' base g B r R (spotsR r R) [] tv X := by
  have kC := corner_G
  have kI := inner_G
  replace hr := Lib.hid hr
  go_enter Try.func67, Try.ntmps67
  go_upto_region 1 with (fail)
  go_wp2
  go_loopw [7] (fun kv wr => ∃ k : Nat, kv = .int .i64 (k : Int) ∧ k ≤ 4 ∧ WebS wr base g B r R (corsS k) [] tv X ∧ KX X W wr) (fun kv _ => 4 - (intOf kv).toNat)
  case atStart => exact ⟨0, rfl, by omega, h, KX.refl _ _⟩
  case round =>
    obtain ⟨k, rfl, hk, hS, kr⟩ := hrel
    by_cases hk4 : k < 4
    · have cS := fun x : More => spot_S (hS.grow x).1 (corS k) (rng_cor hk4) (cor_new k) (by rw [cors_len]; omega)
      have k2 := kC (k : Int)
      have q9 : (k : Int) < 4 := by omega
      have q0 : (0 : Int) ≤ (k : Int) := by omega
      replace cS := Lib.hid cS
      go_wp2_with (first | (go_at_call 78; (with_reducible refine (k2.at_ _).mono ?_); rintro e w' ⟨rfl, xg, rfl⟩) | (go_at_call 77; (refine (cS.out _).mono ?_); rintro e w3 ⟨rfl, k3, hS3⟩) | fail)
      go_roundw
      case rel => exact ⟨k + 1, by go_num, by omega, hS3, (kr.trans (hS.grow xg).2).trans k3⟩
      case measure => simp [intOf]; omega
    · obtain rfl : k = 4 := by omega
      rw [show ((4 : Nat) : Int) = 4 from rfl]
      have hlenE := edges_len_le hr.out
      replace hlenE := Lib.hid hlenE
      go_upto_region 5 with (fail)
      go_wp2
      go_loopw [15] (fun kv wr => ∃ k : Nat, kv = .int .i64 (k : Int) ∧ k ≤ 4 ∧ WebS wr base g B r R (corsS 4 ++ edgesS r k) [] tv X ∧ KX X W wr) (fun kv _ => 4 - (intOf kv).toNat)
      case atStart => exact ⟨0, rfl, by omega, by simpa [edgesS, upTo] using hS, kr⟩
      case round =>
        obtain ⟨k, rfl, hk, hS, kr⟩ := hrel
        by_cases hk4 : k < 4
        · have q9 : (k : Int) < 4 := by omega
          have q0 : (0 : Int) ≤ (k : Int) := by omega
          have hrk := hr.out k hk4
          go_upto_region 8 with (fail)
          go_wp2
          go_loopw [4] (fun iv wr => ∃ i : Nat, iv = .int .i64 ((i : Int) + 1) ∧ i + 1 ≤ r k ∧ WebS wr base g B r R (corsS 4 ++ edgesS r k ++ edgeS k i) [] tv X ∧ KX X W wr) (fun iv _ => 20 - (intOf iv).toNat)
          case atStart => exact ⟨0, rfl, by omega, by simpa [edgeS, upTo] using hS, kr⟩
          case round =>
            obtain ⟨i, rfl, hi, hSi, kri⟩ := hrel
            have hc := hSi.most.2.2 k hk4
            have lg := hSi.most.2.1
            obtain ⟨c1, c0⟩ := hc
            by_cases hlt : i + 1 < r k
            · have hlen : (corsS 4 ++ edgesS r k ++ edgeS k i).length < 100000 := by
                rw [List.length_append, List.length_append, cors_len, edge_len]
                have := hlenE.out k hk
                omega
              have cS := fun x : More => spot_S (hSi.grow x).1 (edgS k (i + 1)) (rng_edg hk4 (by omega)) edg_new hlen
              have kO := souter_G k (r k) (i + 1) hk4 hrk.1 (by omega) hrk.2
              rw [out_mid (by omega) hlt, show ((i + 1 : Nat) : Int) = (i : Int) + 1 by omega] at kO
              replace cS := Lib.hid cS
              have e2 := Lib.hid (show r k = r k from rfl)
              generalize hrke : (r k : Int) = rk at *
              have q3 : (i : Int) + 1 < rk := by omega
              replace hrke := Lib.hid hrke
              go_wp2_with (first | (go_at_call 79; (with_reducible refine (kO.at_ _).mono ?_); rintro e w' ⟨rfl, xg, rfl⟩) | (go_at_call 77; (refine (cS.out _).mono ?_); rintro e w3 ⟨rfl, k3, hS3⟩) | fail)
              go_roundw
              case rel =>
                refine ⟨i + 1, by go_num, by omega, ?_, (kri.trans (hSi.grow xg).2).trans k3⟩
                rw [List.append_assoc] at hS3
                exact hS3
              case measure => simp [intOf]; omega
            · have e9 : i = r k - 1 := by omega
              rw [e9] at hSi
              have e8 : (i : Int) + 1 = (r k : Int) := by omega
              rw [e8]
              clear e9 hi hlt e8
              go_wp2
              go_roundw
              case rel =>
                refine ⟨k + 1, by go_num, by omega, ?_, kri⟩
                rw [List.append_assoc] at hSi
                exact hSi
              case measure => simp [intOf]; omega
        · obtain rfl : k = 4 := by omega
          rw [show ((4 : Nat) : Int) = 4 from rfl]
          have hlen4 := hlenE.out 4 (by omega)
          go_upto_region 13 with (fail)
          go_wp2
          go_loopw [5] (fun bv wr => ∃ b : Nat, bv = .int .i64 ((b : Int) + 1) ∧ b + 1 ≤ R ∧ WebS wr base g B r R (corsS 4 ++ edgesS r 4 ++ rowsS R b) [] tv X ∧ KX X W wr) (fun bv _ => 20 - (intOf bv).toNat)
          case atStart => exact ⟨0, rfl, by omega, by simpa [rowsS, upTo] using hS, kr⟩
          case round =>
            obtain ⟨b, rfl, hb, hS, kr⟩ := hrel
            have hc := hS.most.1
            have lg := hS.most.2.1
            by_cases hblt : b + 1 < R
            · have q3 : (b : Int) + 1 < (R : Int) := by omega
              go_upto_region 16 with (fail)
              go_wp2
              go_loopw [6] (fun av wr => ∃ a : Nat, av = .int .i64 ((a : Int) + 1) ∧ a + 1 ≤ R ∧ WebS wr base g B r R (corsS 4 ++ edgesS r 4 ++ rowsS R b ++ rowS b a) [] tv X ∧ KX X W wr) (fun av _ => 20 - (intOf av).toNat)
              case atStart => exact ⟨0, rfl, by omega, by simpa [rowS, upTo] using hS, kr⟩
              case round =>
                obtain ⟨a, rfl, ha, hSa, kra⟩ := hrel
                clear hc lg
                have hc := hSa.most.1
                have lg := hSa.most.2.1
                by_cases halt : a + 1 < R
                · have hlen : (corsS 4 ++ edgesS r 4 ++ rowsS R b ++ rowS b a).length < 100000 := by
                    rw [List.length_append, List.length_append, List.length_append, cors_len, row_len]
                    have := rows_len_le (R := R) (n := b) hR2 (by omega)
                    omega
                  have cS := fun x : More => spot_S (hSa.grow x).1 (innS (a + 1) (b + 1)) (rng_inn (by omega) (by omega)) inn_new hlen
                  have k2 := kI ((a : Int) + 1) ((b : Int) + 1)
                  have q4 : (a : Int) + 1 < (R : Int) := by omega
                  replace cS := Lib.hid cS
                  go_wp2_with (first | (go_at_call 80; (with_reducible refine (k2.at_ _).mono ?_); rintro e w' ⟨rfl, xg, rfl⟩) | (go_at_call 77; (refine (cS.out _).mono ?_); rintro e w3 ⟨rfl, k3, hS3⟩) | fail)
                  go_roundw
                  case rel =>
                    refine ⟨a + 1, by go_num, by omega, ?_, (kra.trans (hSa.grow xg).2).trans k3⟩
                    rw [List.append_assoc] at hS3
                    exact hS3
                  case measure => simp [intOf]; omega
                · have e9 : a = R - 1 := by omega
                  rw [e9] at hSa
                  have e8 : (a : Int) + 1 = (R : Int) := by omega
                  rw [e8]
                  clear e9 ha halt e8
                  go_wp2
                  go_roundw
                  case rel =>
                    refine ⟨b + 1, by go_num, by omega, ?_, kra⟩
                    rw [List.append_assoc] at hSa
                    exact hSa
                  case measure => simp [intOf]; omega
            · have e9 : b = R - 1 := by omega
              rw [e9] at hS
              have e8 : (b : Int) + 1 = (R : Int) := by omega
              rw [e8]
              clear e9 hb hblt e8
              go_wp2
              refine bodyPost_end (v := .tuple #[]) (by simp [results, Try.results67, go_sem]) rfl ⟨rfl, kr, hS⟩
end Go.Proofs.Ytpaehkjnefgaiaa
namespace Go.Proofs.Ytpaehkjnefgaiaa
open Go.RowKit
set_option linter.unusedVariables false
set_option linter.unusedSimpArgs false
set_option linter.unnecessarySimpa false
set_option maxRecDepth 100000
theorem inn_in {r : Nat → Nat} {R a b : Nat} (h1 : 1 ≤ a) (h2 : a < R) (h3 : 1 ≤ b) (h4 : b < R) : innS a b ∈ spotsR r R := mem_spots.2 (.inr (.inr ⟨a, b, h1, h2, h3, h4, rfl⟩))
theorem cor_in {r : Nat → Nat} {R k : Nat} (h : k < 4) : corS k ∈ spotsR r R := mem_spots.2 (.inl ⟨k, h, rfl⟩)
theorem out_in {r : Nat → Nat} {R k i : Nat} (hk : k < 4) (hr : 1 ≤ r k) (hi : i ≤ r k) : outS k (r k) i ∈ spotsR r R := by
  by_cases h0 : i = 0
  · subst h0; exact cor_in hk
  · by_cases h1 : i = r k
    · rw [h1, out_end hr]; exact cor_in (by omega)
    · rw [out_mid (by omega) (by omega)]
      exact mem_spots.2 (.inr (.inl ⟨k, i, hk, by omega, by omega, rfl⟩))
theorem bes_in {r : Nat → Nat} {R k t : Nat} (hk : k < 4) (h1 : 1 ≤ t) (h2 : t < R) : besS k t R ∈ spotsR r R := by
  rcases four1 hk with rfl | rfl | rfl | rfl
  · exact inn_in h1 h2 (by omega) (by omega)
  · exact inn_in (by omega) (by omega) h1 h2
  · exact inn_in (by omega) (by omega) (by omega) (by omega)
  · exact inn_in (by omega) (by omega) (by omega) (by omega)
theorem stp_in3 {r : Nat → Nat} {R k : Nat} (hk : k < 4) (hr : 1 ≤ r k) (hR : 2 ≤ R) : ∀ n i t, i ≤ r k → 1 ≤ t → t ≤ R - 1 → leftS (r k) R i t = n → ∀ x ∈ stpS k (r k) R n i t, in3 (spotsR r R) x
  | 0, i, t, _, _, _, _, x, hx => by simp [stpS] at hx
  | n + 1, i, t, hi, ht1, ht, hn, x, hx => by
    unfold stpS at hx
    by_cases hg : goA (r k) R i t
    · rw [if_pos hg] at hx
      obtain ⟨h1, h2⟩ := left_A hg hn
      rcases List.mem_cons.1 hx with rfl | hx
      · exact ⟨out_in hk hr hi, out_in hk hr h2, bes_in hk ht1 (by omega)⟩
      · exact stp_in3 hk hr hR n (i + 1) t h2 ht1 ht h1 x hx
    · rw [if_neg hg] at hx
      have hlt := not_goA hg hi ht hn
      obtain ⟨h1, h2⟩ := left_B hlt hn
      rcases List.mem_cons.1 hx with rfl | hx
      · exact ⟨out_in hk hr hi, bes_in hk (by omega) (by omega), bes_in hk ht1 (by omega)⟩
      · exact stp_in3 hk hr hR n i (t + 1) hi (by omega) h2 h1 x hx
theorem strip_in3 {r : Nat → Nat} {R k : Nat} (hk : k < 4) (hr : 1 ≤ r k) (hR : 2 ≤ R) : ∀ x ∈ stripS k (r k) R, in3 (spotsR r R) x :=
  stp_in3 hk hr hR _ 0 1 (by omega) (by omega) (by omega) rfl
theorem sqRows_len_le {R n : Nat} (hR : R ≤ 16) (hn : n ≤ 16) : (sqRows R n).length ≤ 512 := by
  rw [sqRows_len]
  exact Nat.le_trans (Nat.mul_le_mul hn (show (R - 2) * 2 ≤ 32 by omega)) (by omega)
theorem strips_len_le {r : Nat → Nat} {R : Nat} (hR : R ≤ 16) (h : ∀ k, k < 4 → r k ≤ 16) : ∀ n, n ≤ 4 → (stripsS r R n).length ≤ n * 32
  | 0, _ => by simp [stripsS, upTo]
  | n + 1, hn => by
    have := strips_len_le hR h n (by omega)
    have h2 := h n (by omega)
    show (stripsS r R n ++ stripS n (r n) R).length ≤ _
    rw [List.length_append, strip_len]
    omega
theorem numT_app (P : List Spt) (l m : List Tri) : numT P (l ++ m) = numT P l ++ numT P m := by simp [numT]
theorem numT_len (P : List Spt) (l : List Tri) : (numT P l).length = l.length := by simp [numT]
theorem WebT.grow {W : World} {base g B : Nat} {r : Nat → Nat} {R : Nat} {P : List Spt} {T : List NTri} {sv : Value} {X : Nat → Prop} (h : WebT W base g B r R P T sv X) (x : More) : WebT (Go.Proofs.Ytpaehkjnefgaiaa.grow W x) base g B r R P T sv X ∧ KX X W (Go.Proofs.Ytpaehkjnefgaiaa.grow W x) := h.below (x.kept W)
theorem WebT.part {W : World} {base g B : Nat} {r : Nat → Nat} {R : Nat} {P : List Spt} {T : List NTri} {sv : Value} {X : Nat → Prop} (h : WebT W base g B r R P T sv X) : ∀ k, k < 4 → W.cell? ⟨g, k * 2 + 1, none⟩ = some (.int .i64 (r k : Int)) ∧ W.cell? ⟨g, k * 2, none⟩ = some (.int .i64 (k : Int)) := by
  obtain ⟨tv, h⟩ := h; exact fun k hk => web_part h.blk k hk
set_option maxHeartbeats 4000000 in
theorem fill_any (W : World) (base g B : Nat) (r : Nat → Nat) (R : Nat) (sv : Value) (X : Nat → Prop) (h : WebT W base g B r R (spotsR r R) [] sv X) (hr : ∀ k, k < 4 → 1 ≤ r k ∧ r k ≤ 16) (hR : 1 ≤ R) (hR2 : R ≤ 16) :
    Calls Try.prog 68 #[.pointer (some ⟨g, 0, none⟩)] W fun e W' => e = .returned (.tuple #[]) ∧ KX X W W' ∧ WebT W' base g B r R (spotsR r R) (numT (spotsR r R) (trisR r R)) sv X := by
  have m8 := h.most.1
  have lg := h.most.2
  replace hr := Lib.hid hr
  by_cases hR1 : R = 1
  · subst hR1
    have k0 := corner_G 0
    have k1 := corner_G 1
    have k2 := corner_G 2
    have k3 := corner_G 3
    have cS := fun x : More => square_any (Go.Proofs.Ytpaehkjnefgaiaa.grow W x) base g B r 1 (spotsR r 1) [] sv X (h.grow x).1 (corS 0) (corS 1) (corS 2) (corS 3) (cor_in (by omega)) (cor_in (by omega)) (cor_in (by omega)) (cor_in (by omega)) (by simp)
    replace cS := Lib.hid cS
    go_enter Try.func68, Try.ntmps68
    go_wp2_with (first | (go_at_call 78; first | ((with_reducible refine (k0.at_ _).mono ?_); rintro e w' ⟨rfl, xg, rfl⟩) | ((with_reducible refine (k1.at_ _).mono ?_); rintro e w' ⟨rfl, xg, rfl⟩) | ((with_reducible refine (k2.at_ _).mono ?_); rintro e w' ⟨rfl, xg, rfl⟩) | ((with_reducible refine (k3.at_ _).mono ?_); rintro e w' ⟨rfl, xg, rfl⟩)) | (go_at_call 81; (refine (cS.out _).mono ?_); rintro e w3 ⟨rfl, k3, hS3⟩) | fail)
    refine bodyPost_ret (v := .tuple #[]) (by simp [results, Try.results68, go_sem]) rfl ⟨rfl, (h.grow _).2.trans k3, ?_⟩
    unfold trisR
    rw [if_pos rfl]
    exact hS3
  · have q1 : ((R : Int) == 1) = false := by simp; omega
    have kI := inner_G
    have hR3 : 2 ≤ R := by omega
    go_enter Try.func68, Try.ntmps68
    go_upto_region 2 with (fail)
    go_wp2
    go_loopw [2] (fun bv wr => ∃ b : Nat, bv = .int .i64 ((b : Int) + 1) ∧ b + 2 ≤ R ∧ WebT wr base g B r R (spotsR r R) (numT (spotsR r R) (sqRows R b)) sv X ∧ KX X W wr) (fun bv _ => 20 - (intOf bv).toNat)
    case atStart => exact ⟨0, rfl, by omega, by simpa [numT, sqRows, upTo] using h, KX.refl _ _⟩
    case round =>
      obtain ⟨b, rfl, hb, hS, kr⟩ := hrel
      clear m8 lg
      have hc := hS.most.1
      have lg := hS.most.2
      by_cases hblt : b + 1 < R - 1
      · have q3 : (b : Int) + 1 < (R : Int) - 1 := by omega
        go_upto_region 5 with (fail)
        go_wp2
        go_loopw [3] (fun av wr => ∃ a : Nat, av = .int .i64 ((a : Int) + 1) ∧ a + 2 ≤ R ∧ WebT wr base g B r R (spotsR r R) (numT (spotsR r R) (sqRows R b ++ sqRow b a)) sv X ∧ KX X W wr) (fun av _ => 20 - (intOf av).toNat)
        case atStart => exact ⟨0, rfl, by omega, by simpa [sqRow, upTo] using hS, kr⟩
        case round =>
          obtain ⟨a, rfl, ha, hSa, kra⟩ := hrel
          clear hc lg
          have hc := hSa.most.1
          have lg := hSa.most.2
          by_cases halt : a + 1 < R - 1
          · have hlen : (numT (spotsR r R) (sqRows R b ++ sqRow b a)).length < 90000 := by
              rw [numT_len, List.length_append, sqRow_len]
              have := sqRows_len_le (R := R) (n := b) hR2 (by omega)
              omega
            have k1 := kI ((a : Int) + 1) ((b : Int) + 1)
            have k2 := kI ((a : Int) + 1 + 1) ((b : Int) + 1)
            have k3 := kI ((a : Int) + 1 + 1) ((b : Int) + 1 + 1)
            have k4 := kI ((a : Int) + 1) ((b : Int) + 1 + 1)
            have k2b := kI ((a : Int) + 2) ((b : Int) + 1)
            have k3b := kI ((a : Int) + 2) ((b : Int) + 2)
            have k4b := kI ((a : Int) + 1) ((b : Int) + 2)
            have q4 : (a : Int) + 1 < (R : Int) - 1 := by omega
            have cS := fun x : More => square_any (Go.Proofs.Ytpaehkjnefgaiaa.grow wr x) base g B r R (spotsR r R) _ sv X (hSa.grow x).1 (innS (a + 1) (b + 1)) (innS (a + 1 + 1) (b + 1)) (innS (a + 1 + 1) (b + 1 + 1)) (innS (a + 1) (b + 1 + 1)) (inn_in (by omega) (by omega) (by omega) (by omega)) (inn_in (by omega) (by omega) (by omega) (by omega)) (inn_in (by omega) (by omega) (by omega) (by omega)) (inn_in (by omega) (by omega) (by omega) (by omega)) hlen
            replace cS := Lib.hid cS
            go_wp2_with (first | (go_at_call 80; first | ((with_reducible refine (k1.at_ _).mono ?_); rintro e w' ⟨rfl, xg, rfl⟩) | ((with_reducible refine (k2.at_ _).mono ?_); rintro e w' ⟨rfl, xg, rfl⟩) | ((with_reducible refine (k3.at_ _).mono ?_); rintro e w' ⟨rfl, xg, rfl⟩) | ((with_reducible refine (k4.at_ _).mono ?_); rintro e w' ⟨rfl, xg, rfl⟩) | ((with_reducible refine (k2b.at_ _).mono ?_); rintro e w' ⟨rfl, xg, rfl⟩) | ((with_reducible refine (k3b.at_ _).mono ?_); rintro e w' ⟨rfl, xg, rfl⟩) | ((with_reducible refine (k4b.at_ _).mono ?_); rintro e w' ⟨rfl, xg, rfl⟩)) | (go_at_call 81; (refine (cS.out _).mono ?_); rintro e w3 ⟨rfl, kS, hS3⟩) | fail)
            go_roundw
            case rel =>
              refine ⟨a + 1, by go_num, by omega, ?_, (kra.trans (hSa.grow _).2).trans kS⟩
              rw [← numT_app, List.append_assoc] at hS3
              exact hS3
            case measure => simp [intOf]; omega
          · have e9 : a = R - 2 := by omega
            rw [e9] at hSa
            have e8 : (a : Int) + 1 = (R : Int) - 1 := by omega
            rw [e8]
            clear e9 ha halt e8
            go_wp2
            go_roundw
            case rel => exact ⟨b + 1, by go_num, by omega, hSa, kra⟩
            case measure => simp [intOf]; omega
      · have e9 : b = R - 2 := by omega
        rw [e9] at hS
        have e8 : (b : Int) + 1 = (R : Int) - 1 := by omega
        rw [e8]
        clear e9 hb hblt e8
        go_upto_region 9 with (fail)
        go_wp2
        go_loopw [52] (fun kv wr => ∃ k : Nat, kv = .int .i64 (k : Int) ∧ k ≤ 4 ∧ WebT wr base g B r R (spotsR r R) (numT (spotsR r R) (sqRows R (R - 2) ++ stripsS r R k)) sv X ∧ KX X W wr) (fun kv _ => 4 - (intOf kv).toNat)
        case atStart => exact ⟨0, rfl, by omega, by simpa [stripsS, upTo] using hS, kr⟩
        case round =>
          obtain ⟨k, rfl, hk, hSk, krk⟩ := hrel
          by_cases hk4 : k < 4
          · clear hc lg
            have lg := hSk.most.2
            obtain ⟨c1, c0⟩ := hSk.part k hk4
            have hrk := hr.out k hk4
            have q9 : (k : Int) < 4 := by omega
            have q0 : (0 : Int) ≤ (k : Int) := by omega
            have hlen : (numT (spotsR r R) (sqRows R (R - 2) ++ stripsS r R k)).length < 50000 := by
              rw [numT_len, List.length_append]
              have := sqRows_len_le (R := R) (n := R - 2) hR2 (by omega)
              have := strips_len_le (r := r) hR2 (fun k hk => (hr.out k hk).2) k hk
              omega
            have cS := strip_any wr base g B r R (spotsR r R) _ sv X hSk k (r k) hk4 hrk.1 hrk.2 hR3 hR2 (strip_in3 hk4 hrk.1 hR3) hlen
            replace cS := Lib.hid cS
            go_wp2_with (first | (go_at_call 82; (refine cS.out.mono ?_); rintro e w3 ⟨rfl, kS, hS3⟩) | fail)
            go_roundw
            case rel =>
              refine ⟨k + 1, by go_num, by omega, ?_, krk.trans kS⟩
              rw [← numT_app, List.append_assoc] at hS3
              exact hS3
            case measure => simp [intOf]; omega
          · obtain rfl : k = 4 := by omega
            rw [show ((4 : Nat) : Int) = 4 from rfl]
            go_wp2
            refine bodyPost_end (v := .tuple #[]) (by simp [results, Try.results68, go_sem]) rfl ⟨rfl, krk, ?_⟩
            unfold trisR
            rw [if_neg hR1]
            exact hSk
end Go.Proofs.Ytpaehkjnefgaiaa
namespace Go.Proofs.Ytpaehkjnefgaiaa
open Go.RowKit
set_option linter.unusedVariables false
set_option linter.unusedSimpArgs false
set_option linter.unnecessarySimpa false
set_option maxRecDepth 100000
/-- A row of triples of numbers that lies somewhere. -/
def L3 (W : World) (A : Option Addr) (l : List Spt) : Prop := 0 < l.length → ∃ b off, A = some ⟨b, off, none⟩ ∧ b < W.heap.size ∧ ∀ i (h : i < l.length), W.cell? ⟨b, off + i * 3, none⟩ = some (.int .i64 l[i].1) ∧ W.cell? ⟨b, off + i * 3 + 1, none⟩ = some (.int .i64 l[i].2.1) ∧ W.cell? ⟨b, off + i * 3 + 2, none⟩ = some (.int .i64 l[i].2.2)
theorem L3.below {W W' : World} {A : Option Addr} {l : List Spt} (h : L3 W A l) (hb : Below W.heap.size W W') : L3 W' A l := fun hn => by
  obtain ⟨b, off, e, hl, hc⟩ := h hn
  exact ⟨b, off, e, Nat.lt_of_lt_of_le hl hb.size, fun i hi => ⟨(hb.cell (p := ⟨b, _, none⟩) hl).trans (hc i hi).1, (hb.cell (p := ⟨b, _, none⟩) hl).trans (hc i hi).2.1, (hb.cell (p := ⟨b, _, none⟩) hl).trans (hc i hi).2.2⟩⟩
def trZ (t : NTri) : Spt := ((t.1 : Int), (t.2.1 : Int), (t.2.2 : Int))
theorem trC_eq (T : List NTri) : trC T = spC (T.map trZ) := by simp [trC, spC, trZ, List.flatMap_map]
theorem spC_at : ∀ (l : List Spt) (i : Nat) (h : i < l.length), (spC l)[i * 3]? = some (.int .i64 l[i].1) ∧ (spC l)[i * 3 + 1]? = some (.int .i64 l[i].2.1) ∧ (spC l)[i * 3 + 2]? = some (.int .i64 l[i].2.2)
  | [], i, h => by simp at h
  | q :: l, 0, _ => ⟨rfl, rfl, rfl⟩
  | q :: l, i + 1, h => by
    have hi : i < l.length := by simpa using h
    obtain ⟨h1, h2, h3⟩ := spC_at l i hi
    have e : ∀ j, (spC (q :: l))[(i + 1) * 3 + j]? = (spC l)[i * 3 + j]? := fun j => by
      show (([.int .i64 q.1, .int .i64 q.2.1, .int .i64 q.2.2] : List Value) ++ spC l)[(i + 1) * 3 + j]? = _
      rw [List.getElem?_append_right (by show 3 ≤ _; omega)]
      congr 1
      show (i + 1) * 3 + j - 3 = _
      omega
    exact ⟨(e 0).trans h1, (e 1).trans h2, (e 2).trans h3⟩
theorem spC_len : ∀ l : List Spt, (spC l).length = l.length * 3
  | [] => rfl
  | q :: l => by
    have := spC_len l
    show (([.int .i64 q.1, .int .i64 q.2.1, .int .i64 q.2.2] : List Value) ++ spC l).length = _
    rw [List.length_append, this, List.length_cons]
    show 3 + l.length * 3 = (l.length + 1) * 3
    omega
theorem L3_own {W : World} {base : Nat} {T : TypeId} {A : Option Addr} {c : Nat} {l : List Spt} (h : W.ownsRow base T 3 (.slice A l.length c) l.length (spC l)) : L3 W A l := fun hn => by
  obtain ⟨_, h1 | ⟨g, cap, cur, h1, h2, h3, _⟩⟩ := id h
  · omega
  · simp only [Value.slice.injEq] at h1
    obtain ⟨rfl, _, rfl⟩ := h1
    refine ⟨g, 0, rfl, (Array.getElem?_eq_some_iff.1 h3).1, fun i hi => ?_⟩
    obtain ⟨e1, e2, e3⟩ := spC_at l i hi
    have hl := spC_len l
    rw [Nat.zero_add]
    exact ⟨(h.cellAt (i * 3) (by omega)).trans e1, (h.cellAt (i * 3 + 1) (by omega)).trans e2, (h.cellAt (i * 3 + 2) (by omega)).trans e3⟩
theorem own_len {W : World} {base : Nat} {e : TypeId} {size n : Nat} {v : Value} {xs : List Value} (h : W.ownsRow base e size v n xs) : ∃ A c, v = .slice A n c ∧ n ≤ c := by
  rcases h.2 with ⟨h1, h2⟩ | ⟨g, cap, cur, h1, _, _, h4, _⟩
  · subst h2; exact ⟨none, 0, h1, Nat.le_refl _⟩
  · exact ⟨_, _, h1, h4⟩
def mxI (q : Nat → Int) : Nat → Int
  | 0 => 0
  | k + 1 => max (mxI q k) (q k)
theorem mxI_nat {q : Nat → Int} {r : Nat → Nat} : ∀ n, (∀ k, k < n → q k = (r k : Int)) → mxI q n = (mxR r n : Int)
  | 0, _ => rfl
  | n + 1, h => by
    show max (mxI q n) (q n) = ((max (mxR r n) (r n) : Nat) : Int)
    rw [mxI_nat n (fun k hk => h k (by omega)), h n (by omega)]
    omega
theorem mxR_le {r : Nat → Nat} : ∀ n, (∀ k, k < n → r k ≤ 16) → mxR r n ≤ 16
  | 0, _ => by simp [mxR]
  | n + 1, h => by
    show max (mxR r n) (r n) ≤ 16
    have := mxR_le n (fun k hk => h k (by omega))
    have := h n (by omega)
    omega
theorem mxI_bd {q : Nat → Int} : ∀ n, (∀ k, k < n → 1 ≤ q k ∧ q k ≤ 16) → 0 ≤ mxI q n ∧ mxI q n ≤ 16
  | 0, _ => by simp [mxI]
  | n + 1, h => by
    show 0 ≤ max (mxI q n) (q n) ∧ max (mxI q n) (q n) ≤ 16
    have := mxI_bd n (fun k hk => h k (by omega))
    have := h n (by omega)
    omega
def plI (j k : Nat) : Int := if j < k then (j : Int) else 0
def prI (q : Nat → Int) (j k : Nat) : Int := if j < k then q j else 0
@[reducible] def webQ (q : Nat → Int) (k : Nat) : Array Value := #[.int .i64 (plI 0 k), .int .i64 (prI q 0 k), .int .i64 (plI 1 k), .int .i64 (prI q 1 k), .int .i64 (plI 2 k), .int .i64 (prI q 2 k), .int .i64 (plI 3 k), .int .i64 (prI q 3 k), .int .i64 (mxI q k), .slice none 0 0, .map none, .slice none 0 0]
@[reducible] def q4C (q : Nat → Int) : Array Value := #[.int .i64 (q 0), .int .i64 (q 1), .int .i64 (q 2), .int .i64 (q 3)]
def okQ (q : Nat → Int) : Prop := ∀ k, k < 4 → 1 ≤ q k ∧ q k ≤ 16
/-- What Weave answers: spots and triangles, somewhere behind what was there. -/
def WvA (W' : World) (q : Nat → Int) (e : Ending) (S : (Nat → Nat) → List Spt) (T : (Nat → Nat) → List NTri) : Prop :=
  (okQ q ∧ ∃ (r : Nat → Nat) (A1 A2 : Option Addr) (c1 c2 : Nat), (∀ k, k < 4 → q k = (r k : Int)) ∧ (∀ k, k < 4 → 1 ≤ r k ∧ r k ≤ 16) ∧ e = .returned (.tuple #[.slice A1 (S r).length c1, .slice A2 (T r).length c2, .bool true]) ∧ (S r).length ≤ c1 ∧ (T r).length ≤ c2 ∧ L3 W' A1 (S r) ∧ L3 W' A2 ((T r).map trZ)) ∨
  (¬ okQ q ∧ e = .returned (.tuple #[.slice none 0 0, .slice none 0 0, .bool false]))
def spotsW (r : Nat → Nat) : List Spt := spotsR r (mxR r 4)
def trisW (r : Nat → Nat) : List NTri := numT (spotsW r) (trisR r (mxR r 4))
/-- The row of triangles lies behind what was there. -/
def WvFr (base : Nat) (e : Ending) : Prop := ∀ (v x : Value) (b o n c : Nat), e = .returned (.tuple #[v, .slice (some ⟨b, o, none⟩) n c, x]) → base ≤ b
theorem wvFr_no {base : Nat} : WvFr base (.returned (.tuple #[.slice none 0 0, .slice none 0 0, .bool false])) := fun v x b o n c e => by
  simp only [Ending.returned.injEq, Value.tuple.injEq, Array.mk.injEq, List.cons.injEq, Value.slice.injEq] at e
  obtain ⟨_, ⟨e2, _⟩, _⟩ := e
  cases e2
set_option maxHeartbeats 4000000 in
theorem weave_anyF (W : World) (q : Nat → Int) (hq : ∀ k, k < 4 → i64W (q k)) :
    Calls Try.prog 43 #[.agg (q4C q)] W fun e W' => Below W.heap.size W W' ∧ WvA W' q e spotsW trisW ∧ WvFr W.heap.size e := by
  obtain ⟨w0, hw0⟩ : ∃ w0, w0 = (W.alloc (.cells (q4C q) 25)).alloc (.cells (webQ q 0) 113) := ⟨_, rfl⟩
  have hb0 : Below W.heap.size W w0 := by rw [hw0]; exact bel_alloc (bel_alloc (Below.refl _ _) _) _
  have hQ0 : Blk w0 W.heap.size 25 (q4C q) := by rw [hw0]; exact (Blk.new _ _ _ _ rfl).alloc _
  have hG0 : Blk w0 (W.heap.size + 1) 113 (webQ q 0) := by rw [hw0]; exact Blk.new _ _ _ _ (by simp)
  have hq0 := hq 0 (by omega)
  have hq1 := hq 1 (by omega)
  have hq2 := hq 2 (by omega)
  have hq3 := hq 3 (by omega)
  unfold i64W at hq0 hq1 hq2 hq3
  go_enter Try.func43, Try.ntmps43
  go_upto_region 2 with (fail)
  replace hw0 : w0 = (W.alloc (.cells (q4C q) 25)).alloc (.cells #[.int .i64 0, .int .i64 0, .int .i64 0, .int .i64 0, .int .i64 0, .int .i64 0, .int .i64 0, .int .i64 0, .int .i64 0, .slice none 0 0, .map none, .slice none 0 0] 113) := hw0
  simp only [← hw0]
  clear hw0
  obtain ⟨g, hg⟩ : ∃ g, g = W.heap.size + 1 := ⟨_, rfl⟩
  rw [← hg] at hG0 ⊢
  obtain ⟨bq, hbq⟩ : ∃ b, b = W.heap.size := ⟨_, rfl⟩
  rw [← hbq] at hQ0 ⊢
  have hgq : bq ≠ g := by omega
  have hgW : W.heap.size ≤ g := by omega
  have hbW : W.heap.size ≤ bq := by omega
  replace hg := Lib.hid hg
  replace hbq := Lib.hid hbq
  go_wp2
  go_loopw [7] (fun kv wr => ∃ k : Nat, kv = .int .i64 (k : Int) ∧ k ≤ 4 ∧ (∀ j, j < k → 1 ≤ q j ∧ q j ≤ 16) ∧ Blk wr bq 25 (q4C q) ∧ Blk wr g 113 (webQ q k) ∧ Below W.heap.size W wr) (fun kv _ => 4 - (intOf kv).toNat)
  case atStart => exact ⟨0, rfl, by omega, fun j hj => by omega, hQ0, hG0, hb0⟩
  case round =>
    obtain ⟨k, rfl, hk, hok, hQ, hG, hb⟩ := hrel
    by_cases hk4 : k < 4
    · have hm := mxI_bd k hok
      have hok2 := Lib.hid hok
      clear hok
      have lq := hQ.lt
      have lg := hG.lt
      rcases four1 hk4 with rfl | rfl | rfl | rfl
      · have hG' : Blk wr g 113 #[.int .i64 0, .int .i64 0, .int .i64 0, .int .i64 0, .int .i64 0, .int .i64 0, .int .i64 0, .int .i64 0, .int .i64 (mxI q 0), .slice none 0 0, .map none, .slice none 0 0] := hG
        have e2 : (if mxI q 0 < q 0 then q 0 else mxI q 0) = mxI q 1 := by
          show _ = max (mxI q 0) (q 0)
          split <;> omega
        replace e2 := Lib.hid e2
        rw [show ((0 : Nat) : Int) = 0 from rfl]
        generalize mxI q 0 = m at *
        clear hG
        have cq : wr.cell? ⟨bq, 0, none⟩ = some (.int .i64 (q 0)) := hQ.cell 0
        have ca : wr.cell? ⟨g, 0, none⟩ = some (.int .i64 0) := hG'.cell 0
        have cb : wr.cell? ⟨g, 1, none⟩ = some (.int .i64 0) := hG'.cell 1
        have cm : wr.cell? ⟨g, 8, none⟩ = some (.int .i64 m) := hG'.cell 8
        have fa := hG'.frozen 0
        have fb := hG'.frozen 1
        have fm := hG'.frozen 8
        have hbad : (q 0 < 1 ∨ q 0 > 16) → ¬ okQ q := fun h hq9 => by have := hq9 0 (by omega); omega
        replace hbad := Lib.hid hbad
        by_cases hlo : q 0 < 1
        · go_wp2
          refine bodyPost_ret (v := .tuple #[.slice none 0 0, .slice none 0 0, .bool false]) (by simp [results, Try.results43, go_sem]) rfl ⟨hb, .inr ⟨hbad.out (.inl hlo), rfl⟩, wvFr_no⟩
        · by_cases hhi : q 0 > 16
          · go_wp2
            refine bodyPost_ret (v := .tuple #[.slice none 0 0, .slice none 0 0, .bool false]) (by simp [results, Try.results43, go_sem]) rfl ⟨hb, .inr ⟨hbad.out (.inr hhi), rfl⟩, wvFr_no⟩
          · go_upto_region 8 with (fail)
            have hG8 : Blk ((wr.setCell ⟨g, 0, none⟩ (.int .i64 0)).setCell ⟨g, 1, none⟩ (.int .i64 (q 0))) g 113 #[.int .i64 0, .int .i64 (q 0), .int .i64 0, .int .i64 0, .int .i64 0, .int .i64 0, .int .i64 0, .int .i64 0, .int .i64 m, .slice none 0 0, .map none, .slice none 0 0] := (hG'.set 0 _).set 1 _
            have hQ8 : Blk ((wr.setCell ⟨g, 0, none⟩ (.int .i64 0)).setCell ⟨g, 1, none⟩ (.int .i64 (q 0))) bq 25 (q4C q) := (hQ.far _ _ (Ne.symm hgq)).far _ _ (Ne.symm hgq)
            have hb8 : Below W.heap.size W ((wr.setCell ⟨g, 0, none⟩ (.int .i64 0)).setCell ⟨g, 1, none⟩ (.int .i64 (q 0))) := bel_set (bel_set hb (by exact hgW) _) (by exact hgW) _
            generalize (wr.setCell ⟨g, 0, none⟩ (.int .i64 0)).setCell ⟨g, 1, none⟩ (.int .i64 (q 0)) = w8 at *
            clear hG' hQ hb ca cb cm cq fa fb fm lq lg
            have cm : w8.cell? ⟨g, 8, none⟩ = some (.int .i64 m) := hG8.cell 8
            have cq : w8.cell? ⟨bq, 0, none⟩ = some (.int .i64 (q 0)) := hQ8.cell 0
            have lg := hG8.lt
            have lq := hQ8.lt
            refine wp_region_tail 7 ?_ (by kernel_rfl) (by kernel_rfl) (by kernel_rfl) (fun x => ?_) (fun x => ?_)
            rotate_left
            · simp only [List.take_succ_cons, List.take_zero]
              repeat (go_big_quiet_step (((fail))))
              refine wpQuiet_nil ?_
              exact rfl
            simp only [List.drop_succ_cons, List.drop_zero]
            try simp only [Act.put, List.setIfInBounds_toArray, List.set_cons_succ, List.set_cons_zero]
            have hGx := hG8.grow x
            have hQx := hQ8.grow x
            have hbx := bel_grow hb8 x
            generalize Go.Proofs.Ytpaehkjnefgaiaa.grow w8 x = w9 at *
            clear hG8 hQ8 hb8 cm cq lg lq
            have cm2 : w9.cell? ⟨g, 8, none⟩ = some (.int .i64 m) := hGx.cell 8
            have fm2 := hGx.frozen 8
            have lg := hGx.lt
            have hG9 : Blk (w9.setCell ⟨g, 8, none⟩ (.int .i64 (if m < q 0 then q 0 else m))) g 113 #[.int .i64 0, .int .i64 (q 0), .int .i64 0, .int .i64 0, .int .i64 0, .int .i64 0, .int .i64 0, .int .i64 0, .int .i64 (if m < q 0 then q 0 else m), .slice none 0 0, .map none, .slice none 0 0] := hGx.set 8 _
            have hQ9 : Blk (w9.setCell ⟨g, 8, none⟩ (.int .i64 (if m < q 0 then q 0 else m))) bq 25 (q4C q) := hQx.far _ _ (Ne.symm hgq)
            have hb9 : Below W.heap.size W (w9.setCell ⟨g, 8, none⟩ (.int .i64 (if m < q 0 then q 0 else m))) := bel_set hbx (by exact hgW) _
            go_wp2
            rw [e2.out] at hG9 hQ9 hb9 ⊢
            go_roundw
            case rel =>
              refine ⟨1, by go_num, by omega, fun j hj => ?_, hQ9, hG9, hb9⟩
              by_cases e : j = 0
              · subst e; omega
              · exact hok2.out j (by omega)
            case measure => simp [intOf]
      · have hG' : Blk wr g 113 #[.int .i64 0, .int .i64 (q 0), .int .i64 0, .int .i64 0, .int .i64 0, .int .i64 0, .int .i64 0, .int .i64 0, .int .i64 (mxI q 1), .slice none 0 0, .map none, .slice none 0 0] := hG
        have e2 : (if mxI q 1 < q 1 then q 1 else mxI q 1) = mxI q 2 := by
          show _ = max (mxI q 1) (q 1)
          split <;> omega
        replace e2 := Lib.hid e2
        rw [show ((1 : Nat) : Int) = 1 from rfl]
        generalize mxI q 1 = m at *
        clear hG
        have cq : wr.cell? ⟨bq, 1, none⟩ = some (.int .i64 (q 1)) := hQ.cell 1
        have ca : wr.cell? ⟨g, 2, none⟩ = some (.int .i64 0) := hG'.cell 2
        have cb : wr.cell? ⟨g, 3, none⟩ = some (.int .i64 0) := hG'.cell 3
        have cm : wr.cell? ⟨g, 8, none⟩ = some (.int .i64 m) := hG'.cell 8
        have fa := hG'.frozen 2
        have fb := hG'.frozen 3
        have fm := hG'.frozen 8
        have hbad : (q 1 < 1 ∨ q 1 > 16) → ¬ okQ q := fun h hq9 => by have := hq9 1 (by omega); omega
        replace hbad := Lib.hid hbad
        by_cases hlo : q 1 < 1
        · go_wp2
          refine bodyPost_ret (v := .tuple #[.slice none 0 0, .slice none 0 0, .bool false]) (by simp [results, Try.results43, go_sem]) rfl ⟨hb, .inr ⟨hbad.out (.inl hlo), rfl⟩, wvFr_no⟩
        · by_cases hhi : q 1 > 16
          · go_wp2
            refine bodyPost_ret (v := .tuple #[.slice none 0 0, .slice none 0 0, .bool false]) (by simp [results, Try.results43, go_sem]) rfl ⟨hb, .inr ⟨hbad.out (.inr hhi), rfl⟩, wvFr_no⟩
          · go_upto_region 8 with (fail)
            have hG8 : Blk ((wr.setCell ⟨g, 2, none⟩ (.int .i64 1)).setCell ⟨g, 3, none⟩ (.int .i64 (q 1))) g 113 #[.int .i64 0, .int .i64 (q 0), .int .i64 1, .int .i64 (q 1), .int .i64 0, .int .i64 0, .int .i64 0, .int .i64 0, .int .i64 m, .slice none 0 0, .map none, .slice none 0 0] := (hG'.set 2 _).set 3 _
            have hQ8 : Blk ((wr.setCell ⟨g, 2, none⟩ (.int .i64 1)).setCell ⟨g, 3, none⟩ (.int .i64 (q 1))) bq 25 (q4C q) := (hQ.far _ _ (Ne.symm hgq)).far _ _ (Ne.symm hgq)
            have hb8 : Below W.heap.size W ((wr.setCell ⟨g, 2, none⟩ (.int .i64 1)).setCell ⟨g, 3, none⟩ (.int .i64 (q 1))) := bel_set (bel_set hb (by exact hgW) _) (by exact hgW) _
            generalize (wr.setCell ⟨g, 2, none⟩ (.int .i64 1)).setCell ⟨g, 3, none⟩ (.int .i64 (q 1)) = w8 at *
            clear hG' hQ hb ca cb cm cq fa fb fm lq lg
            have cm : w8.cell? ⟨g, 8, none⟩ = some (.int .i64 m) := hG8.cell 8
            have cq : w8.cell? ⟨bq, 1, none⟩ = some (.int .i64 (q 1)) := hQ8.cell 1
            have lg := hG8.lt
            have lq := hQ8.lt
            refine wp_region_tail 7 ?_ (by kernel_rfl) (by kernel_rfl) (by kernel_rfl) (fun x => ?_) (fun x => ?_)
            rotate_left
            · simp only [List.take_succ_cons, List.take_zero]
              repeat (go_big_quiet_step (((fail))))
              refine wpQuiet_nil ?_
              exact rfl
            simp only [List.drop_succ_cons, List.drop_zero]
            try simp only [Act.put, List.setIfInBounds_toArray, List.set_cons_succ, List.set_cons_zero]
            have hGx := hG8.grow x
            have hQx := hQ8.grow x
            have hbx := bel_grow hb8 x
            generalize Go.Proofs.Ytpaehkjnefgaiaa.grow w8 x = w9 at *
            clear hG8 hQ8 hb8 cm cq lg lq
            have cm2 : w9.cell? ⟨g, 8, none⟩ = some (.int .i64 m) := hGx.cell 8
            have fm2 := hGx.frozen 8
            have lg := hGx.lt
            have hG9 : Blk (w9.setCell ⟨g, 8, none⟩ (.int .i64 (if m < q 1 then q 1 else m))) g 113 #[.int .i64 0, .int .i64 (q 0), .int .i64 1, .int .i64 (q 1), .int .i64 0, .int .i64 0, .int .i64 0, .int .i64 0, .int .i64 (if m < q 1 then q 1 else m), .slice none 0 0, .map none, .slice none 0 0] := hGx.set 8 _
            have hQ9 : Blk (w9.setCell ⟨g, 8, none⟩ (.int .i64 (if m < q 1 then q 1 else m))) bq 25 (q4C q) := hQx.far _ _ (Ne.symm hgq)
            have hb9 : Below W.heap.size W (w9.setCell ⟨g, 8, none⟩ (.int .i64 (if m < q 1 then q 1 else m))) := bel_set hbx (by exact hgW) _
            go_wp2
            rw [e2.out] at hG9 hQ9 hb9 ⊢
            go_roundw
            case rel =>
              refine ⟨2, by go_num, by omega, fun j hj => ?_, hQ9, hG9, hb9⟩
              by_cases e : j = 1
              · subst e; omega
              · exact hok2.out j (by omega)
            case measure => simp [intOf]
      · have hG' : Blk wr g 113 #[.int .i64 0, .int .i64 (q 0), .int .i64 1, .int .i64 (q 1), .int .i64 0, .int .i64 0, .int .i64 0, .int .i64 0, .int .i64 (mxI q 2), .slice none 0 0, .map none, .slice none 0 0] := hG
        have e2 : (if mxI q 2 < q 2 then q 2 else mxI q 2) = mxI q 3 := by
          show _ = max (mxI q 2) (q 2)
          split <;> omega
        replace e2 := Lib.hid e2
        rw [show ((2 : Nat) : Int) = 2 from rfl]
        generalize mxI q 2 = m at *
        clear hG
        have cq : wr.cell? ⟨bq, 2, none⟩ = some (.int .i64 (q 2)) := hQ.cell 2
        have ca : wr.cell? ⟨g, 4, none⟩ = some (.int .i64 0) := hG'.cell 4
        have cb : wr.cell? ⟨g, 5, none⟩ = some (.int .i64 0) := hG'.cell 5
        have cm : wr.cell? ⟨g, 8, none⟩ = some (.int .i64 m) := hG'.cell 8
        have fa := hG'.frozen 4
        have fb := hG'.frozen 5
        have fm := hG'.frozen 8
        have hbad : (q 2 < 1 ∨ q 2 > 16) → ¬ okQ q := fun h hq9 => by have := hq9 2 (by omega); omega
        replace hbad := Lib.hid hbad
        by_cases hlo : q 2 < 1
        · go_wp2
          refine bodyPost_ret (v := .tuple #[.slice none 0 0, .slice none 0 0, .bool false]) (by simp [results, Try.results43, go_sem]) rfl ⟨hb, .inr ⟨hbad.out (.inl hlo), rfl⟩, wvFr_no⟩
        · by_cases hhi : q 2 > 16
          · go_wp2
            refine bodyPost_ret (v := .tuple #[.slice none 0 0, .slice none 0 0, .bool false]) (by simp [results, Try.results43, go_sem]) rfl ⟨hb, .inr ⟨hbad.out (.inr hhi), rfl⟩, wvFr_no⟩
          · go_upto_region 8 with (fail)
            have hG8 : Blk ((wr.setCell ⟨g, 4, none⟩ (.int .i64 2)).setCell ⟨g, 5, none⟩ (.int .i64 (q 2))) g 113 #[.int .i64 0, .int .i64 (q 0), .int .i64 1, .int .i64 (q 1), .int .i64 2, .int .i64 (q 2), .int .i64 0, .int .i64 0, .int .i64 m, .slice none 0 0, .map none, .slice none 0 0] := (hG'.set 4 _).set 5 _
            have hQ8 : Blk ((wr.setCell ⟨g, 4, none⟩ (.int .i64 2)).setCell ⟨g, 5, none⟩ (.int .i64 (q 2))) bq 25 (q4C q) := (hQ.far _ _ (Ne.symm hgq)).far _ _ (Ne.symm hgq)
            have hb8 : Below W.heap.size W ((wr.setCell ⟨g, 4, none⟩ (.int .i64 2)).setCell ⟨g, 5, none⟩ (.int .i64 (q 2))) := bel_set (bel_set hb (by exact hgW) _) (by exact hgW) _
            generalize (wr.setCell ⟨g, 4, none⟩ (.int .i64 2)).setCell ⟨g, 5, none⟩ (.int .i64 (q 2)) = w8 at *
            clear hG' hQ hb ca cb cm cq fa fb fm lq lg
            have cm : w8.cell? ⟨g, 8, none⟩ = some (.int .i64 m) := hG8.cell 8
            have cq : w8.cell? ⟨bq, 2, none⟩ = some (.int .i64 (q 2)) := hQ8.cell 2
            have lg := hG8.lt
            have lq := hQ8.lt
            refine wp_region_tail 7 ?_ (by kernel_rfl) (by kernel_rfl) (by kernel_rfl) (fun x => ?_) (fun x => ?_)
            rotate_left
            · simp only [List.take_succ_cons, List.take_zero]
              repeat (go_big_quiet_step (((fail))))
              refine wpQuiet_nil ?_
              exact rfl
            simp only [List.drop_succ_cons, List.drop_zero]
            try simp only [Act.put, List.setIfInBounds_toArray, List.set_cons_succ, List.set_cons_zero]
            have hGx := hG8.grow x
            have hQx := hQ8.grow x
            have hbx := bel_grow hb8 x
            generalize Go.Proofs.Ytpaehkjnefgaiaa.grow w8 x = w9 at *
            clear hG8 hQ8 hb8 cm cq lg lq
            have cm2 : w9.cell? ⟨g, 8, none⟩ = some (.int .i64 m) := hGx.cell 8
            have fm2 := hGx.frozen 8
            have lg := hGx.lt
            have hG9 : Blk (w9.setCell ⟨g, 8, none⟩ (.int .i64 (if m < q 2 then q 2 else m))) g 113 #[.int .i64 0, .int .i64 (q 0), .int .i64 1, .int .i64 (q 1), .int .i64 2, .int .i64 (q 2), .int .i64 0, .int .i64 0, .int .i64 (if m < q 2 then q 2 else m), .slice none 0 0, .map none, .slice none 0 0] := hGx.set 8 _
            have hQ9 : Blk (w9.setCell ⟨g, 8, none⟩ (.int .i64 (if m < q 2 then q 2 else m))) bq 25 (q4C q) := hQx.far _ _ (Ne.symm hgq)
            have hb9 : Below W.heap.size W (w9.setCell ⟨g, 8, none⟩ (.int .i64 (if m < q 2 then q 2 else m))) := bel_set hbx (by exact hgW) _
            go_wp2
            rw [e2.out] at hG9 hQ9 hb9 ⊢
            go_roundw
            case rel =>
              refine ⟨3, by go_num, by omega, fun j hj => ?_, hQ9, hG9, hb9⟩
              by_cases e : j = 2
              · subst e; omega
              · exact hok2.out j (by omega)
            case measure => simp [intOf]
      · have hG' : Blk wr g 113 #[.int .i64 0, .int .i64 (q 0), .int .i64 1, .int .i64 (q 1), .int .i64 2, .int .i64 (q 2), .int .i64 0, .int .i64 0, .int .i64 (mxI q 3), .slice none 0 0, .map none, .slice none 0 0] := hG
        have e2 : (if mxI q 3 < q 3 then q 3 else mxI q 3) = mxI q 4 := by
          show _ = max (mxI q 3) (q 3)
          split <;> omega
        replace e2 := Lib.hid e2
        rw [show ((3 : Nat) : Int) = 3 from rfl]
        generalize mxI q 3 = m at *
        clear hG
        have cq : wr.cell? ⟨bq, 3, none⟩ = some (.int .i64 (q 3)) := hQ.cell 3
        have ca : wr.cell? ⟨g, 6, none⟩ = some (.int .i64 0) := hG'.cell 6
        have cb : wr.cell? ⟨g, 7, none⟩ = some (.int .i64 0) := hG'.cell 7
        have cm : wr.cell? ⟨g, 8, none⟩ = some (.int .i64 m) := hG'.cell 8
        have fa := hG'.frozen 6
        have fb := hG'.frozen 7
        have fm := hG'.frozen 8
        have hbad : (q 3 < 1 ∨ q 3 > 16) → ¬ okQ q := fun h hq9 => by have := hq9 3 (by omega); omega
        replace hbad := Lib.hid hbad
        by_cases hlo : q 3 < 1
        · go_wp2
          refine bodyPost_ret (v := .tuple #[.slice none 0 0, .slice none 0 0, .bool false]) (by simp [results, Try.results43, go_sem]) rfl ⟨hb, .inr ⟨hbad.out (.inl hlo), rfl⟩, wvFr_no⟩
        · by_cases hhi : q 3 > 16
          · go_wp2
            refine bodyPost_ret (v := .tuple #[.slice none 0 0, .slice none 0 0, .bool false]) (by simp [results, Try.results43, go_sem]) rfl ⟨hb, .inr ⟨hbad.out (.inr hhi), rfl⟩, wvFr_no⟩
          · go_upto_region 8 with (fail)
            have hG8 : Blk ((wr.setCell ⟨g, 6, none⟩ (.int .i64 3)).setCell ⟨g, 7, none⟩ (.int .i64 (q 3))) g 113 #[.int .i64 0, .int .i64 (q 0), .int .i64 1, .int .i64 (q 1), .int .i64 2, .int .i64 (q 2), .int .i64 3, .int .i64 (q 3), .int .i64 m, .slice none 0 0, .map none, .slice none 0 0] := (hG'.set 6 _).set 7 _
            have hQ8 : Blk ((wr.setCell ⟨g, 6, none⟩ (.int .i64 3)).setCell ⟨g, 7, none⟩ (.int .i64 (q 3))) bq 25 (q4C q) := (hQ.far _ _ (Ne.symm hgq)).far _ _ (Ne.symm hgq)
            have hb8 : Below W.heap.size W ((wr.setCell ⟨g, 6, none⟩ (.int .i64 3)).setCell ⟨g, 7, none⟩ (.int .i64 (q 3))) := bel_set (bel_set hb (by exact hgW) _) (by exact hgW) _
            generalize (wr.setCell ⟨g, 6, none⟩ (.int .i64 3)).setCell ⟨g, 7, none⟩ (.int .i64 (q 3)) = w8 at *
            clear hG' hQ hb ca cb cm cq fa fb fm lq lg
            have cm : w8.cell? ⟨g, 8, none⟩ = some (.int .i64 m) := hG8.cell 8
            have cq : w8.cell? ⟨bq, 3, none⟩ = some (.int .i64 (q 3)) := hQ8.cell 3
            have lg := hG8.lt
            have lq := hQ8.lt
            refine wp_region_tail 7 ?_ (by kernel_rfl) (by kernel_rfl) (by kernel_rfl) (fun x => ?_) (fun x => ?_)
            rotate_left
            · simp only [List.take_succ_cons, List.take_zero]
              repeat (go_big_quiet_step (((fail))))
              refine wpQuiet_nil ?_
              exact rfl
            simp only [List.drop_succ_cons, List.drop_zero]
            try simp only [Act.put, List.setIfInBounds_toArray, List.set_cons_succ, List.set_cons_zero]
            have hGx := hG8.grow x
            have hQx := hQ8.grow x
            have hbx := bel_grow hb8 x
            generalize Go.Proofs.Ytpaehkjnefgaiaa.grow w8 x = w9 at *
            clear hG8 hQ8 hb8 cm cq lg lq
            have cm2 : w9.cell? ⟨g, 8, none⟩ = some (.int .i64 m) := hGx.cell 8
            have fm2 := hGx.frozen 8
            have lg := hGx.lt
            have hG9 : Blk (w9.setCell ⟨g, 8, none⟩ (.int .i64 (if m < q 3 then q 3 else m))) g 113 #[.int .i64 0, .int .i64 (q 0), .int .i64 1, .int .i64 (q 1), .int .i64 2, .int .i64 (q 2), .int .i64 3, .int .i64 (q 3), .int .i64 (if m < q 3 then q 3 else m), .slice none 0 0, .map none, .slice none 0 0] := hGx.set 8 _
            have hQ9 : Blk (w9.setCell ⟨g, 8, none⟩ (.int .i64 (if m < q 3 then q 3 else m))) bq 25 (q4C q) := hQx.far _ _ (Ne.symm hgq)
            have hb9 : Below W.heap.size W (w9.setCell ⟨g, 8, none⟩ (.int .i64 (if m < q 3 then q 3 else m))) := bel_set hbx (by exact hgW) _
            go_wp2
            rw [e2.out] at hG9 hQ9 hb9 ⊢
            go_roundw
            case rel =>
              refine ⟨4, by go_num, by omega, fun j hj => ?_, hQ9, hG9, hb9⟩
              by_cases e : j = 3
              · subst e; omega
              · exact hok2.out j (by omega)
            case measure => simp [intOf]
    · obtain rfl : k = 4 := by omega
      have hoq : okQ q := hok
      obtain ⟨r, hr⟩ : ∃ r : Nat → Nat, r = fun k => (q k).toNat := ⟨_, rfl⟩
      have hqr : ∀ k, k < 4 → q k = (r k : Int) := fun k hk => by
        have := hok k hk
        rw [hr]
        simp only
        omega
      have hrb : ∀ k, k < 4 → 1 ≤ r k ∧ r k ≤ 16 := fun k hk => by
        have h1 := hok k hk
        have h2 := hqr k hk
        omega
      have hmx := mxI_nat 4 hqr
      have hR2 : mxR r 4 ≤ 16 := mxR_le 4 (fun k hk => (hrb k hk).2)
      have hR1 : 1 ≤ mxR r 4 := by
        have h0 := (hrb 3 (by omega)).1
        show 1 ≤ max (mxR r 3) (r 3)
        omega
      have hG' : Blk wr g 113 (webE r (mxR r 4)) := by
        have e : webQ q 4 = webE r (mxR r 4) := by
          show (#[.int .i64 0, .int .i64 (q 0), .int .i64 1, .int .i64 (q 1), .int .i64 2, .int .i64 (q 2), .int .i64 3, .int .i64 (q 3), .int .i64 (mxI q 4), .slice none 0 0, .map none, .slice none 0 0] : Array Value) = _
          rw [hmx, hqr 0 (by omega), hqr 1 (by omega), hqr 2 (by omega), hqr 3 (by omega)]
        rw [← e]; exact hG
      have hX : ∀ b, b < W.heap.size → b < wr.heap.size ∧ b ≠ g := fun b h => ⟨Nat.lt_of_lt_of_le h hb.size, by omega⟩
      clear hok hr hmx hG hQ
      replace hoq := Lib.hid hoq
      replace hqr := Lib.hid hqr
      replace hrb := Lib.hid hrb
      have cR := room_any wr g r (mxR r 4) (fun b => b < W.heap.size) hG' hrb.out hR1 hR2 hX
      replace cR := Lib.hid cR
      rw [show ((4 : Nat) : Int) = 4 from rfl]
      go_upto_region 11 with (first | (go_at_call 66; (refine cR.out.mono ?_); rintro e w1 ⟨rfl, k1, base, B, sv, tv, hbs, hw1⟩) | fail)
      have cL := lay_any w1 base g B r (mxR r 4) tv (fun b => b < W.heap.size) ⟨sv, hw1⟩ hrb.out hR1 hR2
      replace cL := Lib.hid cL
      go_upto_region 12 with (first | (go_at_call 67; (refine cL.out.mono ?_); rintro e w2 ⟨rfl, k2, sv2, hw2⟩) | fail)
      have cF := fill_any w2 base g B r (mxR r 4) sv2 (fun b => b < W.heap.size) ⟨tv, hw2⟩ hrb.out hR1 hR2
      replace cF := Lib.hid cF
      go_upto_region 13 with (first | (go_at_call 68; (refine cF.out.mono ?_); rintro e w3 ⟨rfl, k3, tv3, hw3⟩) | fail)
      have hb3 : Below W.heap.size W w3 := hb.trans (((k1.trans k2).trans k3).below fun b hb => hb)
      clear cR cL cF hw1 hw2 k1 k2 k3 hG'
      obtain ⟨A1, c1, rfl, hc1⟩ := own_len hw3.sp
      obtain ⟨A2, c2, rfl, hc2⟩ := own_len hw3.tr
      have c9 : w3.cell? ⟨g, 9, none⟩ = some (.slice A1 (spotsR r (mxR r 4)).length c1) := hw3.blk.cell 9
      have c11 : w3.cell? ⟨g, 11, none⟩ = some (.slice A2 (numT (spotsR r (mxR r 4)) (trisR r (mxR r 4))).length c2) := hw3.blk.cell 11
      have lg := hw3.blk.lt
      have hL1 : L3 w3 A1 (spotsR r (mxR r 4)) := L3_own hw3.sp
      have hL2 : L3 w3 A2 ((numT (spotsR r (mxR r 4)) (trisR r (mxR r 4))).map trZ) := by
        have h1 := hw3.tr
        rw [trC_eq] at h1
        have h2 : w3.ownsRow base 60 3 (.slice A2 ((numT (spotsR r (mxR r 4)) (trisR r (mxR r 4))).map trZ).length c2) ((numT (spotsR r (mxR r 4)) (trisR r (mxR r 4))).map trZ).length (spC ((numT (spotsR r (mxR r 4)) (trisR r (mxR r 4))).map trZ)) := by
          simp only [List.length_map]; exact h1
        exact L3_own h2
      have hfr : WvFr W.heap.size (.returned (.tuple #[.slice A1 (spotsR r (mxR r 4)).length c1, .slice A2 (numT (spotsR r (mxR r 4)) (trisR r (mxR r 4))).length c2, .bool true])) := fun v x b o n c e => by
        simp only [Ending.returned.injEq, Value.tuple.injEq, Array.mk.injEq, List.cons.injEq, Value.slice.injEq] at e
        obtain ⟨_, ⟨e2, _⟩, _⟩ := e
        subst e2
        rcases hw3.tr.2 with ⟨h1, _⟩ | ⟨g', cap, cur, h1, h2, _⟩
        · cases h1
        · cases h1
          have hbz := hb.size
          omega
      replace hfr := Lib.hid hfr
      clear hw3
      refine wp_region_grow (by kernel_rfl) (by kernel_rfl) ?_
      repeat (go_big_quiet_step (((fail))))
      refine wpQuiet_nil ?_
      rintro _ ⟨xg, rfl⟩
      go_wp2
      refine bodyPost_ret (v := .tuple #[.slice A1 (spotsR r (mxR r 4)).length c1, .slice A2 (numT (spotsR r (mxR r 4)) (trisR r (mxR r 4))).length c2, .bool true]) (by simp [results, Try.results43, go_sem]) rfl ⟨bel_grow hb3 xg, .inl ⟨hoq.out, r, A1, A2, c1, c2, hqr.out, hrb.out, rfl, hc1, hc2, hL1.below (xg.kept _), hL2.below (xg.kept _)⟩, hfr.out⟩
end Go.Proofs.Ytpaehkjnefgaiaa
namespace Go.Proofs.Ytpaehkjnefgaiaa
open Go.RowKit
set_option linter.unusedVariables false
set_option linter.unusedSimpArgs false
set_option linter.unnecessarySimpa false
set_option maxRecDepth 100000
theorem L3.at_ {W : World} {A : Option Addr} {l : List Spt} (h : L3 W A l) (i : Nat) (hi : i < l.length) : ∃ b off, A = some ⟨b, off, none⟩ ∧ b < W.heap.size ∧ W.cell? ⟨b, off + i * 3, none⟩ = some (.int .i64 l[i].1) ∧ W.cell? ⟨b, off + i * 3 + 1, none⟩ = some (.int .i64 l[i].2.1) ∧ W.cell? ⟨b, off + i * 3 + 2, none⟩ = some (.int .i64 l[i].2.2) := by
  obtain ⟨b, off, e, hl, hc⟩ := h (by omega)
  exact ⟨b, off, e, hl, hc i hi⟩
end Go.Proofs.Ytpaehkjnefgaiaa
namespace Go.Proofs.Ytpaehkjnefgaiaa
open Go.RowKit
set_option linter.unusedVariables false
set_option linter.unusedSimpArgs false
set_option linter.unnecessarySimpa false
set_option maxRecDepth 100000
theorem bel_ownW {a W W' : World} {row : Option Nat} (h : Below a.heap.size a W) (hg : W.grownBy W' row) (hB : ∀ k, row = some k → a.heap.size ≤ k) : Below a.heap.size a W' :=
  h.trans ⟨hg.os, hg.tape, hg.output, hg.size, fun k hk => hg.block k (Nat.lt_of_lt_of_le hk h.size) (by intro e; have := hB k e.symm; omega)⟩
section
variable {ops : Array Oper} {rest : List Oper} {o : Oper} {a : Act} {Q : Exit → Act → World → Prop}
end
end Go.Proofs.Ytpaehkjnefgaiaa
namespace Go.Proofs.Ytpaehkjnefgaiaa
open Go.RowKit
set_option linter.unusedVariables false
set_option linter.unusedSimpArgs false
set_option linter.unnecessarySimpa false
set_option maxRecDepth 100000
/-- The document's row of triangles, as it grows behind the world a1. -/
structure Dc (a1 w : World) (A : Option Addr) (c : Nat) (Z : List Spt) : Prop where
  bel : Below a1.heap.size a1 w
  own : w.ownsRow a1.heap.size 60 3 (.slice A Z.length c) Z.length (spC Z)
theorem Dc.lay {a1 w w' : World} {A : Option Addr} {c : Nat} {Z : List Spt} (h : Dc a1 w A c Z) (hb : Below w.heap.size w w') : Dc a1 w' A c Z := ⟨bel_trans h.bel hb, ownW_lay h.own hb⟩
theorem Dc.grow {a1 w : World} {A : Option Addr} {c : Nat} {Z : List Spt} (h : Dc a1 w A c Z) (x : More) : Dc a1 (Go.Proofs.Ytpaehkjnefgaiaa.grow w x) A c Z := h.lay (x.kept w)
end Go.Proofs.Ytpaehkjnefgaiaa
