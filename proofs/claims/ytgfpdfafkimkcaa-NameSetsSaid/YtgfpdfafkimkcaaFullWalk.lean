/-
  The law of full sets: its walk.
-/
import Derived.Test.YtgfpdfafkimkcaaDel
import Derived.Test.YtgfpdfafkimkcaaOpen
set_option linter.unusedVariables false
set_option linter.unusedSimpArgs false
namespace Go.Proofs.Ytgfpdfafkimkcaa
open Go.RowKit Go.Sort
attribute [local go_sem ↓] Go.wp_at_zero Go.wp_at_succ ld_a ld_n st_a st_n eq_a eq_n ne_a ne_n bsl_a bsl_n lv_a lv_n
attribute [local go_sem] run_ld_a run_ld_n run_st_n run_eq_a run_eq_n run_ne_a run_ne_n run_bsl1_a run_bsl1_n run_bsl2 run_lv_a run_lv_n st_z ne_z rd_new rd_old rd_drew rd_drewN rd_ext

theorem SetP.new_off {base p : Nat} {w : World} {M : Option Nat} {L : List D.Nm} (h : SetP base w p M L) (H : Nat) (hH : w.heap.size ≤ H) : ∀ ad, some (⟨H, 0, none⟩ : Addr) = some ad → ¬ Sf p M ad.block := by
  rintro ad e hs
  injection e with e
  subst e
  have := h.lt _ hs
  simp only at this
  omega
theorem SetP.below {base p : Nat} {w0 w w' : World} {M : Option Nat} {L : List D.Nm} (h : SetP base w p M L) (hb : Below base w0 w) (hl : base ≤ w.heap.size) (ho : Only (Sf p M) w w') : Below base w0 w' := hb.trans (ho.below hl h.ge)
theorem blk_only {base p : Nat} {w w' : World} {M : Option Nat} {L : List D.Nm} {g : Nat} {t : TypeId} {cs : Array Value} (h : SetP base w p M L) (hB : Blk w g t cs) (ht : t ≠ 48) (o : Only (Sf p M) w w') : Blk w' g t cs := ⟨(o.block g hB.lt (h.off hB ht)).trans hB.out⟩
/-- The name of a number below 100. -/
def nmS (i : Nat) : ByteArray := ⟨#[97]⟩ ++ D.sb [48 + i / 10, 48 + i % 10]
theorem ns_app (a b : ByteArray) : D.ns (a ++ b) = D.ns a ++ D.ns b := by
  simp [D.ns]
theorem ns_nmS {i : Nat} (h : i < 100) : D.ns (nmS i) = [97, 48 + i / 10, 48 + i % 10] := by
  rw [nmS, ns_app, D.ns_sb (by intro b hb; simp at hb; omega)]
  rfl
theorem is_nmS {i : Nat} (h : i < 100) : D.isB (D.ns (nmS i)) = true := by
  rw [ns_nmS h, D.isB_iff]
  refine ⟨by simp, by simp, rfl, fun c hc => ?_⟩
  simp at hc
  rcases hc with rfl | rfl | rfl
  · rfl
  · simp [D.mayB, D.letB]; omega
  · simp [D.mayB, D.letB]; omega
def an (i : Nat) : D.Nm := D.pad (nmS i)
theorem an_right {i : Nat} (h : i < 100) : D.right (an i) = true := D.pad_right (is_nmS h) (D.ns_lt _)
theorem an_inj {i j : Nat} (hi : i < 100) (hj : j < 100) (e : an i = an j) : i = j := by
  have h1 := D.pad_inj (is_nmS hi) (is_nmS hj) (D.Nm.eq_iff.1 e)
  rw [ns_nmS hi, ns_nmS hj] at h1
  simp at h1
  omega
/-- What the set holds behind so many rounds. -/
structure Inv (i : Nat) (L : List D.Nm) : Prop where
  held : Held L
  len : L.length = min i 64
  from_ : ∀ x ∈ L, ∃ j, j < i ∧ x = an j
  zero : 0 < i → an 0 ∈ L
theorem inv_nil : Inv 0 [] := ⟨held_nil, rfl, by simp, fun h => absurd h (by omega)⟩
theorem add1_in {L : List D.Nm} {x : D.Nm} (h : x ∈ L) : add1 L x = L := by unfold add1; rw [if_neg (fun h' => h'.2.1 h)]
theorem add1_new {L : List D.Nm} {x : D.Nm} (hr : D.right x = true) (h : x ∉ L) (hl : L.length < 64) : add1 L x = D.ins L x := by unfold add1; rw [if_pos ⟨hr, h, hl⟩]
theorem add1_full {L : List D.Nm} {x : D.Nm} (hl : 64 ≤ L.length) : add1 L x = L := by unfold add1; rw [if_neg (fun h' => by have := h'.2.2; omega)]
theorem Inv.next {i : Nat} {L : List D.Nm} (h : Inv i L) (hi : i < 100) : Inv (i + 1) (adds L [an i, an i]) ∧ (adds L [an i, an i]).length = L.length + (if i < 64 then 1 else 0) := by
  have hn : an i ∉ L := fun hx => by
    obtain ⟨j, hj, e⟩ := h.from_ _ hx
    have := an_inj hi (by omega) e
    omega
  have hl := h.len
  by_cases h64 : i < 64
  · have e : adds L [an i, an i] = D.ins L (an i) := by
      show add1 (add1 L (an i)) (an i) = _
      rw [add1_new (an_right hi) hn (by omega), add1_in (D.mem_ins.2 (.inl rfl))]
    rw [e, D.ins_len, if_pos h64]
    refine ⟨⟨⟨D.ins_nodup h.held.nodup hn, by rw [D.ins_len]; omega⟩, by rw [D.ins_len]; omega, fun x hx => ?_, fun _ => ?_⟩, rfl⟩
    · rcases D.mem_ins.1 hx with rfl | hx
      · exact ⟨i, by omega, rfl⟩
      · obtain ⟨j, hj, e⟩ := h.from_ x hx
        exact ⟨j, by omega, e⟩
    · by_cases h0 : i = 0
      · subst h0; exact D.mem_ins.2 (.inl rfl)
      · exact D.mem_ins.2 (.inr (h.zero (by omega)))
  · have e : adds L [an i, an i] = L := by
      show add1 (add1 L (an i)) (an i) = _
      rw [show add1 L (an i) = L from add1_full (by omega)]
      exact add1_full (by omega)
    rw [e, if_neg h64]
    refine ⟨⟨h.held, by omega, fun x hx => ?_, fun _ => h.zero (by omega)⟩, rfl⟩
    obtain ⟨j, hj, e⟩ := h.from_ x hx
    exact ⟨j, by omega, e⟩

theorem min_is (m l : Nat) (h : l = min m 64) : ∀ ts t W, (Builtin.min_ ts t #[.int .i64 (m : Int), .int .i64 64]).run Try.prog W = .ok (.int .i64 (l : Int)) W := fun ts t W => by
  rw [run_min_int2]
  congr 2
  split <;> omega
set_option maxRecDepth 100000 in
set_option maxHeartbeats 1000000 in
theorem full_all (n : Int) (s : ByteArray) (w : World) (h1 : -9223372036854775808 ≤ n) (h2 : n ≤ 9223372036854775807) (hs : s.size ≤ 9223372036854775807) : Calls Try.prog 7 #[.int .i64 n, .string s] w fun e w' => e = .returned (.bool true) ∧ Below w.heap.size w w' := by
  obtain ⟨z, hz⟩ : ∃ z : Nat, IntKind.u64.wrap n = z := ⟨(IntKind.u64.wrap n).toNat, by rw [IntKind.wrap_u64]; omega⟩
  have hz64 : z < 18446744073709551616 := by rw [IntKind.wrap_u64] at hz; omega
  obtain ⟨m, hm⟩ : ∃ m : Nat, z % 100 = m := ⟨_, rfl⟩
  have e2 : (z : Int) % 100 = (m : Int) := by omega
  have hm100 : m < 100 := by omega
  have S0 := set_new w w.heap.size (Nat.le_refl _)
  have z0 := below_alloc_ w (.cells #[.map none] 48)
  clear hm
  go_enter Try.func7, Try.ntmps7
  go_wp2
  clear hz e2
  go_loopw [6] (fun i wr => ∃ k : Nat, k ≤ m ∧ i = .int .i64 k ∧ ∃ M L, SetP w.heap.size wr w.heap.size M L ∧ Kept (Inv k L) ∧ Below w.heap.size w wr) (fun i _ => m - (intOf i).toNat)
  case atStart => exact ⟨0, Nat.zero_le _, rfl, none, [], S0, ⟨inv_nil⟩, z0⟩
  case round =>
    obtain ⟨k, hk, rfl, M, L, S, HI, hbel⟩ := hrel
    clear S0 z0
    by_cases hlt : k < m
    · have i1 : (k : Int) < (m : Int) := by omega
      have i2 : (0 : Int) ≤ (k : Int) := by omega
      obtain ⟨a, ha⟩ : ∃ a, 48 + k / 10 = a := ⟨_, rfl⟩
      obtain ⟨b, hb⟩ : ∃ b, 48 + k % 10 = b := ⟨_, rfl⟩
      have cP := fun w => parse_yes (nmS k) w (is_nmS (by omega))
      have hnm : nmS k = ⟨#[97]⟩ ++ D.sb [a, b] := by rw [nmS, ha, hb]
      rw [hnm, ← hnm, show D.pad (nmS k) = an k from rfl, hnm] at cP
      have CP := Lib.hid cP
      obtain ⟨HN, hcnt⟩ := HI.out.next (by omega)
      have hlen := HI.out.len
      have hle := HI.out.held.le
      have CA := Lib.hid (fun g W hs hg => add_any w.heap.size w.heap.size M (some ⟨g, 0, none⟩) 2 2 L [an k, an k] W hs HI.out.held hg)
      obtain ⟨K, hK⟩ : ∃ K, adds L [an k, an k] = K := ⟨_, rfl⟩
      have HNK := Lib.hid HN
      rw [hK] at hcnt CA HNK
      obtain ⟨y, hy⟩ : ∃ y, an k = y := ⟨_, rfl⟩
      rw [hy] at CP CA
      have e3 : 48 + (k : Int) / 10 = (a : Int) := by omega
      have e4 : 48 + (k : Int) % 10 = (b : Int) := by omega
      have l3 : (a : Int) ≤ 57 := by omega
      have l4 : (b : Int) ≤ 57 := by omega
      have hR : Row (wr.alloc (.cells #[.int .u8 (a : Int), .int .u8 (b : Int)] 5)) (some ⟨wr.heap.size, 0, none⟩) 2 (bys [a, b]) := ⟨rfl, fun _ => ⟨_, rfl, by simp, World.news_of_block (heap_alloc_new wr _)⟩⟩
      have hstr := str_run _ _ 2 2 [a, b] hR (by intro c hc; simp at hc; omega)
      have S1 := S.alloc (.cells #[.int .u8 (a : Int), .int .u8 (b : Int)] 5)
      have z1 := hbel.alloc hbel.size (.cells #[.int .u8 (a : Int), .int .u8 (b : Int)] 5)
      clear hnm cP HN hK hy ha hb hR
      by_cases h64 : k < 64
      · have j64 : (k : Int) < 64 := by omega
        have hone : (K.length : Int) - (L.length : Int) = 1 := by rw [hcnt, if_pos h64]; omega
        clear hcnt hlen
        go_wp2_with (first
          | (go_at_call 9; (with_reducible refine (CP.out _).mono ?_); rintro e w1 ⟨rfl, b1⟩; have f1 := rd_new w1 _ 23 y rfl; have S2 := S1.on b1; have S3 := (S2.alloc (.cells (nc y) 23)).alloc (.cells (nc y ++ nc y) 23); have R3 := nrow_two (w1.alloc (.cells (nc y) 23)) 23 (w1.heap.size + 1) y y (by simp); have O3 := S2.new_off (w1.heap.size + 1) (by omega); have z3 := ((From.mk z1).on b1).alloc (.cells (nc y) 23) |>.alloc (.cells (nc y ++ nc y) 23))
          | (go_at_call 24; (with_reducible refine (CA.out _ _ S3 R3 O3 (by omega)).mono ?_); rintro e w2 ⟨rfl, M2, S4, o4, x4⟩; have z4 := S3.below z3.below z3.below.size o4))
        go_roundw
        case rel => exact ⟨k + 1, by omega, by go_num, M2, K, S4, ⟨HNK.out⟩, z4⟩
        case measure => simp [intOf]; omega
      · have j64 : (64 : Int) ≤ (k : Int) := by omega
        have hone : (K.length : Int) - (L.length : Int) = 0 := by rw [hcnt, if_neg h64]; omega
        clear hcnt hlen
        go_wp2_with (first
          | (go_at_call 9; (with_reducible refine (CP.out _).mono ?_); rintro e w1 ⟨rfl, b1⟩; have f1 := rd_new w1 _ 23 y rfl; have S2 := S1.on b1; have S3 := (S2.alloc (.cells (nc y) 23)).alloc (.cells (nc y ++ nc y) 23); have R3 := nrow_two (w1.alloc (.cells (nc y) 23)) 23 (w1.heap.size + 1) y y (by simp); have O3 := S2.new_off (w1.heap.size + 1) (by omega); have z3 := ((From.mk z1).on b1).alloc (.cells (nc y) 23) |>.alloc (.cells (nc y ++ nc y) 23))
          | (go_at_call 24; (with_reducible refine (CA.out _ _ S3 R3 O3 (by omega)).mono ?_); rintro e w2 ⟨rfl, M2, S4, o4, x4⟩; have z4 := S3.below z3.below z3.below.size o4))
        go_roundw
        case rel => exact ⟨k + 1, by omega, by go_num, M2, K, S4, ⟨HNK.out⟩, z4⟩
        case measure => simp [intOf]; omega
    · obtain rfl : m = k := by omega
      have hmin := min_is m L.length (by rw [HI.out.len])
      have hle := HI.out.held.le
      have i1 : ¬ (m : Int) < (m : Int) := by omega
      have zb : From w wr := ⟨hbel⟩
      cases h1 : D.isB (D.ns s)
      · have C1 := Lib.hid (fun w => parse_no s w h1)
        clear h1
        go_wp2_with (first
          | (go_at_call 9; (with_reducible refine (C1.out _).mono ?_); rintro e w1 ⟨rfl, b1⟩; have S1 := (S.on b1).alloc (.cells (nc D.zero) 23); have z1 := (zb.on b1).alloc (.cells (nc D.zero) 23))
          | (go_at_call 15; (with_reducible refine (known_any _).mono ?_); rintro e w2 ⟨rfl, b2⟩; have S2 := S1.on b2; have z2 := z1.on b2)
          | (go_at_call 26; (with_reducible refine (len_any _ _ _ _ _ S2).mono ?_); rintro e w3 ⟨rfl, rfl⟩))
        go_ret
        exact ⟨rfl, z2.below⟩
      · have C1 := Lib.hid (fun w => parse_yes s w h1)
        have hyr : D.right (D.pad s) = true := D.pad_right h1 (D.ns_lt s)
        obtain ⟨y, hy⟩ : ∃ y, D.pad s = y := ⟨_, rfl⟩
        rw [hy] at C1 hyr
        clear h1 hy
        by_cases hin : y ∈ L
        · have CH := Lib.hid (fun W hs => has_any w.heap.size w.heap.size M L y W hs)
          rw [decide_eq_true hin] at CH
          clear hyr hin
          go_wp2_with (first
            | (go_at_call 9; (with_reducible refine (C1.out _).mono ?_); rintro e w1 ⟨rfl, b1⟩; have S1 := (S.on b1).alloc (.cells (nc y) 23); have z1 := (zb.on b1).alloc (.cells (nc y) 23); have f1 := rd_new w1 _ 23 y rfl)
            | (go_at_call 27; (with_reducible refine (CH.out _ S1).mono ?_); rintro e w2 ⟨rfl, b2⟩; have S2 := S1.on b2; have z2 := z1.on b2)
            | (go_at_call 15; (with_reducible refine (known_any _).mono ?_); rintro e w3 ⟨rfl, b3⟩; have S3 := S2.on b3; have z3 := z2.on b3)
            | (go_at_call 26; (with_reducible refine (len_any _ _ _ _ _ S3).mono ?_); rintro e w4 ⟨rfl, rfl⟩))
          go_ret
          exact ⟨rfl, z3.below⟩
        · have CH := Lib.hid (fun W hs => has_any w.heap.size w.heap.size M L y W hs)
          rw [decide_eq_false hin] at CH
          have CZ := Lib.hid (fun w => parse_yes ⟨#[97, 48, 48]⟩ w (by decide))
          rw [show D.pad ⟨#[97, 48, 48]⟩ = an 0 from rfl] at CZ
          have CA := Lib.hid (fun g W hs hg => add_any w.heap.size w.heap.size M (some ⟨g, 0, none⟩) 1 1 L [y] W hs HI.out.held hg)
          by_cases h64 : m < 64
          · have e1 : adds L [y] = D.ins L y := add1_new hyr hin (by rw [HI.out.len]; omega)
            rw [e1] at CA
            have hone : ((D.ins L y).length : Int) - (L.length : Int) = 1 := by rw [D.ins_len]; omega
            have j64 : (m : Int) < 64 := by omega
            obtain ⟨K, hK⟩ : ∃ K, D.ins L y = K := ⟨_, rfl⟩
            rw [hK] at CA hone
            clear hyr hin e1 hK
            go_wp2_with (first
              | (go_at_call 9; (with_reducible refine (C1.out _).mono ?_); rintro e w1 ⟨rfl, b1⟩; have S1 := (S.on b1).alloc (.cells (nc y) 23); have z1 := (zb.on b1).alloc (.cells (nc y) 23); have f1 := rd_new w1 _ 23 y rfl)
              | (go_at_call 27; (with_reducible refine (CH.out _ S1).mono ?_); rintro e w2 ⟨rfl, b2⟩; have S2 := S1.on b2; have z2 := z1.on b2; have f2 := rd_on f1 b2; have s2 : w1.heap.size < w2.heap.size := ((from_self _).on b2).lt (by simp))
              | (go_at_call 9; (with_reducible refine (CZ.out _).mono ?_); rintro e w3 ⟨rfl, b3⟩; have S3 := ((S2.on b3).alloc (.cells (nc (an 0)) 23)).alloc (.cells (nc y) 23); have z3 := ((z2.on b3).alloc (.cells (nc (an 0)) 23)).alloc (.cells (nc y) 23); have f3 := rd_on f2 b3; have s3 : w1.heap.size < w3.heap.size := ((from_self _).on b3).lt s2; have R3 := nrow_one (w3.alloc (.cells (nc (an 0)) 23)) 23 (w3.heap.size + 1) y (by simp); have O3 := (S2.on b3).new_off (w3.heap.size + 1) (by omega))
              | (go_at_call 24; (with_reducible refine (CA.out _ _ S3 R3 O3 (by omega)).mono ?_); rintro e w4 ⟨rfl, M4, S4, o4, x4⟩; have z4 : From w w4 := ⟨S3.below z3.below z3.below.size o4⟩)
              | (go_at_call 15; (with_reducible refine (known_any _).mono ?_); rintro e w5 ⟨rfl, b5⟩; have z5 := z4.on b5))
            go_ret
            exact ⟨bool_of (by rw [decide_eq_false (by omega)]; rfl), z5.below⟩
          · have hl64 : L.length = 64 := by rw [HI.out.len]; omega
            have e1 : adds L [y] = L := add1_full (by omega)
            have hz0 : an 0 ∈ L := HI.out.zero (by omega)
            have hd1 := D.wo_len HI.out.held.nodup (an 0)
            rw [if_pos hz0] at hd1
            have e2 : adds (D.wo L (an 0)) [y] = D.ins (D.wo L (an 0)) y := add1_new hyr (fun h => hin (D.mem_wo.1 h).1) (by omega)
            have HD := HI.out.held.wo (an 0)
            have CD := Lib.hid (fun M g W hs hg => del_any w.heap.size w.heap.size M (some ⟨g, 0, none⟩) 1 1 L [an 0] W hs HI.out.held hg)
            rw [show dels L [an 0] = D.wo L (an 0) from rfl] at CD
            have CB := Lib.hid (fun M g W hs hg => add_any w.heap.size w.heap.size M (some ⟨g, 0, none⟩) 1 1 (D.wo L (an 0)) [y] W hs HD hg)
            rw [e1] at CA
            rw [e2] at CB
            have h1 : (L.length : Int) - ((D.wo L (an 0)).length : Int) = 1 := by omega
            have h2 : ((D.ins (D.wo L (an 0)) y).length : Int) - ((D.wo L (an 0)).length : Int) = 1 := by rw [D.ins_len]; omega
            have h3 : ((D.ins (D.wo L (an 0)) y).length : Int) = 64 := by rw [D.ins_len]; omega
            have j64 : (64 : Int) ≤ (m : Int) := by omega
            obtain ⟨K, hK⟩ : ∃ K, D.wo L (an 0) = K := ⟨_, rfl⟩
            rw [hK] at CD CB h1 h2 h3
            obtain ⟨J, hJ⟩ : ∃ J, D.ins K y = J := ⟨_, rfl⟩
            rw [hJ] at CB h2 h3
            obtain ⟨a0, ha0⟩ : ∃ a0, an 0 = a0 := ⟨_, rfl⟩
            rw [ha0] at CZ CD
            clear hyr hin e1 e2 hK hJ hd1 hz0 HD ha0 hl64
            go_wp2_with (first
              | (go_at_call 9; (with_reducible refine (C1.out _).mono ?_); rintro e w1 ⟨rfl, b1⟩; have S1 := (S.on b1).alloc (.cells (nc y) 23); have z1 := (zb.on b1).alloc (.cells (nc y) 23); have B1 := Blk.new w1 23 (nc y); have f1 := rd_blk B1)
              | (go_at_call 27; (with_reducible refine (CH.out _ S1).mono ?_); rintro e w2 ⟨rfl, b2⟩; have S2 := S1.on b2; have z2 := z1.on b2; have B2 := B1.on b2)
              | (go_at_call 9; (with_reducible refine (CZ.out _).mono ?_); rintro e w3 ⟨rfl, b3⟩; have S3 := ((S2.on b3).alloc (.cells (nc a0) 23)).alloc (.cells (nc y) 23); have z3 := ((z2.on b3).alloc (.cells (nc a0) 23)).alloc (.cells (nc y) 23); have B3 := ((B2.on b3).alloc (.cells (nc a0) 23)).alloc (.cells (nc y) 23); have A3 := (Blk.new w3 23 (nc a0)).alloc (.cells (nc y) 23); have f3 := rd_blk (B2.on b3); have s3 : w1.heap.size < w3.heap.size := (B2.on b3).lt; have R3 := nrow_one (w3.alloc (.cells (nc a0) 23)) 23 (w3.heap.size + 1) y (by simp); have O3 := (S2.on b3).new_off (w3.heap.size + 1) (by omega))
              | (go_at_call 24; (with_reducible refine (CA.out _ _ S3 R3 O3 (by omega)).mono ?_); rintro e w4 ⟨rfl, M4, S4, o4, x4⟩; have z4 : From w w4 := ⟨S3.below z3.below z3.below.size o4⟩; have B4 := blk_only S3 B3 (by decide) o4; have A4 := blk_only S3 A3 (by decide) o4)
              | (go_at_call 15; (with_reducible refine (known_any _).mono ?_); rintro e w5 ⟨rfl, b5⟩; have z5 := (z4.on b5).alloc (.cells (nc a0) 23); have S5 := (S4.on b5).alloc (.cells (nc a0) 23); have B5 := (B4.on b5).alloc (.cells (nc a0) 23); have f5 := rd_blk (A4.on b5); have R5 := nrow_one w5 23 w5.heap.size a0 rfl; have O5 := (S4.on b5).new_off w5.heap.size (by omega))
              | (go_at_call 23; (with_reducible refine (CD.out _ _ _ S5 R5 O5 (by omega)).mono ?_); rintro e w6 ⟨rfl, S6, o6⟩; have z6 : From w w6 := ⟨S5.below z5.below z5.below.size o6⟩; have B6 := blk_only S5 B5 (by decide) o6; have f6 := rd_blk B6; have S7 := S6.alloc (.cells (nc y) 23); have z7 := z6.alloc (.cells (nc y) 23); have R7 := nrow_one w6 23 w6.heap.size y rfl; have O7 := S6.new_off w6.heap.size (by omega))
              | (go_at_call 24; (with_reducible refine (CB.out _ _ _ S7 R7 O7 (by omega)).mono ?_); rintro e w8 ⟨rfl, M8, S8, o8, x8⟩; have z8 : From w w8 := ⟨S7.below z7.below z7.below.size o8⟩)
              | (go_at_call 26; (with_reducible refine (len_any _ _ _ _ _ S8).mono ?_); rintro e w9 ⟨rfl, rfl⟩))
            go_ret
            exact ⟨rfl, z8.below⟩
theorem full_law (n : Int) (s : ByteArray) (w : World) (hw : (Lit.int .i64 n).wf = true) (hs : s.size ≤ 9223372036854775807) : Calls Try.prog 7 #[.int .i64 n, .string s] w fun e w' => e = .returned (.bool true) ∧ Below w.heap.size w w' :=
  full_all n s w (bounds_i64 hw).1 (bounds_i64 hw).2 hs
end Go.Proofs.Ytgfpdfafkimkcaa
