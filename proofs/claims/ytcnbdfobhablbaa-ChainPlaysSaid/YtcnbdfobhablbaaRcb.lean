/-
  Records as bytes are read as they were; what is read are its bytes; one byte less is read to the end. No program is spoken of.
-/
import Derived.Test.YtcnbdfobhablbaaRcm
set_option linter.unusedVariables false
set_option maxRecDepth 100000
set_option linter.unusedSimpArgs false
namespace Go.Proofs.Ytcnbdfobhablbaa
namespace D
theorem drop_app {l b r : List Nat} {n : Nat} (h : l.drop n = b ++ r) : l.drop (n + b.length) = r := by
  rw [← List.drop_drop, h, List.drop_left]
theorem ns_sb_ {l : List Nat} (h : ∀ b ∈ l, b < 256) : ns (sb l) = l := by
  unfold ns sb
  simp only [List.map_map]
  have : ∀ b ∈ l, ((fun x : UInt8 => x.toNat) ∘ UInt8.ofNat) b = b := fun b hb => by
    have := h b hb
    simp; omega
  rw [List.map_congr_left this]
  simp
theorem sb_size (l : List Nat) : (sb l).size = l.length := by simp [sb, ByteArray.size]
theorem rd_byte {x : Nat} (hx : x < 256) (m : Nat) (r : List Nat) : rd 0 m (x :: r) = ⟨x, [], 1, 0⟩ := by
  rw [rd0, fix, if_neg (by simp)]
  simp [val]
theorem rd_num {x m : Nat} (h : x ≤ m) (hx : x < 18446744073709551616) (r : List Nat) : rd 3 m (sm x ++ r) = ⟨x, [], (sm x).length, 0⟩ := by
  rw [rd3, num, readS_back hx]
  simp
  omega
theorem rd_txt {t : ByteArray} {m : Nat} (h : t.size ≤ m) (hx : t.size < 18446744073709551616) (r : List Nat) : rd 4 m (rtxt_ t ++ r) = ⟨0, ns t, (rtxt_ t).length, 0⟩ := by
  have hl := ns_len t
  have h1 : ¬ m < t.size := by omega
  have h2 : ¬ t.size + r.length < t.size := by omega
  rw [rd4, txt, rtxt_, List.append_assoc, readS_back hx]
  simp [hl, h1, h2]
theorem zn_ok {l b r : List Nat} {n : Nat} {k : Int} {m x : Nat} {s : List Nat} (h : l.drop n = b ++ r) (hr : rd k m (b ++ r) = ⟨x, s, b.length, 0⟩) : zn l ⟨n, 0⟩ k m = ⟨n + b.length, 0⟩ ∧ zx l ⟨n, 0⟩ k m = x ∧ zs l ⟨n, 0⟩ k m = s ∧ l.drop (n + b.length) = r := by
  refine ⟨?_, ?_, ?_, drop_app h⟩
  · simp [zn, h, hr]
  · simp [zx, h, hr]
  · simp [zs, h, hr]
theorem at_drop {l r : List Nat} {n x : Nat} (h : l.drop n = x :: r) : l[n]? = some x := by
  have := congrArg (·[0]?) h
  simpa using this
theorem fst2_0 {a b : Nat} (h : fst2 a b = 0) : a = 0 ∧ b = 0 := by
  unfold fst2 at h
  split at h
  · exact ⟨‹_›, h⟩
  · omega
theorem rdr_back {r : Rc} (hw : r.wf) (hc : chk r = 0) {l q : List Nat} {n : Nat} (hl : l.drop n = rby r ++ q) : rdr l n = ⟨r, n + (rby r).length, 0⟩ := by
  have ha := hw.a
  have hv := hw.v
  have hk := hw.k
  have hat := at_drop (show l.drop n = r.k :: (rtl r ++ q) from hl)
  have hd : l.drop (n + 1) = rtl r ++ q := drop_app (b := [r.k]) hl
  have hkc := chk_kind hc
  have h6 : ¬ (r.k = 0 ∨ 6 < r.k) := by omega
  unfold rdr
  rw [hat]
  simp only [if_neg h6]
  have key : rfs l ⟨n + 1, 0⟩ r.k = ⟨r, ⟨n + 1 + (rtl r).length, 0⟩, false⟩ := by
    rcases hkc with e | e | e | e | e | e
    · obtain ⟨e1, h1⟩ := chk_1 e hc
      rw [e1] at hd ⊢
      obtain ⟨p1, p2, p3, p4⟩ := zn_ok (b := [r.u]) hd (rd_byte (by omega) 0 q)
      simp [rfs, rtl, p1, p2]
    · obtain ⟨e1, h1⟩ := chk_2 e hc
      rw [e1] at hd ⊢
      obtain ⟨p1, p2, p3, p4⟩ := zn_ok (b := [r.m]) hd (rd_byte (by omega) 0 q)
      simp [rfs, rtl, p1, p2]
    · have e1 := chk_3 e hc
      rw [e1]
      simp [rfs, rtl, bare]
    · obtain ⟨e1, h1, h2⟩ := chk_4 e hc
      rw [e1] at hd ⊢
      simp only [rtl, List.append_assoc] at hd
      obtain ⟨p1, p2, p3, p4⟩ := zn_ok (b := [r.p]) hd (rd_byte (by omega) 0 _)
      obtain ⟨q1, q2, q3, q4⟩ := zn_ok (b := [r.s]) p4 (rd_byte (by omega) 0 _)
      obtain ⟨r1, r2, r3, r4⟩ := zn_ok (b := sm r.a) q4 (rd_num (m := mxA) (by unfold mxA; omega) ha _)
      simp only [rfs, p1, p2, q1, q2, r1, r2, rtl]
      simp; omega
    · obtain ⟨e1, h1, h2, h3, h4⟩ := chk_5 e hc
      have hg : (if r.g = true then 1 else 0) < 256 := by split <;> omega
      rw [e1] at hd ⊢
      simp only [rtl, List.append_assoc] at hd
      obtain ⟨p1, p2, p3, p4⟩ := zn_ok (b := [if r.g = true then 1 else 0]) hd (rd_byte hg 0 _)
      obtain ⟨q1, q2, q3, q4⟩ := zn_ok (b := sm r.v) p4 (rd_num (m := mxR) (by unfold mxR; omega) (by omega) _)
      obtain ⟨r1, r2, r3, r4⟩ := zn_ok (b := rtxt_ r.t) q4 (rd_txt (m := 60) h3 (by omega) _)
      simp only [rfs, p1, p2, q1, q2, r1, r2, r3, rtl, sb_ns]
      cases r.g <;> simp <;> omega
    · obtain ⟨e1, h1, h2, h3, h4, h5, h7⟩ := chk_6 e hc
      rw [e1] at hd ⊢
      simp only [rtl, List.append_assoc] at hd
      obtain ⟨p1, p2, p3, p4⟩ := zn_ok (b := [r.s]) hd (rd_byte (by omega) 0 _)
      obtain ⟨s1, s2, s3, s4⟩ := zn_ok (b := [r.u]) p4 (rd_byte (by omega) 0 _)
      obtain ⟨q1, q2, q3, q4⟩ := zn_ok (b := sm r.v) s4 (rd_num (m := mxR) (by unfold mxR; omega) (by omega) _)
      obtain ⟨r1, r2, r3, r4⟩ := zn_ok (b := rtxt_ r.t) q4 (rd_txt (m := 60) h7 (by omega) _)
      simp only [rfs, p1, p2, s1, s2, q1, q2, r1, r2, r3, rtl, sb_ns]
      simp; omega
  rw [key]
  simp [fst2, hc, rby]
  omega
/-- What is read without an error stands there. -/
theorem rd_in {l : List Nat} (hl : ∀ b ∈ l, b < 256) {n : Nat} {k : Int} {m : Nat} (h : (zn l ⟨n, 0⟩ k m).e = 0) :
    (k = 0 → l.drop n = zx l ⟨n, 0⟩ k m :: l.drop (n + 1) ∧ (zn l ⟨n, 0⟩ k m).n = n + 1 ∧ zx l ⟨n, 0⟩ k m < 256) ∧
    (k = 3 → l.drop n = sm (zx l ⟨n, 0⟩ k m) ++ l.drop (zn l ⟨n, 0⟩ k m).n ∧ zx l ⟨n, 0⟩ k m ≤ m ∧ zx l ⟨n, 0⟩ k m < 18446744073709551616) ∧
    (k = 4 → l.drop n = rtxt_ (sb (zs l ⟨n, 0⟩ k m)) ++ l.drop (zn l ⟨n, 0⟩ k m).n) := by
  have hd : ∀ b ∈ l.drop n, b < 256 := fun b hb => hl b (List.mem_of_mem_drop hb)
  have hn : (zn l ⟨n, 0⟩ k m) = ⟨n + (rd k m (l.drop n)).k, (rd k m (l.drop n)).e⟩ := by simp [zn]
  have hx : zx l ⟨n, 0⟩ k m = (rd k m (l.drop n)).x := by simp [zx]
  have hs : zs l ⟨n, 0⟩ k m = (rd k m (l.drop n)).s := by simp [zs]
  rw [hn] at h
  simp only at h
  rw [hn, hx, hs]
  simp only [← List.drop_drop]
  generalize l.drop n = r at *
  refine ⟨?_, ?_, ?_⟩
  · rintro rfl
    rw [rd0] at h ⊢
    unfold fix at h ⊢
    by_cases h1 : r.length < 1
    · simp [h1] at h
    · rw [if_neg h1]
      cases r with
      | nil => simp at h1
      | cons x r =>
        have := hd x (by simp)
        simp [val, this]
  · rintro rfl
    rw [rd3] at h ⊢
    unfold num at h ⊢
    rcases hr : readS r with ⟨x, k, e⟩
    rw [hr] at h
    simp only at h ⊢
    by_cases he : e ≠ 0
    · rw [if_pos he] at h
      exact absurd h he
    · rw [if_neg he] at h ⊢
      by_cases hm : m < x
      · rw [if_pos hm] at h
        cases h
      · rw [if_neg hm]
        have e0 : e = 0 := by omega
        subst e0
        obtain ⟨h1, h2, h3⟩ := readS_just hd hr
        simp only
        rw [h3, List.take_append_drop]
        exact ⟨rfl, by omega, readS_bd hd hr⟩
  · rintro rfl
    rw [rd4] at h ⊢
    unfold txt at h ⊢
    rcases hr : readS r with ⟨x, k, e⟩
    rw [hr] at h
    simp only at h ⊢
    by_cases he : e ≠ 0
    · rw [if_pos he] at h
      exact absurd h he
    · rw [if_neg he] at h ⊢
      by_cases hm : m < x
      · rw [if_pos hm] at h
        cases h
      · rw [if_neg hm] at h ⊢
        by_cases hk : r.length - k < x
        · rw [if_pos hk] at h
          cases h
        · rw [if_neg hk]
          have e0 : e = 0 := by omega
          subst e0
          obtain ⟨h1, h2, h3⟩ := readS_just hd hr
          simp only [rtxt_]
          have hsz : (sb ((r.drop k).take x)).size = x := by rw [sb_size]; simp; omega
          rw [hsz, h3, ns_sb_ (fun b hb => hd b (List.mem_of_mem_drop (List.mem_of_mem_take hb))), List.append_assoc, ← List.drop_drop, List.take_append_drop, List.take_append_drop]
theorem zn_e {l : List Nat} {z : Rz} {k : Int} {m : Nat} (h : (zn l z k m).e = 0) : z.e = 0 := by
  unfold zn at h
  split at h
  · assumption
  · exact h
theorem z_eta {z : Rz} (h : z.e = 0) : z = ⟨z.n, 0⟩ := by
  cases z; simp only at h; subst h; rfl
theorem rdr_just {l : List Nat} (hl : ∀ b ∈ l, b < 256) {n : Nat} (h : (rdr l n).e = 0) : chk (rdr l n).r = 0 ∧ l.drop n = rby (rdr l n).r ++ l.drop (rdr l n).n ∧ (rdr l n).r.wf := by
  unfold rdr at h ⊢
  cases hk : l[n]? with
  | none => rw [hk] at h; simp at h
  | some k =>
    rw [hk] at h
    simp only at h ⊢
    by_cases h6 : k = 0 ∨ 6 < k
    · rw [if_pos h6] at h; simp at h
    · rw [if_neg h6] at h ⊢
      by_cases he : fst2 (fst2 (rfs l ⟨n + 1, 0⟩ k).z.e (if (rfs l ⟨n + 1, 0⟩ k).odd = true then 5 else 0)) (chk (rfs l ⟨n + 1, 0⟩ k).r) = 0
      · rw [if_pos he]
        obtain ⟨he1, he3⟩ := fst2_0 he
        obtain ⟨he1, he2⟩ := fst2_0 he1
        simp only
        have hd0 : l.drop n = k :: l.drop (n + 1) := by
          obtain ⟨hlt, e⟩ := List.getElem?_eq_some_iff.1 hk
          rw [List.drop_eq_getElem_cons hlt, e]
        have hk1 : k = 1 ∨ k = 2 ∨ k = 3 ∨ k = 4 ∨ k = 5 ∨ k = 6 := by omega
        refine ⟨he3, ?_, ?_⟩
        · rw [hd0]
          clear he hd0
          rcases hk1 with rfl | rfl | rfl | rfl | rfl | rfl
          · simp only [rfs] at he1 ⊢
            obtain ⟨a1, a2, a3⟩ := (rd_in hl he1).1 rfl
            simp only [rby, rtl, a2]
            rw [a1]; rfl
          · simp only [rfs] at he1 ⊢
            obtain ⟨a1, a2, a3⟩ := (rd_in hl he1).1 rfl
            simp only [rby, rtl, a2]
            rw [a1]; rfl
          · simp only [rfs, bare, rby, rtl, List.nil_append, List.cons_append]
          · simp only [rfs] at he1 ⊢
            have e2 := zn_e he1
            have e1 := zn_e e2
            obtain ⟨a1, a2, a3⟩ := (rd_in hl e1).1 rfl
            rw [z_eta e1] at e2 he1 ⊢
            obtain ⟨b1, b2, b3⟩ := (rd_in hl e2).1 rfl
            rw [z_eta e2] at he1 ⊢
            obtain ⟨c1, c2, c3⟩ := (rd_in hl he1).2.1 rfl
            simp only [rby, rtl, List.append_assoc, List.cons_append, List.nil_append]
            rw [← c1, b2, ← b1, a2, ← a1]
          · simp only [rfs] at he1 he2 ⊢
            have e2 := zn_e he1
            have e1 := zn_e e2
            obtain ⟨a1, a2, a3⟩ := (rd_in hl e1).1 rfl
            rw [z_eta e1] at e2 he1 ⊢
            obtain ⟨b1, b2, b3⟩ := (rd_in hl e2).2.1 rfl
            rw [z_eta e2] at he1 ⊢
            have c1 := (rd_in hl he1).2.2 rfl
            simp only [rby, rtl, List.append_assoc, List.cons_append, List.nil_append]
            rw [← c1, ← b1, a2]
            have ho : (if decide (zx l ⟨n + 1, 0⟩ 0 0 = 1) = true then 1 else 0) = zx l ⟨n + 1, 0⟩ 0 0 := by
              by_cases hb : 1 < zx l ⟨n + 1, 0⟩ 0 0
              · simp [hb] at he2
              · by_cases hb1 : zx l ⟨n + 1, 0⟩ 0 0 = 1
                · simp [hb1]
                · simp [hb1]; omega
            rw [ho, ← a1]
          · simp only [rfs] at he1 ⊢
            have e3 := zn_e he1
            have e2 := zn_e e3
            have e1 := zn_e e2
            obtain ⟨a1, a2, a3⟩ := (rd_in hl e1).1 rfl
            rw [z_eta e1] at e2 e3 he1 ⊢
            obtain ⟨d1, d2, d3⟩ := (rd_in hl e2).1 rfl
            rw [z_eta e2] at e3 he1 ⊢
            obtain ⟨b1, b2, b3⟩ := (rd_in hl e3).2.1 rfl
            rw [z_eta e3] at he1 ⊢
            have c1 := (rd_in hl he1).2.2 rfl
            simp only [rby, rtl, List.append_assoc, List.cons_append, List.nil_append]
            rw [← c1, ← b1, d2, ← d1, a2, ← a1]
        · clear he hd0
          rcases hk1 with rfl | rfl | rfl | rfl | rfl | rfl
          · simp only [rfs] at he1 ⊢
            obtain ⟨a1, a2, a3⟩ := (rd_in hl he1).1 rfl
            constructor <;> simp only <;> omega
          · simp only [rfs] at he1 ⊢
            obtain ⟨a1, a2, a3⟩ := (rd_in hl he1).1 rfl
            constructor <;> simp only <;> omega
          · simp only [rfs, bare]
            constructor <;> simp
          · simp only [rfs] at he1 ⊢
            have e2 := zn_e he1
            have e1 := zn_e e2
            obtain ⟨a1, a2, a3⟩ := (rd_in hl e1).1 rfl
            rw [z_eta e1] at e2 he1 ⊢
            obtain ⟨b1, b2, b3⟩ := (rd_in hl e2).1 rfl
            rw [z_eta e2] at he1 ⊢
            obtain ⟨c1, c2, c3⟩ := (rd_in hl he1).2.1 rfl
            constructor <;> simp only <;> omega
          · simp only [rfs] at he1 ⊢
            have e2 := zn_e he1
            have e1 := zn_e e2
            rw [z_eta e1] at e2 he1 ⊢
            obtain ⟨b1, b2, b3⟩ := (rd_in hl e2).2.1 rfl
            unfold mxR at *
            constructor <;> simp only <;> omega
          · simp only [rfs] at he1 ⊢
            have e3 := zn_e he1
            have e2 := zn_e e3
            have e1 := zn_e e2
            obtain ⟨a1, a2, a3⟩ := (rd_in hl e1).1 rfl
            rw [z_eta e1] at e2 e3 he1 ⊢
            obtain ⟨d1, d2, d3⟩ := (rd_in hl e2).1 rfl
            rw [z_eta e2] at e3 he1 ⊢
            obtain ⟨b1, b2, b3⟩ := (rd_in hl e3).2.1 rfl
            unfold mxR at *
            constructor <;> simp only <;> omega
      · rw [if_neg he] at h
        exact absurd h he
/-- A number's bytes without the last: the end. -/
theorem rs_cut {m : Nat} : ∀ (i a : Nat), i ≤ 9 → m < 2 ^ (64 - 7 * i) → (rs (sm m).dropLast i a) = (0, 0, 4) := by
  induction m using sm.induct with
  | case1 m h =>
    intro i a hi hm
    rw [sm_last h]; rfl
  | case2 m h ih =>
    intro i a hi hm
    have hi9 : i ≠ 9 := by
      rintro rfl
      simp at hm; omega
    have hp : 2 ^ (64 - 7 * i) = 2 ^ (64 - 7 * (i + 1)) * 128 := by rw [← Nat.pow_add 2 _ 7, show 64 - 7 * i = 64 - 7 * (i + 1) + 7 by omega]
    have hne : sm (m / 128) ≠ [] := by
      intro e
      have := sm_len1 (m / 128)
      rw [e] at this
      simp at this
    rw [sm_more h, List.dropLast_cons_of_ne_nil hne, rs, if_neg (by omega), if_neg (by omega), ih (i + 1) _ (by omega) (by rw [hp] at hm; omega)]
theorem num_cut {x m : Nat} (hx : x < 18446744073709551616) : (num m (sm x).dropLast).e = 4 := by
  rw [num, readS, rs_cut 0 0 (by omega) (by simpa using hx)]
  simp
theorem txt_cut {t : ByteArray} {m : Nat} (ht : t.size ≤ m) (hx : t.size < 18446744073709551616) : (txt m (rtxt_ t).dropLast).e = 4 := by
  by_cases h0 : t.size = 0
  · have : rtxt_ t = [0] := by
      rw [rtxt_, h0, sm_last (by omega), size0 h0]; rfl
    rw [this]
    simp [txt, readS, rs]
  · have hne : ns t ≠ [] := by
      intro e
      have := ns_len t
      rw [e] at this
      simp at this; omega
    have hl := ns_len t
    have h1 : ¬ m < t.size := by omega
    have h2 : t.size - 1 < t.size := by omega
    rw [rtxt_, List.dropLast_append_of_ne_nil hne, txt, readS_back hx]
    simp [hl, h1, h2]
theorem zn_cut {l : List Nat} {n : Nat} {k : Int} {m : Nat} (h : (rd k m (l.drop n)).e = 4) : (zn l ⟨n, 0⟩ k m).e = 4 := by simp [zn, h]
theorem last_app {a b : List Nat} (h : b ≠ []) : (a ++ b).dropLast = a ++ b.dropLast := List.dropLast_append_of_ne_nil h
theorem sm_ne (x : Nat) : sm x ≠ [] := by
  intro e
  have := sm_len1 x
  rw [e] at this
  simp at this
theorem rtxt_ne (t : ByteArray) : rtxt_ t ≠ [] := by
  intro e
  have := sm_len1 t.size
  rw [rtxt_] at e
  have h2 := congrArg List.length e
  rw [List.length_append, List.length_nil] at h2
  omega
/-- A right record without its last byte. -/
theorem rdr_cut {r : Rc} (hw : r.wf) (hc : chk r = 0) (h3 : r.k ≠ 3) {l : List Nat} {n : Nat} (hl : l.drop n = (rby r).dropLast) : (rdr l n).e = 4 := by
  have ha := hw.a
  have hv := hw.v
  have hkc := chk_kind hc
  have h6 : ¬ (r.k = 0 ∨ 6 < r.k) := by omega
  have hne : rtl r ≠ [] := by
    rcases hkc with e | e | e | e | e | e
    · simp [rtl, e]
    · simp [rtl, e]
    · exact absurd e h3
    · simp [rtl, e]
    · simp [rtl, e]
    · simp [rtl, e]
  have hl : l.drop n = [r.k] ++ (rtl r).dropLast := by
    rw [hl, rby, List.dropLast_cons_of_ne_nil hne]; rfl
  have hat := at_drop hl
  have hd : l.drop (n + 1) = (rtl r).dropLast := drop_app (b := [r.k]) hl
  unfold rdr
  rw [hat]
  simp only [if_neg h6]
  have key : (rfs l ⟨n + 1, 0⟩ r.k).z.e = 4 := by
    rcases hkc with e | e | e | e | e | e
    · rw [e]
      simp only [rtl, e] at hd
      simp only [rfs]
      exact zn_cut (by rw [hd]; rfl)
    · rw [e]
      simp only [rtl, e] at hd
      simp only [rfs]
      exact zn_cut (by rw [hd]; rfl)
    · exact absurd e h3
    · obtain ⟨e1, h1, h2⟩ := chk_4 e hc
      simp only [rtl, e] at hd
      rw [e, last_app (sm_ne _), List.append_assoc] at *
      obtain ⟨p1, p2, p3, p4⟩ := zn_ok (b := [r.p]) hd (rd_byte (by omega) 0 _)
      obtain ⟨q1, q2, q3, q4⟩ := zn_ok (b := [r.s]) p4 (rd_byte (by omega) 0 _)
      simp only [rfs, p1, q1]
      exact zn_cut (by rw [q4, rd3]; exact num_cut ha)
    · obtain ⟨e1, h1, h2, h4, h5⟩ := chk_5 e hc
      have hg : (if r.g = true then 1 else 0) < 256 := by split <;> omega
      simp only [rtl, e] at hd
      rw [e, last_app (rtxt_ne _), List.append_assoc] at *
      obtain ⟨p1, p2, p3, p4⟩ := zn_ok (b := [if r.g = true then 1 else 0]) hd (rd_byte hg 0 _)
      obtain ⟨q1, q2, q3, q4⟩ := zn_ok (b := sm r.v) p4 (rd_num (m := mxR) (by unfold mxR; omega) (by omega) _)
      simp only [rfs, p1, q1]
      exact zn_cut (by rw [q4, rd4]; exact txt_cut h4 (by omega))
    · obtain ⟨e1, h1, h2, h4, h5, h7, h8⟩ := chk_6 e hc
      simp only [rtl, e] at hd
      rw [e, last_app (rtxt_ne _), List.append_assoc, List.append_assoc] at *
      obtain ⟨p1, p2, p3, p4⟩ := zn_ok (b := [r.s]) hd (rd_byte (by omega) 0 _)
      obtain ⟨s1, s2, s3, s4⟩ := zn_ok (b := [r.u]) p4 (rd_byte (by omega) 0 _)
      obtain ⟨q1, q2, q3, q4⟩ := zn_ok (b := sm r.v) s4 (rd_num (m := mxR) (by unfold mxR; omega) (by omega) _)
      simp only [rfs, p1, s1, q1]
      exact zn_cut (by rw [q4, rd4]; exact txt_cut h8 (by omega))
  rw [key]
  simp [fst2]
/-- Unlike right records have unlike bytes. -/
theorem rby_inj {r s : Rc} (hw : r.wf) (hc : chk r = 0) (hw' : s.wf) (hc' : chk s = 0) (h : rby r = rby s) : r = s := by
  have h1 := rdr_back (l := rby r) (q := []) (n := 0) hw hc (by simp)
  have h2 := rdr_back (l := rby r) (q := []) (n := 0) hw' hc' (by simp [h])
  rw [h1] at h2
  exact (Ro.mk.injEq .. ▸ h2).1
end D
end Go.Proofs.Ytcnbdfobhablbaa
