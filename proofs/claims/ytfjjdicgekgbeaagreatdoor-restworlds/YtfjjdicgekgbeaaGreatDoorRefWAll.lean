/- The document's own 'holds', its tail: how what holds is called. -/
import Derived.Test.YtfjjdicgekgbeaaGreatDoorRefDAll
import Derived.Test.YtfjjdicgekgbeaaGreatDoorRefApAll
import Derived.Test.YtfjjdicgekgbeaaGreatDoorOffCAll
import Derived.Lib.IndexMore
import Derived.Test.YtfjjdicgekgbeaaGreatDoorOffAAll
import Derived.BigQuiet
namespace Go.Proofs.YtfjjdicgekgbeaaGreatDoor
open Go Go.RowKit Go.Maps
set_option linter.unusedVariables false

theorem bytes_ext {a b : ByteArray} (h : a.data.toList = b.data.toList) : a = b := by
  cases a; cases b; simp at h; simpa using h
theorem cut_back {l : List UInt8} {n : Nat} (hn : Lib.index l pct = n) : l.take n ++ pct ++ l.drop (n + 2) = l := by
  rcases Lib.index_spec l pct with ⟨h, _⟩ | ⟨i, h1, h2, h3, _⟩
  · omega
  · obtain rfl : i = n := by omega
    have hr : i + pct.length ≤ l.length := by
      rcases Lib.occAt_room h3 with h | h
      · exact h
      · cases h
    rw [Lib.occAt_iff_take _ _ _ hr] at h3
    have h4 : (l.drop i).take 2 = pct := by simpa using h3
    have h5 : l.drop i = pct ++ l.drop (i + 2) := by
      have := List.take_append_drop 2 (l.drop i)
      rw [h4, List.drop_drop] at this
      exact this.symm
    rw [List.append_assoc, ← h5, List.take_append_drop]
theorem rep_cut {s new : ByteArray} {n : Nat} (hn : Lib.index s.data.toList pct = n) : (⟨(Lib.replace s.data.toList pct new.data.toList 1).toArray⟩ : ByteArray) = s.extract 0 n ++ new ++ s.extract (n + 2) s.size := by
  apply bytes_ext
  rw [ByteArray.data_append, ByteArray.data_append, Array.toList_append, Array.toList_append, ext_list, ext_list]
  have hd : (s.data.toList.drop (n + 2)).take (s.size - (n + 2)) = s.data.toList.drop (n + 2) := List.take_of_length_le (by simp)
  rw [hd]
  simp only [List.drop_zero, Nat.sub_zero]
  cases hq : (pct == new.data.toList)
  · rw [rep1 _ _ hq, if_neg (by omega), hn]; simp
  · have e : pct = new.data.toList := by simpa using hq
    rw [← e, cut_back hn]
    unfold Lib.replace
    rw [if_pos (by simp)]
theorem rep_noneW {s new : ByteArray} (hn : Lib.index s.data.toList pct = -1) : (⟨(Lib.replace s.data.toList pct new.data.toList 1).toArray⟩ : ByteArray) = s := by
  apply bytes_ext
  cases hq : (pct == new.data.toList)
  · rw [rep1 _ _ hq, if_pos hn]
  · unfold Lib.replace
    rw [if_pos hq]
set_option maxRecDepth 1000000 in
set_option maxHeartbeats 4000000 in
theorem hd7 {w W : World} {x : Er} {sv : Int} {L A : ByteArray} {X : Nat} {u0 u1 u2 u3 u4 u5 u7 u8 u12 u13 u14 u15 u16 u17 u18 u19 u20 u21 u22 u23 u24 u25 u26 u27 u28 u29 u30 u31 u32 u33 u34 u35 u36 u37 u38 u39 u40 u41 u42 u43 u44 u45 u46 u47 u48 u49 u50 u51 u52 u53 u54 u55 u56 u57 u58 u59 u60 u61 u62 u63 u64 u65 u66 u67 u68 u69 u70 u71 u72 u73 u74 u75 u76 u77 u78 u79 u80 u81 u82 u83 u84 u85 u86 u87 u88 u89 u90 u91 u92 u93 u94 u95 u96 u97 u98 u99 u100 u101 u102 u103 u104 u105 u106 u107 u108 u109 u110 u111 u112 u113 u114 : Value} (HA : Hid (A = ⟨(Lib.replace x.fm.data.toList pct L.data.toList 1).toArray⟩)) (HW : Hid (Below w.heap.size w W)) (HX : Hid (W.heap[X]? = some (.cells #[.int .i64 x.std, .int .i64 x.set, .int .i64 x.sv, .string x.fm, .int .i64 x.un] 76))) (HO : Hid (W.heap[w.heap.size + 1]? = some (.cells #[.int .i64 0, .int .i64 0, .string ⟨#[]⟩] 110))) (s1 : -50400 ≤ x.std) (s2 : x.std ≤ 50400) (v1 : 0 ≤ sv) (v2 : sv ≤ 7200) (hfm : x.fm.size ≤ 12) (hL : L.size ≤ 12) :
    Code.wp Tryz.prog (ctl 7 (Tryz.f44.body.getD .skip)) (bodyPost Tryz.prog Tryz.f44 fun e w' => e = .returned (.agg #[.int .i64 (x.std + sv), .int .i64 sv, .string A]) ∧ Below w.heap.size w w') ⟨#[u0, u1, u2, u3, u4, u5, .pointer (some ⟨w.heap.size + 1, 0, none⟩), u7, u8, .pointer (some ⟨X, 0, none⟩), .int .i64 sv, .string L, u12, u13, u14, u15, u16, u17, u18, u19, u20, u21, u22, u23, u24, u25, u26, u27, u28, u29, u30, u31, u32, u33, u34, u35, u36, u37, u38, u39, u40, u41, u42, u43, u44, u45, u46, u47, u48, u49, u50, u51, u52, u53, u54, u55, u56, u57, u58, u59, u60, u61, u62, u63, u64, u65, u66, u67, u68, u69, u70, u71, u72, u73, u74, u75, u76, u77, u78, u79, u80, u81, u82, u83, u84, u85, u86, u87, u88, u89, u90, u91, u92, u93, u94, u95, u96, u97, u98, u99, u100, u101, u102, u103, u104, u105, u106, u107, u108, u109, u110, u111, u112, u113, u114], []⟩ W := by
  have HM := hideH (mark_c x.fm W (by unfold maxLen; omega))
  obtain ⟨x0, x1, x2, x3, x4⟩ := cells5 HX.out
  rcases Lib.index_spec x.fm.data.toList pct with ⟨hi, _⟩ | ⟨n, hi, _, _, _⟩
  · rw [hi] at HM
    obtain rfl : A = x.fm := by rw [HA.out, rep_noneW hi]
    clear hi
    conv => arg 2; whnf
    go_wp2_with fail
    refine HM.out.mono ?_
    rintro e W ⟨rfl, rfl⟩
    clear HM
    obtain ⟨x0, x1, x2, x3, x4⟩ := cells5 HX.out
    have O4 := HO
    obtain ⟨p0, p1, p2⟩ := cells3 HO.out
    have g0 := frozen3 HO.out 0
    have g1 := frozen3 HO.out 1
    have g2 := frozen3 HO.out 2
    go_wp2_with fail
    refine bodyPost_ret (v := .agg #[.int .i64 (x.std + sv), .int .i64 sv, .string x.fm]) ?_ rfl ⟨rfl, ?_⟩
    · have q0 := setCell_at (o := 2) (setCell_at (o := 1) (setCell_at (o := 0) O4.out (.int .i64 (x.std + sv))) (.int .i64 sv)) (.string x.fm)
      obtain ⟨y0, y1, y2⟩ := cells3 q0
      simp [results, Tryz.results44, go_sem, y0, y1, y2]
    · exact ((HW.out.setCell (p := ⟨w.heap.size + 1, 0, none⟩) (by simp) _).setCell (p := ⟨w.heap.size + 1, 1, none⟩) (by simp) _).setCell (p := ⟨w.heap.size + 1, 2, none⟩) (by simp) _

  · have hr := index_room _ _ hi
    have hr2 : n + 2 ≤ x.fm.size := by simpa using hr
    have hA : A = x.fm.extract 0 n ++ L ++ x.fm.extract (n + 2) x.fm.size := by rw [HA.out, rep_cut hi]
    rw [hi] at HM
    have HA2 := hideH hA
    clear hi hA HA
    have hn0 : (0 : Int) ≤ (n : Int) := by omega
    have hn1 : decide ((n : Int) < 0) = false := by simp
    have hn2 : (n : Int) ≤ (x.fm.size : Int) := by omega
    conv => arg 2; whnf
    go_wp2_with fail
    refine HM.out.mono ?_
    rintro e W ⟨rfl, rfl⟩
    go_wp2_with fail
    have hz1 : (x.fm.extract 0 n).size ≤ 12 := by rw [ByteArray.size_extract]; omega
    have hz2 : (x.fm.extract (n + 2) x.fm.size).size ≤ 12 := by rw [ByteArray.size_extract]; omega
    have hz3 : (x.fm.extract 0 n ++ L).size ≤ 24 := by rw [ByteArray.size_append]; omega
    go_quiet (fail)
    have hdr := below_drewN (Below.refl W.heap.size W) nq
    have O4 := hideH (heap_on HO.out hdr)
    have H4 := hideH (bthen HW.out hdr)
    clear x0 x1 x2 x3 x4
    obtain ⟨x0, x1, x2, x3, x4⟩ := cells5 (heap_on HX.out hdr)
    obtain ⟨p0, p1, p2⟩ := cells3 O4.out
    have g0 := frozen3 O4.out 0
    have g1 := frozen3 O4.out 1
    have g2 := frozen3 O4.out 2
    rw [← HA2.out]
    clear HA2 HO HX HW HM hdr
    go_wp2_with fail
    refine bodyPost_ret (v := .agg #[.int .i64 (x.std + sv), .int .i64 sv, .string A]) ?_ rfl ⟨rfl, ?_⟩
    · have q0 := setCell_at (o := 2) (setCell_at (o := 1) (setCell_at (o := 0) O4.out (.int .i64 (x.std + sv))) (.int .i64 sv)) (.string A)
      obtain ⟨y0, y1, y2⟩ := cells3 q0
      simp [results, Tryz.results44, go_sem, y0, y1, y2]
    · exact ((H4.out.setCell (p := ⟨w.heap.size + 1, 0, none⟩) (by simp) _).setCell (p := ⟨w.heap.size + 1, 1, none⟩) (by simp) _).setCell (p := ⟨w.heap.size + 1, 2, none⟩) (by simp) _
end Go.Proofs.YtfjjdicgekgbeaaGreatDoor

/- The document's own 'holds': what rules save, and their letter. -/
namespace Go.Proofs.YtfjjdicgekgbeaaGreatDoor
open Go Go.RowKit Go.Maps
set_option linter.unusedVariables false

/-- the letter of the first rule from j on that saves nothing -/
def fstG (rs : Nat → Rl) (n j : Nat) : ByteArray := match (List.range n).find? fun i => decide (j ≤ i) && decide ((rs i).sv = 0) with | some i => (rs i).s | none => ⟨#[]⟩
theorem fstG_zero (rs : Nat → Rl) (n : Nat) : fstG rs n 0 = fstL rs n := by unfold fstG fstL; simp; rfl
theorem fstG_end (rs : Nat → Rl) (n : Nat) : fstG rs n n = ⟨#[]⟩ := by
  unfold fstG
  rw [List.find?_eq_none.2 (fun x hx => by have := List.mem_range.1 hx; simp; omega)]
theorem find_cg {p q : Nat → Bool} : ∀ {l : List Nat}, (∀ x, x ∈ l → p x = q x) → l.find? p = l.find? q
  | [], _ => rfl
  | a :: l, h => by simp only [List.find?_cons, h a (by simp)]; rw [find_cg (fun x hx => h x (by simp [hx]))]
theorem find_at {p : Nat → Bool} {j : Nat} : ∀ {n : Nat}, j < n → p j = true → (∀ i, i < j → p i = false) → (List.range n).find? p = some j
  | 0, h, _, _ => absurd h (Nat.not_lt_zero _)
  | n + 1, h, hp, ha => by
    rw [List.range_succ, List.find?_append]
    rcases Nat.lt_or_ge j n with hl | hg
    · rw [find_at hl hp ha]; rfl
    · obtain rfl : j = n := by omega
      rw [List.find?_eq_none.2 (fun x hx => by rw [ha x (List.mem_range.1 hx)]; decide)]
      simp [hp]
theorem fstG_hit {rs : Nat → Rl} {n j : Nat} (h : j < n) (h0 : (rs j).sv = 0) : fstG rs n j = (rs j).s := by
  unfold fstG
  rw [find_at h (by simp [h0]) (fun i hi => by simp; omega)]
theorem fstG_miss {rs : Nat → Rl} {n j : Nat} (h0 : (rs j).sv ≠ 0) : fstG rs n j = fstG rs n (j + 1) := by
  unfold fstG
  rw [find_cg (p := fun i => decide (j ≤ i) && decide ((rs i).sv = 0)) (q := fun i => decide (j + 1 ≤ i) && decide ((rs i).sv = 0)) (fun x _ => by
    by_cases e : x = j
    · subst e; simp [h0]
    · have : decide (j ≤ x) = decide (j + 1 ≤ x) := by rw [Bool.eq_iff_iff]; simp; omega
      rw [this])]
set_option maxRecDepth 1000000 in
set_option maxHeartbeats 4000000 in
theorem hd6 {D : Dt} {w W : World} {x : Er} {t S : Int} {L A : ByteArray} {X : Nat} {u0 u1 u4 u5 u7 u8 u12 u13 u14 u15 u16 u17 u18 u19 u20 u21 u22 u23 u24 u25 u26 u27 u28 u29 u30 u31 u32 u33 u34 u35 u36 u37 u38 u39 u40 u41 u42 u43 u44 u45 u46 u47 u48 u49 u50 u51 u52 u53 u54 u55 u56 u57 u58 u59 u60 u61 u62 u63 u64 u65 u66 u67 u68 u69 u70 u71 u72 u73 u74 u75 u76 u77 u78 u79 u80 u81 u82 u83 u84 u85 u86 u87 u88 u89 u90 u91 u92 u93 u94 u95 u96 u97 u98 u99 u100 u101 u102 u103 u104 u105 u106 u107 u108 u109 u110 u111 u112 u113 u114 : Value} (HD : Hid (DAt w D)) (HA : Hid (A = ⟨(Lib.replace x.fm.data.toList pct L.data.toList 1).toArray⟩)) (HW : Hid (Below w.heap.size w W)) (HB : Hid (W.heap[w.heap.size]? = some (.cells #[.slice D.sa D.ns D.sc, .slice D.za D.nz D.zc, .slice D.la D.nl D.lc] 26))) (HX : Hid (W.heap[X]? = some (.cells #[.int .i64 x.std, .int .i64 x.set, .int .i64 x.sv, .string x.fm, .int .i64 x.un] 76))) (HO : Hid (W.heap[w.heap.size + 1]? = some (.cells #[.int .i64 0, .int .i64 0, .string ⟨#[]⟩] 110))) (s1 : -50400 ≤ x.std) (s2 : x.std ≤ 50400) (hfm : x.fm.size ≤ 12) (hL : L.size ≤ 12) (v1 : 0 ≤ S) (v2 : S ≤ 7200) (t0 : 0 ≤ t) (t1 : t < 1893456000)
    (HN : Hid (x.set < 0 → S = x.sv ∧ L = ⟨#[]⟩))
    (HY : Hid (0 ≤ x.set → x.sv = 0 ∧ ∃ j : Nat, x.set = j ∧ j < D.ns ∧ 1 ≤ (D.ss j).n ∧ (D.ss j).n ≤ 4 ∧ (∀ i, i < (D.ss j).n → rchk ((D.ss j).rs i) = 0) ∧ S = rulS (D.ss j).rs (D.ss j).n x.std t ∧ L = rulL (D.ss j).rs (D.ss j).n x.std t)) :
    Code.wp Tryz.prog (ctl 6 (Tryz.f44.body.getD .skip)) (bodyPost Tryz.prog Tryz.f44 fun e w' => e = .returned (.agg #[.int .i64 (x.std + S), .int .i64 S, .string A]) ∧ Below w.heap.size w w') ⟨#[u0, u1, .int .i64 t, .pointer (some ⟨w.heap.size, 0, none⟩), u4, u5, .pointer (some ⟨w.heap.size + 1, 0, none⟩), u7, u8, .pointer (some ⟨X, 0, none⟩), .int .i64 x.sv, .string ⟨#[]⟩, u12, u13, u14, u15, u16, u17, u18, u19, u20, u21, u22, u23, u24, u25, u26, u27, u28, u29, u30, u31, u32, u33, u34, u35, u36, u37, u38, u39, u40, u41, u42, u43, u44, u45, u46, u47, u48, u49, u50, u51, u52, u53, u54, u55, u56, u57, u58, u59, u60, u61, u62, u63, u64, u65, u66, u67, u68, u69, u70, u71, u72, u73, u74, u75, u76, u77, u78, u79, u80, u81, u82, u83, u84, u85, u86, u87, u88, u89, u90, u91, u92, u93, u94, u95, u96, u97, u98, u99, u100, u101, u102, u103, u104, u105, u106, u107, u108, u109, u110, u111, u112, u113, u114], []⟩ W := by
  by_cases hset : x.set < 0
  · obtain ⟨rfl, rfl⟩ := HN.out hset
    clear HN HY
    obtain ⟨x0, x1, x2, x3, x4⟩ := cells5 HX.out
    conv => arg 2; whnf
    refine wp_seq_k (fun K0 hK0 => ?_)
    have HK0 := hideH hK0
    clear hK0
    go_wp2_with fail
    refine HK0.out _ _ ?_
    clear HK0 K0
    exact hd7 HA HW HX HO s1 s2 v1 v2 hfm hL
  · obtain ⟨hsv, j, hj, hjs, n1, n4, hr, hS, hLL⟩ := HY.out (by omega)
    have hx0 : (0 : Int) ≤ x.set := by omega
    clear HN HY hset
    obtain ⟨x0, x1, x2, x3, x4⟩ := cells5 HX.out
    obtain ⟨c0, c1, c2⟩ := cells3 HB.out
    rw [hj] at x1 hx0
    rcases (HD.out.on HW.out).sets with h0 | ⟨b, off, hsa, hcs⟩
    · omega
    obtain ⟨d0, d1⟩ := hcs j hjs
    rw [hsa] at c0
    rcases (HD.out.on HW.out).rules j hjs with h0 | ⟨br, or, hra, hrow⟩
    · omega
    have d2 : W.cell? ⟨b, off + j * 2 + 1, none⟩ = some (.slice (some ⟨br, or, none⟩) (D.ss j).n (D.ss j).c) := by rw [← hra]; exact d1
    have HROW := hideH hrow
    have hk0 : decide ((j : Int) < 0) = false := by simp
    have hkn : decide (D.ns ≤ j) = false := by simp; omega
    have HLAST : Hid (∀ v, Below W.heap.size W v → Calls Tryz.prog 72 #[.slice (some ⟨br, or, none⟩) (D.ss j).n (D.ss j).c, .int .i64 x.std, .int .i64 t] v fun e w' => e = .returned (.tuple #[.int .i64 (if (latR (D.ss j).rs x.std t (D.ss j).n).1 < 0 then 0 else (latR (D.ss j).rs x.std t (D.ss j).n).1), .int .i64 (latR (D.ss j).rs x.std t (D.ss j).n).2, .bool (decide (0 ≤ (latR (D.ss j).rs x.std t (D.ss j).n).1))]) ∧ Below v.heap.size v w') := fun v hv => Rlast_c br or (D.ss j).n (D.ss j).c (D.ss j).rs x.std t v (HROW.out.on hv) n4 (fun i hi => rchk_bnd (hr i hi)) s1 s2 t0 t1
    have hev : ((latR (D.ss j).rs x.std t (D.ss j).n).1 < 0 ∧ lastE (D.ss j).rs (D.ss j).n x.std t = 4) ∨ (0 ≤ (latR (D.ss j).rs x.std t (D.ss j).n).1 ∧ lastE (D.ss j).rs (D.ss j).n x.std t = 0) := by
      rcases last_eval (D.ss j).rs (D.ss j).n x.std t n4 hr s1 s2 with ⟨h, _⟩ | ⟨_, _, h⟩
      · omega
      · exact h
    clear hcs d0 d1 hrow hra hsa x2 x3 x4 c1 c2
    rcases hev with ⟨e1, e2⟩ | ⟨e1, e2⟩
    · -- none has begun
      have hS0 : S = 0 := by rw [hS]; unfold rulS; rw [if_neg (by omega)]
      have hL0 : L = fstL (D.ss j).rs (D.ss j).n := by rw [hLL]; unfold rulL; rw [if_neg (by omega)]
      rw [if_pos e1, decide_eq_false (by omega)] at HLAST
      generalize (latR (D.ss j).rs x.std t (D.ss j).n).2 = WH at HLAST
      clear e1 e2 hS hLL hr
      subst hS0
      have HLL := hideH hL0
      clear hL0
      conv => arg 2; whnf
      refine wp_seq_k (fun K0 hK0 => ?_)
      have HK0 := hideH hK0
      clear hK0
      go_wp2_with fail
      refine (HLAST.out _ (Below.refl _ _)).mono ?_
      rintro e w2 ⟨rfl, hw2⟩
      have H2 := hideH (bthen HW.out hw2)
      have X2 := hideH (heap_on HX.out hw2)
      have O2 := hideH (heap_on HO.out hw2)
      have R2 := hideH (HROW.out.on hw2)
      clear hw2 HLAST HROW c0 d2 x0 x1 HB
      go_wp2_with fail
      go_loop [11, 16] (fun x11 x16 => ∃ m : Nat, m ≤ (D.ss j).n ∧ x16 = .int .i64 ((m : Int) - 1) ∧ x11 = .string (fstG (D.ss j).rs (D.ss j).n m)) (fun _ x16 => (intOf x16 + 1).toNat)
      case atStart => exact ⟨(D.ss j).n, Nat.le_refl _, by go_num, by rw [fstG_end]⟩
      case round =>
        obtain ⟨m, hm, rfl, rfl⟩ := hrel
        by_cases hm0 : m = 0
        · subst hm0
          go_wp2_with fail
          refine HK0.out _ _ ?_
          rw [fstG_zero, ← HLL.out]
          exact hd7 HA H2 X2 O2 s1 s2 v1 v2 hfm hL
        · obtain ⟨q, rfl⟩ : ∃ q : Nat, m = q + 1 := ⟨m - 1, by omega⟩
          have hq1 : ((q + 1 : Nat) : Int) - 1 = (q : Int) := by omega
          rw [hq1]
          obtain ⟨-, -, -, -, -, -, -, r7, r8⟩ := R2.out q (by omega)
          have hq0 : decide ((q : Int) < 0) = false := by simp
          have hqn : decide ((D.ss j).n ≤ q) = false := by simp; omega
          have hq2 : (0 : Int) ≤ (q : Int) := by omega
          have hq3 : (q : Int) < ((D.ss j).n : Int) := by omega
          by_cases hz : ((D.ss j).rs q).sv = 0
          · have hg := fstG_hit (rs := (D.ss j).rs) (n := (D.ss j).n) (j := q) (by omega) hz
            rw [hz] at r7
            have HG := hideH hg
            clear hz hg
            go_wp2_with fail
            go_round
            case rel => exact ⟨q, by omega, by go_num, by rw [HG.out]⟩
            case measure => simp [intOf] <;> omega
          · have hg := fstG_miss (rs := (D.ss j).rs) (n := (D.ss j).n) (j := q) hz
            have HG := hideH hg
            have hzb : (((D.ss j).rs q).sv == 0) = false := by simp [hz]
            clear hg
            go_wp2_with fail
            go_round
            case rel => exact ⟨q, by omega, by go_num, by rw [HG.out]⟩
            case measure => simp [intOf] <;> omega
    · -- one has begun
      obtain ⟨k, k1, k2, -, -, -⟩ := last_which _ _ _ _ e2
      have hlk : (latR (D.ss j).rs x.std t (D.ss j).n).1 = (k : Int) := by
        have := (last_ok _ _ _ _ e2).2.2.2.2.2.2.1
        rw [this]; exact k2
      have hS0 : S = ((D.ss j).rs k).sv := by rw [hS]; unfold rulS; rw [if_pos e2, k2]; rfl
      have hL0 : L = ((D.ss j).rs k).s := by rw [hLL]; unfold rulL; rw [if_pos e2, k2]; rfl
      rw [if_neg (by omega), decide_eq_true e1, hlk] at HLAST
      generalize (latR (D.ss j).rs x.std t (D.ss j).n).2 = WH at HLAST
      clear e1 e2 hS hLL hr k2 hlk
      subst hS0 hL0
      have hq0 : decide ((k : Int) < 0) = false := by simp
      have hqn : decide ((D.ss j).n ≤ k) = false := by simp; omega
      have hq3 : (k : Int) < ((D.ss j).n : Int) := by omega
      conv => arg 2; whnf
      refine wp_seq_k (fun K0 hK0 => ?_)
      have HK0 := hideH hK0
      clear hK0
      go_wp2_with fail
      refine (HLAST.out _ (Below.refl _ _)).mono ?_
      rintro e w2 ⟨rfl, hw2⟩
      have H2 := hideH (bthen HW.out hw2)
      have X2 := hideH (heap_on HX.out hw2)
      have O2 := hideH (heap_on HO.out hw2)
      have R2 := hideH (HROW.out.on hw2)
      clear hw2 HLAST HROW c0 d2 x0 x1 HB
      obtain ⟨-, -, -, -, -, -, -, r7, r8⟩ := R2.out k k1
      go_wp2_with fail
      go_quiet (fail)
      have hdr := below_drewN (Below.refl w2.heap.size w2) nq
      have H3 := hideH (bthen H2.out hdr)
      have X3 := hideH (heap_on X2.out hdr)
      have O3 := hideH (heap_on O2.out hdr)
      clear hdr H2 X2 O2 R2 r7 r8
      obtain ⟨N, hN⟩ : ∃ N : Nat, (D.ss j).n = N + 1 := ⟨(D.ss j).n - 1, by omega⟩
      go_wp2_with fail
      go_loop [11, 16] (fun x11 x16 => x11 = .string ((D.ss j).rs k).s ∧ ∃ m : Nat, x16 = .int .i64 m) (fun _ _ => 0)
      case atStart => exact ⟨rfl, N, by first | rfl | (rw [hN]; go_num)⟩
      case round =>
        obtain ⟨rfl, m, rfl⟩ := hrel
        have hm0 : (0 : Int) ≤ (m : Int) := by omega
        go_wp2_with fail
        refine HK0.out _ _ ?_
        exact hd7 HA H3 X3 O3 s1 s2 v1 v2 hfm hL
end Go.Proofs.YtfjjdicgekgbeaaGreatDoor

/- The document's own 'holds' and OffOf: contracts. -/
namespace Go.Proofs.YtfjjdicgekgbeaaGreatDoor
open Go Go.RowKit Go.Maps
set_option linter.unusedVariables false

theorem least {es : Nat → Er} {t : Int} : ∀ (k : Nat), t < (es k).un → ∃ e, e ≤ k ∧ t < (es e).un ∧ ∀ i, i < e → (es i).un ≤ t
  | 0, h => ⟨0, Nat.le_refl _, h, fun i hi => by omega⟩
  | k + 1, h => by
    by_cases hx : ∃ i, i ≤ k ∧ t < (es i).un
    · obtain ⟨i, hi, h2⟩ := hx
      obtain ⟨e, h3, h4, h5⟩ := least i h2
      exact ⟨e, by omega, h4, h5⟩
    · exact ⟨k + 1, Nat.le_refl _, h, fun i hi => by
        rcases Int.lt_or_le t (es i).un with h3 | h3
        · exact absurd ⟨i, by omega, h3⟩ hx
        · exact h3⟩
theorem eraI_spec {D : Dt} (hc : chkE D = 0) {k : Nat} (hk : k < D.nz) {t : Int} (t1 : t < 1893456000) : eraI (D.zs k).es (D.zs k).n t < (D.zs k).n ∧ t < ((D.zs k).es (eraI (D.zs k).es (D.zs k).n t)).un ∧ ∀ i, i < eraI (D.zs k).es (D.zs k).n t → ((D.zs k).es i).un ≤ t := by
  have h1 := ((chk_all hc).1.2.2 k hk).1
  have hl : ((D.zs k).es ((D.zs k).n - 1)).un = 1893456000 := by
    have h := ((chk_all hc).2.2.1 k hk).2
    obtain ⟨m, hm⟩ : ∃ m, (D.zs k).n = m + 1 := ⟨(D.zs k).n - 1, by omega⟩
    rw [hm] at h ⊢
    exact h
  obtain ⟨e, h2, h3, h4⟩ := least (es := (D.zs k).es) (t := t) ((D.zs k).n - 1) (by omega)
  rw [eraI_at (by omega) h3 h4]
  exact ⟨by omega, h3, h4⟩
set_option maxRecDepth 1000000 in
set_option maxHeartbeats 4000000 in
theorem holds_c (D : Dt) (k : Nat) (t : Int) (w : World) (hD : DAt w D) (hc : chkE D = 0) (hk : k < D.nz) (t0 : 0 ≤ t) (t1 : t < 1893456000) : Calls Tryz.prog 44 #[D.v, .int .i64 k, .int .i64 t] w fun e w' => e = .returned (offR D k t).v ∧ Below w.heap.size w w' := by
  have HD := hideH hD
  have bx := two_boxes w (.cells (dC D) 26) (.cells #[.int .i64 0, .int .i64 0, .string ⟨#[]⟩] 110)
  obtain ⟨W0, hW0⟩ : ∃ W0, W0 = (w.alloc (.cells (dC D) 26)).alloc (.cells #[.int .i64 0, .int .i64 0, .string ⟨#[]⟩] 110) := ⟨_, rfl⟩
  rw [← hW0] at bx
  have HB := hideH bx.1
  have HC := hideH bx.2.1
  have HO := hideH bx.2.2
  obtain ⟨hlt, hun, hpre⟩ := eraI_spec hc hk t1
  have hbd := ebd (chk_era hc hk hlt)
  have hfm := chk_fmt hc hk hlt
  obtain ⟨b1, b2, b3, b4, b5, b6⟩ := hbd
  have hS : 0 ≤ offS D k t ∧ offS D k t ≤ 7200 := by
    unfold offS
    split
    · rename_i h
      exact rulS_in hc (by unfold offX at h ⊢; omega) _ _
    · rename_i h
      unfold offX at h ⊢
      omega
  have hL : (offL D k t).size ≤ 12 := by
    unfold offL
    split
    · rename_i h
      exact rulL_in hc (by unfold offX at h ⊢; omega) _ _
    · exact Nat.zero_le _
  have HN : Hid ((offX D k t).set < 0 → offS D k t = (offX D k t).sv ∧ offL D k t = ⟨#[]⟩) := fun h => by
    unfold offS offL
    rw [if_neg (by omega), if_neg (by omega)]
    exact ⟨rfl, rfl⟩
  have HY : Hid (0 ≤ (offX D k t).set → (offX D k t).sv = 0 ∧ ∃ j : Nat, (offX D k t).set = j ∧ j < D.ns ∧ 1 ≤ (D.ss j).n ∧ (D.ss j).n ≤ 4 ∧ (∀ i, i < (D.ss j).n → rchk ((D.ss j).rs i) = 0) ∧ offS D k t = rulS (D.ss j).rs (D.ss j).n (offX D k t).std t ∧ offL D k t = rulL (D.ss j).rs (D.ss j).n (offX D k t).std t) := fun h => by
    obtain ⟨j, hj, hjs⟩ : ∃ j : Nat, (offX D k t).set = j ∧ j < D.ns := ⟨(offX D k t).set.toNat, by omega, by unfold offX at h ⊢; omega⟩
    have h2 := (chk_all hc).1.2.1 j hjs
    refine ⟨by unfold offX at h ⊢; omega, j, hj, hjs, h2.1, h2.2, fun i hi => chk_rule hc hjs hi, ?_, ?_⟩
    · unfold offS; rw [if_pos h, hj]; rfl
    · unfold offL; rw [if_pos h, hj]; rfl
  have HP := hideH hpre
  obtain ⟨I, hI⟩ : ∃ I, I = eraI (D.zs k).es (D.zs k).n t := ⟨_, rfl⟩
  have hx : offX D k t = (D.zs k).es I := by unfold offX; rw [hI]
  rw [← hI] at HP hlt hun b1 b2 hfm
  have HXX := hideH hx
  have HA : Hid (offA D k t = ⟨(Lib.replace (offX D k t).fm.data.toList pct (offL D k t).data.toList 1).toArray⟩) := rfl
  show Calls _ _ _ _ fun e w' => e = .returned (.agg #[.int .i64 ((offX D k t).std + offS D k t), .int .i64 (offS D k t), .string (offA D k t)]) ∧ Below w.heap.size w w'
  have c1' : -50400 ≤ (offX D k t).std := by rw [hx]; exact b1
  have c2' : (offX D k t).std ≤ 50400 := by rw [hx]; exact b2
  have c3' : (offX D k t).fm.size ≤ 12 := by rw [hx]; exact hfm
  have n4 := ((chk_all hc).1.2.2 k hk).2
  clear hD hc bx hpre hI hx b1 b2 b3 b4 b5 b6 hfm
  go_enter Tryz.func44, Tryz.ntmps44
  refine wp_seq_k (fun K0 hK0 => ?_)
  have HK0 := hideH hK0
  clear hK0
  go_wp2_with fail
  refine HK0.out _ _ ?_
  clear HK0 K0
  simp only [dC] at hW0
  simp only [← hW0]
  clear hW0
  obtain ⟨c0, c1, c2⟩ := cells3 HC.out
  rcases (HD.out.on HB.out).zones with h0 | ⟨b, off, hsa, hcs⟩
  · omega
  obtain ⟨d0, d1⟩ := hcs k hk
  rcases (HD.out.on HB.out).eras k hk with h0 | ⟨be, oe, hea, hrow⟩
  · omega
  have d2 : W0.cell? ⟨b, off + k * 2 + 1, none⟩ = some (.slice (some ⟨be, oe, none⟩) (D.zs k).n (D.zs k).c) := by rw [← hea]; exact d1
  rw [hsa] at c1
  have HROW := hideH hrow
  have hk0 : decide ((k : Int) < 0) = false := by simp
  have hkn : decide (D.nz ≤ k) = false := by simp; omega
  clear hcs d0 d1 hrow hea hsa c0 c2
  refine wp_seq_k (fun K0 hK0 => ?_)
  have HK0 := hideH hK0
  clear hK0
  go_wp2_with fail
  refine HK0.out _ _ ?_
  clear HK0 K0 c1 d2
  refine wp_seq_k (fun K0 hK0 => ?_)
  have HK0 := hideH hK0
  clear hK0
  go_wp2_with fail
  refine HK0.out _ _ ?_
  clear HK0 K0
  refine wp_seq_k (fun K0 hK0 => ?_)
  have HK0 := hideH hK0
  clear hK0
  go_wp2_with fail
  go_loop [8] (fun x8 => ∃ i : Nat, i ≤ I ∧ x8 = .int .i64 i) (fun x8 => I - (intOf x8).toNat)
  case atStart => exact ⟨0, Nat.zero_le _, rfl⟩
  case round =>
    obtain ⟨i, hi, rfl⟩ := hrel
    obtain ⟨r0, r1, r2, r3, r4⟩ := HROW.out i (by omega)
    have hi0 : decide ((i : Int) < 0) = false := by simp
    have hin : decide ((D.zs k).n ≤ i) = false := by simp; omega
    have hi3 : (i : Int) < ((D.zs k).n : Int) := by omega
    by_cases hiI : i < I
    · have hle := HP.out i hiI
      go_wp2_with fail
      go_round
      case rel => exact ⟨i + 1, by omega, by go_num⟩
      case measure => simp [intOf]; omega
    · obtain rfl : i = I := by omega
      have hgt : t < ((D.zs k).es i).un := hun
      go_wp2_with fail
      refine HK0.out _ _ ?_
      clear HK0
      rw [← HXX.out] at r0 r1 r2 r3 r4
      refine wp_seq_k (fun K1 hK1 => ?_)
      have HK1 := hideH hK1
      clear hK1
      go_wp2_with fail
      refine HK1.out _ _ ?_
      clear HK1
      obtain ⟨W1, hW1⟩ : ∃ W1, W1 = W0.alloc (.cells #[.int .i64 (offX D k t).std, .int .i64 (offX D k t).set, .int .i64 (offX D k t).sv, .string (offX D k t).fm, .int .i64 (offX D k t).un] 76) := ⟨_, rfl⟩
      have hb1 := (Below.refl _ W0).alloc (Nat.le_refl _) (.cells #[.int .i64 (offX D k t).std, .int .i64 (offX D k t).set, .int .i64 (offX D k t).sv, .string (offX D k t).fm, .int .i64 (offX D k t).un] 76)
      have X1 : Hid (W1.heap[W0.heap.size]? = some (.cells #[.int .i64 (offX D k t).std, .int .i64 (offX D k t).set, .int .i64 (offX D k t).sv, .string (offX D k t).fm, .int .i64 (offX D k t).un] 76)) := by show _ = _; rw [hW1]; exact World.alloc_heap_new _ _
      have H1 : Hid (Below w.heap.size w W1) := by show Below _ _ _; rw [hW1]; exact bthen HB.out hb1
      have C1 : Hid (W1.heap[w.heap.size]? = some (.cells (dC D) 26)) := by show _ = _; rw [hW1]; exact heap_on HC.out hb1
      have O1 : Hid (W1.heap[w.heap.size + 1]? = some (.cells #[.int .i64 0, .int .i64 0, .string ⟨#[]⟩] 110)) := by show _ = _; rw [hW1]; exact heap_on HO.out hb1
      simp only [← hW1]
      clear hW1 hb1 r0 r1 r2 r3 r4 HROW
      obtain ⟨x0, x1, x2, x3, x4⟩ := cells5 X1.out
      refine wp_seq_k (fun K2 hK2 => ?_)
      have HK2 := hideH hK2
      clear hK2
      go_wp2_with fail
      refine HK2.out _ _ ?_
      clear HK2
      exact hd6 HD HA H1 C1 X1 O1 c1' c2' c3' hL hS.1 hS.2 t0 t1 HN HY
end Go.Proofs.YtfjjdicgekgbeaaGreatDoor
