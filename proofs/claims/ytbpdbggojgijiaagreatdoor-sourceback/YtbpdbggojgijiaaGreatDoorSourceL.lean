/- Plain: what right data are shown as is read as it was. -/
import Derived.Test.YtbpdbggojgijiaaGreatDoorSourceK
import Derived.Test.YtbpdbggojgijiaaGreatDoorOffCAll
namespace Go.Proofs.YtbpdbggojgijiaaGreatDoor.Src
open Go
set_option linter.unusedVariables false

theorem chk_names {D : Dt} (h : chkE D = 0) : namesOK D := by
  unfold chkE at h
  split at h
  · split at h
    · assumption
    · omega
  · omega
theorem catL_in {n : Nat → Nat} {f : Nat → Nat → ByteArray} : ∀ {k i j : Nat}, i < k → j < n i → f i j ∈ catL n f k
  | 0, i, j, h, _ => by omega
  | k + 1, i, j, h, hj => by
    unfold catL
    by_cases e : i = k
    · subst e
      exact List.mem_append.2 (.inr (List.mem_map.2 ⟨j, List.mem_range.2 hj, rfl⟩))
    · exact List.mem_append.2 (.inl (catL_in (by omega) hj))
/-- a word that may stand in a line -/
def fine (w : By) : Prop := w.length ≤ 21 ∧ (32 : UInt8) ∉ w ∧ (10 : UInt8) ∉ w
theorem name_fine {s : ByteArray} (h : nameB s = true) : fine s.data.toList := by
  unfold nameB at h
  simp only [Bool.and_eq_true, decide_eq_true_eq] at h
  obtain ⟨⟨h1, h2⟩, h3, _⟩ := h
  unfold allOk at h3
  rw [List.all_eq_true] at h3
  refine ⟨?_, fun hm => ?_, fun hm => ?_⟩
  · have := Lib.size_eq s
    omega
  · exact absurd (h3 _ hm) (by decide)
  · exact absurd (h3 _ hm) (by decide)
theorem let_fine {l : By} (h : allLet l = true) (hl : l.length ≤ 12) : fine l := by
  unfold allLet at h
  rw [List.all_eq_true] at h
  exact ⟨by omega, fun hm => absurd (h _ hm) (by decide), fun hm => absurd (h _ hm) (by decide)⟩
theorem mem_repK {old : By} {c : UInt8} (hc : c ∉ old) : ∀ (k : Nat) (s : By), c ∈ s → c ∈ Lib.replaceK old [] k s
  | 0, s, h => h
  | k + 1, s, h => by
    rcases Lib.index_spec s old with ⟨h1, _⟩ | ⟨i, h1, h2, h3, _⟩
    · unfold Lib.replaceK
      rw [if_pos (by rw [h1]; rfl)]
      exact h
    · rw [Lib.replaceK_hit old [] k s i h1, List.append_nil]
      rw [← List.take_append_drop i s] at h
      rcases List.mem_append.1 h with h | h
      · exact List.mem_append.2 (.inl h)
      · refine List.mem_append.2 (.inr (mem_repK hc k _ ?_))
        unfold Lib.occAt at h3
        obtain ⟨t, ht⟩ := List.isPrefixOf_iff_prefix.1 h3
        rw [← ht] at h
        have e : s.drop (i + old.length) = t := by
          rw [← List.drop_drop, ← ht, List.drop_left]
        rw [e]
        rcases List.mem_append.1 h with h | h
        · exact absurd h hc
        · exact h
theorem fmt_fine {s : ByteArray} (h : fmtB s = true) : fine s.data.toList := by
  unfold fmtB at h
  simp only [Bool.and_eq_true, decide_eq_true_eq] at h
  obtain ⟨⟨h1, h2⟩, h3⟩ := h
  unfold allLet at h3
  rw [List.all_eq_true] at h3
  have key : ∀ c : UInt8, c ∉ pct → ltrB c.toNat = false → c ∉ s.data.toList := fun c hc hf hm => by
    have : c ∈ Lib.replace s.data.toList pct [] 1 := by
      unfold Lib.replace
      rw [if_neg (by decide)]
      exact mem_repK hc _ _ hm
    have := h3 c this
    rw [hf] at this
    cases this
  refine ⟨?_, key 32 (by decide) (by decide), key 10 (by decide) (by decide)⟩
  have := Lib.size_eq s
  omega
theorem rule_parts {r : Rl} (h : rchk r = 0) : bnd r = true ∧ chk r.k r.wk r.D = 0 ∧ letS r.s = true := by
  rcases rchk_cases r with ⟨_, h1⟩ | ⟨a, h'⟩
  · omega
  · rcases h' with ⟨h1, h2⟩ | ⟨b, h'⟩
    · omega
    · rcases h' with ⟨_, h2⟩ | ⟨c, _⟩
      · omega
      · exact ⟨a, b, c⟩
theorem chk_bd {k wk d : Int} (h : chk k wk d = 0) : 1 ≤ k ∧ k ≤ 3 ∧ 0 ≤ wk ∧ wk ≤ 6 ∧ 0 ≤ d ∧ d ≤ 31 := by
  unfold chk at h
  split at h
  · omega
  · split at h
    · omega
    · omega
theorem rule_num {r : Rl} (h : rchk r = 0) : Rl.numOk r := by
  obtain ⟨h1, h2, _⟩ := rule_parts h
  have a := bnd_of h1
  have b := chk_bd h2
  refine ⟨?_, ?_, ?_, ?_, ?_, ?_, ?_, ?_⟩ <;> (constructor <;> omega)
theorem un_hi {es : Nat → Er} : ∀ (d i n : Nat), i + d + 1 = n → (∀ j, j < n → frm es j < (es j).un) → frm es n = 1893456000 → (es i).un ≤ 1893456000
  | 0, i, n, hn, h, he => by
    subst hn
    have : frm es (i + 0 + 1) = (es i).un := rfl
    omega
  | d + 1, i, n, hn, h, he => by
    have h1 := un_hi d (i + 1) n (by omega) h he
    have h2 := h (i + 1) (by omega)
    have : frm es (i + 1) = (es i).un := rfl
    omega
theorem un_lo {es : Nat → Er} : ∀ (i n : Nat), i < n → (∀ j, j < n → frm es j < (es j).un) → 0 ≤ (es i).un
  | 0, n, hi, h => by
    have h1 := h 0 hi
    have : frm es 0 = 0 := rfl
    omega
  | i + 1, n, hi, h => by
    have h1 := un_lo i n (by omega) h
    have h2 := h (i + 1) hi
    have : frm es (i + 1) = (es i).un := rfl
    omega
theorem era_num {D : Dt} (h : chkE D = 0) {j i : Nat} (hj : j < D.nz) (hi : i < (D.zs j).n) : Er.numOk ((D.zs j).es i) := by
  have h1 := ebnd_of (chk_era h hj hi)
  obtain ⟨h2, h3⟩ := (chk_all h).2.2.1 j hj
  have h4 := un_hi ((D.zs j).n - i - 1) i (D.zs j).n (by omega) (fun k hk => (h2 k hk).2) h3
  have h5 := un_lo i (D.zs j).n hi (fun k hk => (h2 k hk).2)
  have h6 := (chk_all h).1.1.1
  refine ⟨?_, ?_, ?_, ?_⟩ <;> (constructor <;> omega)
theorem itoa_fine {n : Int} (h : (Wo.n n).ok) : fine (Lib.itoa n) := ⟨Lib.itoa_length_le n h.1 h.2, itoa_clean n⟩
/-- a line's words are fine, and few -/
def fineL (ws : List By) : Prop := ws ≠ [] ∧ ws.length ≤ 10 ∧ ∀ w ∈ ws, fine w
theorem fine_set : fine wSet := ⟨by decide, by decide, by decide⟩
theorem fine_rule : fine wRule := ⟨by decide, by decide, by decide⟩
theorem fine_zone : fine wZone := ⟨by decide, by decide, by decide⟩
theorem fine_era : fine wEra := ⟨by decide, by decide, by decide⟩
theorem fine_link : fine wLink := ⟨by decide, by decide, by decide⟩
theorem line_rule {r : Rl} (h : rchk r = 0) : fineL (lnRule Lib.itoa r) := by
  obtain ⟨h1, h2, h3, h4, h5, h6, h7, h8⟩ := rule_num h
  have hl := (rule_parts h).2.2
  unfold letS at hl
  simp only [Bool.and_eq_true, decide_eq_true_eq] at hl
  have hw : fine (letW r) := by
    unfold letW
    split
    · exact ⟨by decide, by decide, by decide⟩
    · exact let_fine hl.2 (by have := Lib.size_eq r.s; omega)
  refine ⟨by simp [lnRule], by simp [lnRule], ?_⟩
  intro w hw2
  simp only [lnRule, List.mem_cons, List.not_mem_nil, or_false] at hw2
  rcases hw2 with rfl | rfl | rfl | rfl | rfl | rfl | rfl | rfl | rfl | rfl
  · exact fine_rule
  · exact itoa_fine h1
  · exact itoa_fine h2
  · exact itoa_fine h3
  · exact itoa_fine h4
  · exact itoa_fine h5
  · exact itoa_fine h6
  · exact itoa_fine h7
  · exact itoa_fine h8
  · exact hw
theorem line_era {x : Er} (h : Er.numOk x) (hf : fmtB x.fm = true) : fineL (lnEra Lib.itoa x) := by
  obtain ⟨h1, h2, h3, h4⟩ := h
  refine ⟨by simp [lnEra], by simp [lnEra], ?_⟩
  intro w hw2
  simp only [lnEra, List.mem_cons, List.not_mem_nil, or_false] at hw2
  rcases hw2 with rfl | rfl | rfl | rfl | rfl | rfl
  · exact fine_era
  · exact itoa_fine h1
  · exact itoa_fine h2
  · exact itoa_fine h3
  · exact fmt_fine hf
  · exact itoa_fine h4
theorem line_two {a b : By} (ha : fine a) (hb : fine b) : fineL [a, b] := by
  refine ⟨by simp, by simp, ?_⟩
  intro w hw
  simp only [List.mem_cons, List.not_mem_nil, or_false] at hw
  rcases hw with rfl | rfl
  · exact ha
  · exact hb
theorem line_three {a b c : By} (ha : fine a) (hb : fine b) (hc : fine c) : fineL [a, b, c] := by
  refine ⟨by simp, by simp, ?_⟩
  intro w hw
  simp only [List.mem_cons, List.not_mem_nil, or_false] at hw
  rcases hw with rfl | rfl | rfl
  · exact ha
  · exact hb
  · exact hc
theorem name_set {D : Dt} (h : chkE D = 0) {j : Nat} (hj : j < D.ns) : nameB (D.ss j).nm = true := chk_names h _ (catL_in (n := n4 D) (f := f4 D) (k := 4) (i := 0) (j := j) (by omega) hj)
theorem name_zone {D : Dt} (h : chkE D = 0) {j : Nat} (hj : j < D.nz) : nameB (D.zs j).nm = true := chk_names h _ (catL_in (n := n4 D) (f := f4 D) (k := 4) (i := 1) (j := j) (by omega) hj)
theorem name_link {D : Dt} (h : chkE D = 0) {j : Nat} (hj : j < D.nl) : nameB (D.ls j).nm = true := chk_names h _ (catL_in (n := n4 D) (f := f4 D) (k := 4) (i := 2) (j := j) (by omega) hj)
theorem name_to {D : Dt} (h : chkE D = 0) {j : Nat} (hj : j < D.nl) : nameB (D.ls j).to = true := chk_names h _ (catL_in (n := n4 D) (f := f4 D) (k := 4) (i := 3) (j := j) (by omega) hj)
theorem lines_fine {D : Dt} (h : chkE D = 0) : ∀ ws ∈ lnAll Lib.itoa (pdOf D), fineL ws := by
  intro ws hw
  unfold lnAll pdOf at hw
  rcases List.mem_append.1 hw with hw | hw
  · obtain ⟨s, hs, hw⟩ := List.mem_flatMap.1 hw
    obtain ⟨j, hj, rfl⟩ := List.mem_map.1 hs
    have hj := List.mem_range.1 hj
    unfold lnSet at hw
    rcases List.mem_cons.1 hw with rfl | hw
    · exact line_two fine_set (name_fine (name_set h hj))
    · obtain ⟨r, hr, rfl⟩ := List.mem_map.1 hw
      obtain ⟨i, hi, rfl⟩ := List.mem_map.1 hr
      exact line_rule (chk_rule h hj (List.mem_range.1 hi))
  · rcases List.mem_append.1 hw with hw | hw
    · obtain ⟨s, hs, hw⟩ := List.mem_flatMap.1 hw
      obtain ⟨j, hj, rfl⟩ := List.mem_map.1 hs
      have hj := List.mem_range.1 hj
      unfold lnZone at hw
      rcases List.mem_cons.1 hw with rfl | hw
      · exact line_two fine_zone (name_fine (name_zone h hj))
      · obtain ⟨r, hr, rfl⟩ := List.mem_map.1 hw
        obtain ⟨i, hi, rfl⟩ := List.mem_map.1 hr
        exact line_era (era_num h hj (List.mem_range.1 hi)) ((chk_all h).2.2.2 j hj i (List.mem_range.1 hi))
    · obtain ⟨l, hl, rfl⟩ := List.mem_map.1 hw
      obtain ⟨j, hj, rfl⟩ := List.mem_map.1 hl
      have hj := List.mem_range.1 hj
      exact line_three fine_link (name_fine (name_link h hj)) (name_fine (name_to h hj))
theorem join_len : ∀ (ws : List By), (∀ w ∈ ws, w.length ≤ 21) → (joinW ws).length ≤ ws.length * 22
  | [], _ => by simp [joinW]
  | [w], h => by
    have := h w (by simp)
    simp [joinW]
    omega
  | w :: v :: ws, h => by
    have h1 := h w (by simp)
    have h2 := join_len (v :: ws) (fun x hx => h x (List.mem_cons_of_mem _ hx))
    unfold joinW
    simp only [List.length_append, List.length_cons] at h2 ⊢
    omega
theorem lines_len {n : Nat} : ∀ (ls : List By), (∀ l ∈ ls, l.length ≤ n) → (linesB ls).length ≤ ls.length * (n + 1)
  | [], _ => by simp [linesB]
  | l :: ls, h => by
    have h1 := h l (by simp)
    have h2 := lines_len ls (fun x hx => h x (List.mem_cons_of_mem _ hx))
    have e : linesB (l :: ls) = l ++ [10] ++ linesB ls := by simp [linesB]
    have e2 : (l :: ls).length * (n + 1) = ls.length * (n + 1) + (n + 1) := by rw [List.length_cons, Nat.succ_mul]
    rw [e, e2, List.length_append, List.length_append]
    simp only [List.length_cons, List.length_nil]
    omega
theorem flat_len {α β : Type} {f : α → List β} {m : Nat} : ∀ (l : List α), (∀ x ∈ l, (f x).length ≤ m) → (l.flatMap f).length ≤ l.length * m
  | [], _ => by simp
  | x :: l, h => by
    have h1 := h x (by simp)
    have h2 := flat_len l (fun y hy => h y (List.mem_cons_of_mem _ hy))
    rw [List.flatMap_cons, List.length_append, List.length_cons, Nat.succ_mul]
    omega
theorem show_len {D : Dt} (h : chkE D = 0) : (showD D).length ≤ 1000000 := by
  rw [show_eq]
  unfold showP
  have h1 := lines_len (n := 220) ((lnAll Lib.itoa (pdOf D)).map joinW) (fun l hl => by
    obtain ⟨ws, hw, rfl⟩ := List.mem_map.1 hl
    have hf := lines_fine h ws hw
    have := join_len ws (fun w hw => (hf.2.2 w hw).1)
    have := hf.2.1
    omega)
  rw [List.length_map] at h1
  have hc := (chk_all h).1
  have h2 : (lnAll Lib.itoa (pdOf D)).length ≤ 3 * 5 + (5 * 5 + 4) := by
    unfold lnAll
    rw [List.length_append, List.length_append, List.length_map]
    have a := flat_len (f := lnSet Lib.itoa) (m := 5) (pdOf D).sets (fun s hs => by
      obtain ⟨j, hj, rfl⟩ := List.mem_map.1 hs
      have := hc.2.1 j (List.mem_range.1 hj)
      simp [lnSet]
      omega)
    have b := flat_len (f := lnZone Lib.itoa) (m := 5) (pdOf D).zones (fun s hs => by
      obtain ⟨j, hj, rfl⟩ := List.mem_map.1 hs
      have := hc.2.2 j (List.mem_range.1 hj)
      simp [lnZone]
      omega)
    have c1 : (pdOf D).sets.length = D.ns := by simp [pdOf]
    have c2 : (pdOf D).zones.length = D.nz := by simp [pdOf]
    have c3 : (pdOf D).links.length = D.nl := by simp [pdOf]
    rw [c1] at a
    rw [c2] at b
    rw [c3]
    have := hc.1
    omega
  omega
theorem sh_ok {D : Dt} (h : chkE D = 0) : ShOk D := by
  have hc := (chk_all h).1
  exact ⟨by have := hc.1; omega, by have := hc.1; omega, by have := hc.1; omega, fun j hj => by have := hc.2.1 j hj; omega, fun j hj => by have := hc.2.2 j hj; omega, fun j hj i hi => rule_num (chk_rule h hj hi), fun j hj i hi => era_num h hj hi, show_len h⟩
/-- what right data are shown as is read as it was -/
theorem back_D {D : Dt} (h : chkE D = 0) : guessP numA (showD D) = pdOf D := by
  rw [show_eq]
  refine guess_show ⟨fun s hs r hr => ?_, fun z hz x hx => ?_⟩ (fun ws hw => ?_)
  · obtain ⟨j, hj, rfl⟩ := List.mem_map.1 hs
    obtain ⟨i, hi, rfl⟩ := List.mem_map.1 hr
    have hr0 := chk_rule h (List.mem_range.1 hj) (List.mem_range.1 hi)
    obtain ⟨h1, h2, h3, h4, h5, h6, h7, h8⟩ := rule_num hr0
    refine ⟨num_itoa h1, num_itoa h2, num_itoa h3, num_itoa h4, num_itoa h5, num_itoa h6, num_itoa h7, num_itoa h8, fun e => ?_⟩
    have hl := (rule_parts hr0).2.2
    unfold letS allLet at hl
    rw [e] at hl
    simp only [Bool.and_eq_true, decide_eq_true_eq] at hl
    exact absurd hl.2 (by decide)
  · obtain ⟨j, hj, rfl⟩ := List.mem_map.1 hz
    obtain ⟨i, hi, rfl⟩ := List.mem_map.1 hx
    obtain ⟨h1, h2, h3, h4⟩ := era_num h (List.mem_range.1 hj) (List.mem_range.1 hi)
    exact ⟨num_itoa h1, num_itoa h2, num_itoa h3, num_itoa h4⟩
  · have := lines_fine h ws hw
    exact ⟨this.1, fun w hw => (this.2.2 w hw).2⟩
end Go.Proofs.YtbpdbggojgijiaaGreatDoor.Src
