/- A row of books, and one more. -/
import Derived.Test.YtmpiijipebngcaaGreatDoorNamesH
import Derived.Test.YtmpiijipebngcaaGreatDoorNamesDAll
import Derived.Test.YtmpiijipebngcaaGreatDoorAppRow
import Derived.Test.YtmpiijipebngcaaGreatDoorRefApAll
namespace Go.Proofs.YtmpiijipebngcaaGreatDoor
open Go Go.RowKit Go.Maps
set_option linter.unusedVariables false

theorem wp_append_rowN {P : Program} (w : World) {o : Oper} {a : Act} {K : Act → World → Prop} {Q : Exit → Act → World → Prop} (s x : Operand) (t : TypeId)
    (ho : o.op = .call { callee := .builtin .append, args := #[s, x], argTypes := #[t, t] })
    (base : Nat) (e : TypeId) (i : TypeInfo) (z : Value) (size bytes : Nat) (ht : P.underlying t = some (.slice e)) (hi : P.info? e = some i) (hz : i.zero = some z)
    (hsize : i.size = size) (hby : i.bytes = bytes) (hzs : z.cells.size = size) (hsz : 0 < size)
    (v : Value) (n : Nat) (xs : List Value) (hs : a.eval s = v) (hown : w.ownsRow base e size v n xs)
    (ao : Option Addr) (m c : Nat) (news : List Value) (hx : a.eval x = .slice ao m c) (hl : news.length = m * size) (hnews : m = 0 ∨ ∃ ad, ao = some ad ∧ ∀ j u, news[j]? = some u → w.cell? (ad.add j) = some u) (h1 : ∀ u ∈ news, u.oneCell' = true)
    (h63 : n + m ≤ maxLen) (hbytes : (n + m) * bytes ≤ 140737488355328) (hbase : base ≤ w.heap.size)
    (h : ∀ v' w', w'.ownsRow base e size v' (n + m) (xs ++ news) → w.grownBy w' v.ownBlock → (v'.ownBlock = v.ownBlock ∨ v'.ownBlock = some w.heap.size) → K (a.put o.dst v') w') :
    Oper.wp P o a w K Q := by
  have key : ∃ v' w', (Builtin.append_ #[t, t] o.type #[v, .slice ao m c]).run P w = .ok v' w' ∧ w'.ownsRow base e size v' (n + m) (xs ++ news) ∧ w.grownBy w' v.ownBlock ∧ (v'.ownBlock = v.ownBlock ∨ v'.ownBlock = some w.heap.size) := by
    have hnil : m = 0 → news = [] := fun h => by
      subst h
      cases news with
      | nil => rfl
      | cons => simp at hl
    cases ao with
    | none =>
      rcases hnews with rfl | ⟨ad, h0, _⟩
      · rw [hnil rfl]
        exact ⟨v, w, run_append_void base t o.type e i size c ht hi v n xs hown, by simpa using hown, ⟨rfl, rfl, rfl, Nat.le_refl _, fun _ _ _ => rfl⟩, .inl rfl⟩
      · cases h0
    | some ad =>
      have hn : ∀ j u, news[j]? = some u → w.cell? (ad.add j) = some u := by
        rcases hnews with rfl | ⟨ad', h0, h⟩
        · intro j u hj
          rw [hnil rfl] at hj
          simp at hj
        · cases h0; exact h
      obtain ⟨v', w', hr, h2, h3, _, h5⟩ := run_append_own_at (P := P) w base t o.type e i z size bytes ht hi hz hsize hby hzs hsz v n xs hown ad m c news hl hn h1 h63 hbytes hbase
      exact ⟨v', w', hr, h2, h3, h5⟩
  obtain ⟨v', w', hr, h2, h3, h4⟩ := key
  unfold Oper.wp execOp
  simp only [ho, resolve, invoke, builtin, Sem.run_bind, Sem.run_pure, Result.andThen_ok, List.map_toArray, List.map_cons, List.map_nil, hs, hx, hr]
  exact h v' w' h2 h3 h4
theorem wpList_append_rowN {P : Program} (w : World) {ops : Array Oper} {rest : List Oper} {o : Oper} {a : Act} {Q : Exit → Act → World → Prop} (hgd : o.guard = none) (s x : Operand) (t : TypeId)
    (ho : o.op = .call { callee := .builtin .append, args := #[s, x], argTypes := #[t, t] })
    (base : Nat) (e : TypeId) (i : TypeInfo) (z : Value) (size bytes : Nat) (ht : P.underlying t = some (.slice e)) (hi : P.info? e = some i) (hz : i.zero = some z)
    (hsize : i.size = size) (hby : i.bytes = bytes) (hzs : z.cells.size = size) (hsz : 0 < size)
    (v : Value) (n : Nat) (xs : List Value) (hs : a.eval s = v) (hown : w.ownsRow base e size v n xs)
    (ao : Option Addr) (m c : Nat) (news : List Value) (hx : a.eval x = .slice ao m c) (hl : news.length = m * size) (hnews : m = 0 ∨ ∃ ad, ao = some ad ∧ ∀ j u, news[j]? = some u → w.cell? (ad.add j) = some u) (h1 : ∀ u ∈ news, u.oneCell' = true)
    (h63 : n + m ≤ maxLen) (hbytes : (n + m) * bytes ≤ 140737488355328) (hbase : base ≤ w.heap.size)
    (h : ∀ v' w', w'.ownsRow base e size v' (n + m) (xs ++ news) → w.grownBy w' v.ownBlock → (v'.ownBlock = v.ownBlock ∨ v'.ownBlock = some w.heap.size) → wpList P ops Q rest (a.put o.dst v') w') : wpList P ops Q (o :: rest) a w :=
  wpList_plain hgd fun _ hK => wp_append_rowN w s x t ho base e i z size bytes ht hi hz hsize hby hzs hsz v n xs hs hown ao m c news hx hl hnews h1 h63 hbytes hbase fun v' w' h2 h3 h4 => hK _ _ (h v' w' h2 h3 h4)
theorem own_onN {w w' : World} {base n size : Nat} {e : TypeId} {v : Value} {xs : List Value} (h : w.ownsRow base e size v n xs) (hb : Below w.heap.size w w') : w'.ownsRow base e size v n xs :=
  ⟨h.1, h.2.imp id fun ⟨g, cap, cur, h1, h2, h3, h4⟩ => ⟨g, cap, cur, h1, h2, (hb.block g (Array.getElem?_eq_some_iff.1 h3).1).trans h3, h4⟩⟩
theorem below_ownN {base : Nat} {w W w1 : World} {n size : Nat} {e : TypeId} {v : Value} {xs : List Value} (hB : Below base w W) (hb : base ≤ w.heap.size) (h : W.ownsRow base e size v n xs) (hg : W.grownBy w1 v.ownBlock) : Below base w w1 :=
  hB.grown hg (by have := hB.size; omega) (fun k hk => (own_lt h hk).1)
def bkc (bs : Nat → Bk) (j : Nat) : Value := if j % 3 = 0 then .string (bs (j / 3)).lc else if j % 3 = 1 then .int .i64 (bs (j / 3)).pa else (bs (j / 3)).sl
def bkr (bs : Nat → Bk) (n : Nat) : List Value := (List.range (n * 3)).map (bkc bs)
theorem bkr_len (bs : Nat → Bk) (n : Nat) : (bkr bs n).length = n * 3 := by simp [bkr]
theorem bkr_one (bs : Nat → Bk) (n : Nat) : ∀ u ∈ bkr bs n, u.oneCell' = true := by
  intro u hu
  obtain ⟨j, _, rfl⟩ := List.mem_map.1 hu
  unfold bkc
  split
  · rfl
  · split <;> rfl
theorem bkr_at {bs : Nat → Bk} {n j : Nat} {u : Value} (h : (bkr bs n)[j]? = some u) : j < n * 3 ∧ u = bkc bs j := by
  unfold bkr at h
  rw [List.getElem?_map] at h
  cases hr : (List.range (n * 3))[j]? with
  | none => simp [hr] at h
  | some k =>
    obtain ⟨h1, h2⟩ := List.getElem?_eq_some_iff.1 hr
    simp at h1 h2
    subst h2
    simp [hr] at h
    exact ⟨h1, h.symm⟩
theorem bk_news {w : World} {a : Option Addr} {n : Nat} {bs : Nat → Bk} (h : BAt w a n bs) : n = 0 ∨ ∃ ad, a = some ad ∧ ∀ j u, (bkr bs n)[j]? = some u → w.cell? (ad.add j) = some u := by
  rcases h.rows with h | ⟨b, off, h1, h2⟩
  · exact .inl h
  · refine .inr ⟨_, h1, fun j u hj => ?_⟩
    obtain ⟨hl, rfl⟩ := bkr_at hj
    have hadd : (⟨b, off, none⟩ : Addr).add j = ⟨b, off + j, none⟩ := by unfold Addr.add; split <;> simp_all
    rw [hadd]
    obtain ⟨c0, c1, c2⟩ := h2 (j / 3) (by omega)
    unfold bkc
    by_cases hp : j % 3 = 0
    · rw [if_pos hp, ← c0]; congr 2; omega
    · rw [if_neg hp]
      by_cases hq : j % 3 = 1
      · rw [if_pos hq, ← c1]; congr 2; omega
      · rw [if_neg hq, ← c2]; congr 2; omega
theorem bkr_more (bs : Nat → Bk) (n k : Nat) : bkr bs n ++ [.string heirB, .int .i64 k, .slice none 0 0] = bkr (hbs bs n k) (n + 1) := by
  unfold bkr
  rw [show (n + 1) * 3 = n * 3 + 1 + 1 + 1 by omega, List.range_succ, List.range_succ, List.range_succ]
  have h1 : (List.range (n * 3)).map (bkc (hbs bs n k)) = (List.range (n * 3)).map (bkc bs) := by
    refine List.map_congr_left fun j hj => ?_
    have hj := List.mem_range.1 hj
    unfold bkc
    rw [hbs_lt (by omega)]
  have e0 : bkc (hbs bs n k) (n * 3) = .string heirB := by unfold bkc; rw [if_pos (by omega), show n * 3 / 3 = n by omega, hbs_eq]
  have e1 : bkc (hbs bs n k) (n * 3 + 1) = .int .i64 k := by unfold bkc; rw [if_neg (by omega), if_pos (by omega), show (n * 3 + 1) / 3 = n by omega, hbs_eq]
  have e2 : bkc (hbs bs n k) (n * 3 + 1 + 1) = .slice none 0 0 := by unfold bkc; rw [if_neg (by omega), if_neg (by omega), show (n * 3 + 1 + 1) / 3 = n by omega, hbs_eq]
  rw [List.map_append, List.map_append, List.map_append, h1, List.map_singleton, List.map_singleton, List.map_singleton, e0, e1, e2]
  simp
theorem own_p3 {w : World} {base n g c : Nat} {e : TypeId} {bs : Nat → Bk} (h : w.ownsRow base e 3 (.slice (some ⟨g, 0, none⟩) n c) n (bkr bs n)) : P3 w (some ⟨g, 0, none⟩) n (fun j => .string (bs j).lc) (fun j => .int .i64 (bs j).pa) (fun j => (bs j).sl) := by
  refine .inr ⟨g, 0, rfl, fun j hj => ?_⟩
  have key : ∀ o, o < n * 3 → w.cell? ⟨g, o, none⟩ = some (bkc bs o) := fun o ho => by
    have := h.cellAt o ho
    rw [this]
    unfold bkr
    simp [ho]
  rw [Nat.zero_add, key _ (by omega), key _ (by omega), key _ (by omega)]
  unfold bkc
  rw [if_pos (by omega), if_neg (by omega), if_pos (by omega), if_neg (by omega), if_neg (by omega), show j * 3 / 3 = j by omega, show (j * 3 + 1) / 3 = j by omega, show (j * 3 + 2) / 3 = j by omega]
  exact ⟨rfl, rfl, rfl⟩
theorem heir_bat {w : World} {base n g c k : Nat} {e : TypeId} {bs : Nat → Bk} (h : w.ownsRow base e 3 (.slice (some ⟨g, 0, none⟩) (n + 1) c) (n + 1) (bkr (hbs bs n k) (n + 1))) (hp : ∀ j, j < n → (bs j).row w) : BAt w (some ⟨g, 0, none⟩) (n + 1) (hbs bs n k) := by
  refine ⟨own_p3 h, fun j hj => ?_⟩
  rcases lt_succ_cases hj with h1 | rfl
  · rw [hbs_lt h1]; exact hp j h1
  · rw [hbs_eq]; exact .inl rfl
theorem heir_fits {bs : Nat → Bk} {n k : Nat} (hk : k < n) (hn : n ≤ 1000) (h : ∀ j, j < n → (bs j).fits) : ∀ j, j < n + 1 → (hbs bs n k j).fits := fun j hj => by
  rcases lt_succ_cases hj with h1 | rfl
  · rw [hbs_lt h1]; exact h j h1
  · rw [hbs_eq]
    exact ⟨by show heirB.size ≤ _; unfold maxLen; decide, Nat.zero_le _, fun i hi => absurd hi (Nat.not_lt_zero _), fun i hi => absurd hi (Nat.not_lt_zero _), by show -9223372036854775808 ≤ (k : Int) ∧ (k : Int) ≤ _; omega⟩
theorem zq5 {w : World} {q : Nat} {X : Wd} {t : TypeId} (h : w.heap[q]? = some (.cells X.cs t)) : Zq w q := by
  intro o v hv
  have : o = 0 ∨ o = 1 ∨ o = 2 ∨ o = 3 ∨ o = 4 ∨ 5 ≤ o := by omega
  rcases this with rfl | rfl | rfl | rfl | rfl | h5
  · simp [World.cell?, h] at hv; rw [← hv]; rfl
  · simp [World.cell?, h] at hv; rw [← hv]; rfl
  · simp [World.cell?, h] at hv; rw [← hv]; rfl
  · simp [World.cell?, h] at hv; rw [← hv]; rfl
  · simp [World.cell?, h] at hv; rw [← hv]; rfl
  · simp [World.cell?, h] at hv
    rw [List.getElem?_eq_none (by simpa using h5)] at hv
    cases hv
theorem set_last {w : World} {b : Nat} {x y z u v v' : Value} {t : TypeId} (h : w.heap[b]? = some (.cells #[x, y, z, u, v] t)) : (w.setCell ⟨b, 4, none⟩ v').heap[b]? = some (.cells #[x, y, z, u, v'] t) := by
  simp [World.setCell, Array.getElem?_modify, h]
theorem heir_env {w5 : World} {X : Wd} {j q g c base : Nat} {e : TypeId} {t : TypeId} (v : Value) (hE : NEnv w5 X) (hE6 : NEnv (w5.setCell ⟨q, 4, none⟩ v) X) (hb : w5.heap[q]? = some (.cells X.cs t)) (hj : j < X.bn) (hn : X.bn ≤ 4) (h : w5.ownsRow base e 3 (.slice (some ⟨g, 0, none⟩) (X.bn + 1) c) (X.bn + 1) (bkr (hbs X.bs X.bn j) (X.bn + 1))) :
    NEnv (w5.setCell ⟨q, 4, none⟩ v) (heb X j (some ⟨g, 0, none⟩) c) := by
  have hc : X.bn + 1 ≤ c := by
    rcases h.2 with ⟨h1, _⟩ | ⟨g', cap, cur, h1, _, _, h2, _⟩
    · cases h1
    · cases h1; exact h2
  refine ⟨hE6.ue, by show X.bn + 1 ≤ _; unfold maxLen; omega, hc, BAt.off (zq5 hb) (fun b hb o => cso_n (by exact hb)) (heir_bat h fun i hi => hE.bat.prs i hi), heir_fits hj (by omega) hE6.bf⟩
theorem info_book : (Tryz.prog.info? 54).map (fun i => (i.zero, i.size, i.bytes)) = some (some (.agg #[.string ⟨#[]⟩, .int .i64 0, .slice none 0 0]), 3, 48) := by kernel_rfl
end Go.Proofs.YtmpiijipebngcaaGreatDoor
