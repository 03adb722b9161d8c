/- An append of a row that may be empty, at a step of a region that draws its order; a row of links, to read. -/
import Derived.Test.YtcdokhjmpkcpnacDoorDataBegunW
import Derived.Test.YtcdokhjmpkcpnacDoorMoreM
import Derived.Deep.RegionHeld3
import Derived.Deep.RegionHeldLaw
import Derived.Deep.AppendLies
namespace Go.Proofs.YtcdokhjmpkcpnacDoor
open Go Go.RowKit Go.Maps
set_option linter.unusedVariables false

theorem run_append_void {P : Program} {w : World} (base : Nat) (t ty e : TypeId) (i : TypeInfo) (size c : Nat) (ht : P.underlying t = some (.slice e)) (hi : P.info? e = some i)
    (v : Value) (n : Nat) (xs : List Value) (hown : w.ownsRow base e size v n xs) : (Builtin.append_ #[t, t] ty #[v, .slice none 0 c]).run P w = .ok v w := by
  rcases hown.2 with ⟨rfl, rfl⟩ | ⟨g, cap, cur, rfl, _, _, hnc, _⟩
  · simp [Builtin.append_, run_underlying ht, sizeOf, typeInfo, hi, Builtin.lenOf, Builtin.firstCells]
  · simp [Builtin.append_, run_underlying ht, sizeOf, typeInfo, hi, Builtin.lenOf, Builtin.firstCells, hnc, storeCells]
theorem step_append_row {P : Program} (w : World) {ops : Array Oper} {o : Oper} {a : Act} {K : Act → World → Prop} {Q : Exit → Act → World → Prop} {E : Prop} (hgd : o.guard = none) (s x : Operand) (t : TypeId)
    (ho : o.op = .call { callee := .builtin .append, args := #[s, x], argTypes := #[t, t] })
    (base : Nat) (e : TypeId) (i : TypeInfo) (z : Value) (size bytes : Nat) (ht : P.underlying t = some (.slice e)) (hi : P.info? e = some i) (hz : i.zero = some z)
    (hsize : i.size = size) (hby : i.bytes = bytes) (hzs : z.cells.size = size) (hsz : 0 < size)
    (v : Value) (n : Nat) (xs : List Value) (hs : a.eval s = v) (hown : w.ownsRow base e size v n xs)
    (ao : Option Addr) (m c : Nat) (news : List Value) (hx : a.eval x = .slice ao m c) (hl : news.length = m * size) (hnews : m = 0 ∨ ∃ ad, ao = some ad ∧ ∀ j u, news[j]? = some u → w.cell? (ad.add j) = some u) (h1 : ∀ u ∈ news, u.oneCell' = true)
    (h63 : n + m ≤ maxLen) (hbytes : (n + m) * bytes ≤ 140737488355328) (hbase : base ≤ w.heap.size)
    (h : ∀ v' w', w'.ownsRow base e size v' (n + m) (xs ++ news) → w.grownBy w' v.ownBlock → (v'.ownBlock = v.ownBlock ∨ v'.ownBlock = some w.heap.size) → K (a.put o.dst v') w') :
    if Region.wanted o (yielded ops a.tmps) = true then Oper.wp P o a w K Q else E := by
  have hw : Region.wanted o (yielded ops a.tmps) = true := by simp [Region.wanted, hgd]
  rw [if_pos hw]
  have key : ∃ v' w', (Builtin.append_ #[t, t] o.type #[v, .slice ao m c]).run P w = .ok v' w' ∧ w'.ownsRow base e size v' (n + m) (xs ++ news) ∧ w.grownBy w' v.ownBlock ∧ (v'.ownBlock = v.ownBlock ∨ v'.ownBlock = some w.heap.size) := by
    cases ao with
    | none =>
      rcases hnews with rfl | ⟨ad, h0, _⟩
      · have : news = [] := by cases news with
          | nil => rfl
          | cons => simp at hl
        subst this
        exact ⟨v, w, run_append_void base t o.type e i size c ht hi v n xs hown, by simpa using hown, ⟨rfl, rfl, rfl, Nat.le_refl _, fun _ _ _ => rfl⟩, .inl rfl⟩
      · cases h0
    | some ad =>
      have hn : ∀ j u, news[j]? = some u → w.cell? (ad.add j) = some u := by
        rcases hnews with rfl | ⟨ad', h0, h⟩
        · intro j u hj
          have : news = [] := by cases news with
            | nil => rfl
            | cons => simp at hl
          subst this
          simp at hj
        · cases h0; exact h
      obtain ⟨v', w', hr, h2, h3, _, h5⟩ := run_append_own_at (P := P) w base t o.type e i z size bytes ht hi hz hsize hby hzs hsz v n xs hown ad m c news hl hn h1 h63 hbytes hbase
      exact ⟨v', w', hr, h2, h3, h5⟩
  obtain ⟨v', w', hr, h2, h3, h4⟩ := key
  unfold Oper.wp execOp
  simp only [ho, resolve, invoke, builtin, Sem.run_bind, Sem.run_pure, Result.andThen_ok, List.map_toArray, List.map_cons, List.map_nil, hs, hx, hr]
  exact h v' w' h2 h3 h4
theorem own_empty {w : World} {base g : Nat} {e : TypeId} {size : Nat} (h : w.heap[g]? = some (.cells #[] e)) (hg : base ≤ g) : w.ownsRow base e size (.slice (some ⟨g, 0, none⟩) 0 0) 0 [] :=
  ⟨by simp, .inr ⟨g, 0, #[], rfl, hg, h, Nat.le_refl _, by unfold maxLen; omega, by simp, by simp⟩⟩
/-- the cells of a row of links -/
def lkc (ls : Nat → Lk) (j : Nat) : Value := if j % 2 = 0 then .string (ls (j / 2)).nm else .string (ls (j / 2)).to
def lkr (ls : Nat → Lk) (n : Nat) : List Value := (List.range (n * 2)).map (lkc ls)
theorem lkr_len (ls : Nat → Lk) (n : Nat) : (lkr ls n).length = n * 2 := by simp [lkr]
theorem lkr_one (ls : Nat → Lk) (n : Nat) : ∀ u ∈ lkr ls n, u.oneCell' = true := by
  intro u hu
  obtain ⟨j, _, rfl⟩ := List.mem_map.1 hu
  unfold lkc
  split <;> rfl
theorem lkr_at {ls : Nat → Lk} {n j : Nat} {u : Value} (h : (lkr ls n)[j]? = some u) : j < n * 2 ∧ u = lkc ls j := by
  unfold lkr at h
  rw [List.getElem?_map] at h
  cases hr : (List.range (n * 2))[j]? with
  | none => simp [hr] at h
  | some k =>
    obtain ⟨h1, h2⟩ := List.getElem?_eq_some_iff.1 hr
    simp at h1 h2
    subst h2
    simp [hr] at h
    exact ⟨h1, h.symm⟩
theorem lkc_even (ls : Nat → Lk) (j : Nat) : lkc ls (j * 2) = .string (ls j).nm := by unfold lkc; rw [if_pos (by omega)]; congr 3; omega
theorem lkc_odd (ls : Nat → Lk) (j : Nat) : lkc ls (j * 2 + 1) = .string (ls j).to := by unfold lkc; rw [if_neg (by omega)]; congr 3; omega
theorem lk_news {w : World} {a : Option Addr} {n : Nat} {ls : Nat → Lk} (h : P2 w a n (fun j => .string (ls j).nm) (fun j => .string (ls j).to)) : n = 0 ∨ ∃ ad, a = some ad ∧ ∀ j u, (lkr ls n)[j]? = some u → w.cell? (ad.add j) = some u := by
  rcases h with h | ⟨b, off, h1, h2⟩
  · exact .inl h
  · refine .inr ⟨_, h1, fun j u hj => ?_⟩
    obtain ⟨hl, rfl⟩ := lkr_at hj
    have hadd : (⟨b, off, none⟩ : Addr).add j = ⟨b, off + j, none⟩ := by unfold Addr.add; split <;> simp_all
    rw [hadd]
    obtain ⟨c0, c1⟩ := h2 (j / 2) (by omega)
    unfold lkc
    by_cases hp : j % 2 = 0
    · rw [if_pos hp, ← c0]; congr 2; omega
    · rw [if_neg hp, ← c1]; congr 2; omega
theorem lkr_more (D : Dt) (x : Lk) (a : Option Addr) (c : Nat) : [] ++ lkr D.ls D.nl ++ [.string x.nm, .string x.to] = lkr (mor D x a c).ls (D.nl + 1) := by
  unfold lkr
  rw [show (D.nl + 1) * 2 = D.nl * 2 + 1 + 1 by omega, List.range_succ, List.range_succ]
  have h1 : (List.range (D.nl * 2)).map (lkc (mor D x a c).ls) = (List.range (D.nl * 2)).map (lkc D.ls) := by
    refine List.map_congr_left fun j hj => ?_
    have hj := List.mem_range.1 hj
    have : (mor D x a c).ls (j / 2) = D.ls (j / 2) := if_pos (by omega)
    unfold lkc
    rw [this]
  have hl : (mor D x a c).ls D.nl = x := if_neg (Nat.lt_irrefl _)
  rw [List.map_append, List.map_append, h1, List.map_singleton, List.map_singleton, lkc_even, lkc_odd, hl]
  simp
theorem own_p2 {w : World} {base n : Nat} {e : TypeId} {v : Value} {ls : Nat → Lk} (h : w.ownsRow base e 2 v n (lkr ls n)) : ∃ a c, v = .slice a n c ∧ P2 w a n (fun j => .string (ls j).nm) (fun j => .string (ls j).to) := by
  rcases h.2 with ⟨rfl, rfl⟩ | ⟨g, cap, cur, rfl, hb, hg, hn, hm, hs, ht⟩
  · exact ⟨none, 0, rfl, .inl rfl⟩
  · refine ⟨some ⟨g, 0, none⟩, cap, rfl, .inr ⟨g, 0, rfl, fun j hj => ?_⟩⟩
    have h1 := h.cellAt (j * 2) (by omega)
    have h2 := h.cellAt (j * 2 + 1) (by omega)
    rw [Nat.zero_add, h1, h2]
    unfold lkr
    constructor
    · rw [List.getElem?_map, List.getElem?_range (by omega)]; exact congrArg some (lkc_even ls j)
    · rw [List.getElem?_map, List.getElem?_range (by omega)]; exact congrArg some (lkc_odd ls j)
theorem mor_at {w w' : World} {D : Dt} {x : Lk} {a : Option Addr} {c : Nat} (hD : DAt w' D) (h : P2 w' a (D.nl + 1) (fun j => .string ((mor D x a c).ls j).nm) (fun j => .string ((mor D x a c).ls j).to)) : DAt w' (mor D x a c) := ⟨hD.sets, hD.rules, hD.zones, hD.eras, h⟩
theorem own_lt2 {w : World} {base n size : Nat} {e : TypeId} {v : Value} {xs : List Value} (h : w.ownsRow base e size v n xs) {g : Nat} (hg : v.ownBlock = some g) : base ≤ g ∧ g < w.heap.size := by
  rcases h.2 with ⟨rfl, _⟩ | ⟨g', cap, cur, rfl, hb, hh, _⟩
  · simp [Value.ownBlock] at hg
  · obtain rfl : g' = g := by simpa [Value.ownBlock] using hg
    exact ⟨hb, (Array.getElem?_eq_some_iff.1 hh).1⟩
theorem bel_alloc {w0 v : World} (o : Obj) (h : Below w0.heap.size w0 v) : Below w0.heap.size w0 (v.alloc o) := h.alloc h.size o
theorem bx_alloc {W : World} {b : Nat} {o : Obj} (h : W.heap[b]? = some o) (x : Obj) : (W.alloc x).heap[b]? = some o := heap_on h ((Below.refl _ W).alloc (Nat.le_refl _) x)
theorem info_lk : (Tryd.prog.info? 28).map (fun i => (i.zero, i.size, i.bytes)) = some (some (.agg #[.string ⟨#[]⟩, .string ⟨#[]⟩]), 2, 32) := by kernel_rfl
/-- the first append: the links that are there, behind an empty row -/
theorem more_app1 (D : Dt) (w0 U : World) {ops : Array Oper} {o : Oper} {a : Act} {K : Act → World → Prop} {Q : Exit → Act → World → Prop} {E : Prop} (hgd : o.guard = none) (s x : Operand)
    (ho : o.op = .call { callee := .builtin .append, args := #[s, x], argTypes := #[24, 24] })
    (g : Nat) (hs : a.eval s = .slice (some ⟨g, 0, none⟩) 0 0) (hx : a.eval x = .slice D.la D.nl D.lc) (hU : Below w0.heap.size w0 U) (hg : U.heap[g]? = some (.cells #[] 28)) (hb : w0.heap.size ≤ g)
    (hP : P2 w0 D.la D.nl (fun j => .string (D.ls j).nm) (fun j => .string (D.ls j).to)) (hn : (D.nl + 1) * 32 ≤ 140737488355328)
    (h : ∀ v1 w1, Hid (w1.ownsRow w0.heap.size 28 2 v1 D.nl (lkr D.ls D.nl)) → Hid (Below w0.heap.size w0 w1) → Hid (∀ k o, k ≠ g → U.heap[k]? = some o → w1.heap[k]? = some o) → K (a.put o.dst v1) w1) :
    if Region.wanted o (yielded ops a.tmps) = true then Oper.wp Tryd.prog o a U K Q else E := by
  obtain ⟨i0, hi, hz0, hz1, hz2⟩ := info_parts info_lk
  have hown := own_empty (base := w0.heap.size) (size := 2) hg hb
  refine step_append_row U hgd s x 24 ho w0.heap.size 28 i0 _ 2 32 Tryd.underlying24 hi hz0 hz1 hz2 rfl (by decide) _ 0 [] hs hown D.la D.nl D.lc (lkr D.ls D.nl) hx (lkr_len _ _) (lk_news (hP.on hU)) (lkr_one _ _) (by unfold maxLen; omega) (by omega) hU.size ?_
  intro v1 w1 h1 h2 _
  refine h v1 w1 ?_ ?_ ?_
  · have := h1
    rw [Nat.zero_add, List.nil_append] at this
    exact this
  · exact hU.grown h2 hU.size (fun k hk => (own_lt2 hown hk).1)
  · intro k o hk hU'
    rw [h2.block k (Array.getElem?_eq_some_iff.1 hU').1 (fun e => hk (by simpa [Value.ownBlock] using e))]
    exact hU'
/-- the second append: one link more -/
theorem more_app2 (D : Dt) (y : Lk) (w0 U : World) {ops : Array Oper} {o : Oper} {a : Act} {K : Act → World → Prop} {Q : Exit → Act → World → Prop} {E : Prop} (hgd : o.guard = none) (s x : Operand)
    (ho : o.op = .call { callee := .builtin .append, args := #[s, x], argTypes := #[24, 24] })
    (v1 : Value) (g : Nat) (hs : a.eval s = v1) (hx : a.eval x = .slice (some ⟨g, 0, none⟩) 1 1) (hU : Below w0.heap.size w0 U) (hown : U.ownsRow w0.heap.size 28 2 v1 D.nl (lkr D.ls D.nl)) (hg : U.heap[g]? = some (.cells #[.string y.nm, .string y.to] 28))
    (hn : (D.nl + 1) * 32 ≤ 140737488355328)
    (h : ∀ a' c' w2, Hid (w2.ownsRow w0.heap.size 28 2 (.slice a' (D.nl + 1) c') (D.nl + 1) (lkr (mor D y a' c').ls (D.nl + 1))) → Hid (Below w0.heap.size w0 w2) → K (a.put o.dst (.slice a' (D.nl + 1) c')) w2) :
    if Region.wanted o (yielded ops a.tmps) = true then Oper.wp Tryd.prog o a U K Q else E := by
  obtain ⟨i0, hi, hz0, hz1, hz2⟩ := info_parts info_lk
  refine step_append_row U hgd s x 24 ho w0.heap.size 28 i0 _ 2 32 Tryd.underlying24 hi hz0 hz1 hz2 rfl (by decide) _ D.nl (lkr D.ls D.nl) hs hown (some ⟨g, 0, none⟩) 1 1 [.string y.nm, .string y.to] hx rfl (.inr ⟨_, rfl, World.news_of_block hg⟩) (by simp [Value.oneCell']) (by unfold maxLen; omega) (by omega) hU.size ?_
  intro v2 w2 h1 h2 _
  obtain ⟨a', c', rfl, -⟩ : ∃ a' c', v2 = .slice a' (D.nl + 1) c' ∧ True := by
    rcases h1.2 with ⟨rfl, h0⟩ | ⟨g', cap, cur, rfl, _⟩
    · omega
    · exact ⟨_, _, rfl, trivial⟩
  refine h a' c' w2 ?_ (hU.grown h2 hU.size (fun k hk => (own_lt2 hown hk).1))
  have e := lkr_more D y a' c'
  rw [List.nil_append] at e
  rw [e] at h1
  exact h1
theorem more_store {D : Dt} {x : Lk} {a : Option Addr} {c H : Nat} {w0 w2 : World} (hH : H + 3 = w0.heap.size) (hB : Below w0.heap.size w0 w2) (hown : w2.ownsRow w0.heap.size 28 2 (.slice a (D.nl + 1) c) (D.nl + 1) (lkr (mor D x a c).ls (D.nl + 1)))
    {t : TypeId} (hM : w0.heap[H + 2]? = some (.cells #[.slice D.sa D.ns D.sc, .slice D.za D.nz D.zc, .slice D.la D.nl D.lc] t)) : (w2.setCell ⟨H + 2, 2, none⟩ (.slice a (D.nl + 1) c)).heap[H + 2]? = some (.cells #[.slice D.sa D.ns D.sc, .slice D.za D.nz D.zc, .slice a (D.nl + 1) c] t) ∧
      P2 (w2.setCell ⟨H + 2, 2, none⟩ (.slice a (D.nl + 1) c)) a (D.nl + 1) (fun j => .string ((mor D x a c).ls j).nm) (fun j => .string ((mor D x a c).ls j).to) := by
  refine ⟨?_, ?_⟩
  · have := heap_setCell_same w2 (H + 2) 2 _ t (.slice a (D.nl + 1) c) (heap_on hM hB)
    simpa using this
  · obtain ⟨a', c', e, h⟩ := own_p2 (ownsRow_setCell_below hown (a := ⟨H + 2, 2, none⟩) (by show H + 2 < _; omega) (.slice a (D.nl + 1) c))
    obtain ⟨rfl, _, rfl⟩ := Value.slice.inj e
    exact h
end Go.Proofs.YtcdokhjmpkcpnacDoor
