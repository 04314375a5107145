import PyProof.Rows.All
import Wide.All
import OpenK.AllK
import Wide.FinOn
import HandS.ForMost
import HandS.Walk
import HandS.Evl
import HandS.IsInst
import PySem.Challenge.RW_unnamedlives_k01_names
set_option Elab.async false
set_option linter.all false
set_option maxRecDepth 100000
/-! own: a list of draws as ONE unchanging thing of the abstract heap; small words -/
namespace UL
open PySem PySem.Spec PyProof.Rows L2 Evl TL

/-! ### draws -/
def Good (ns : List Int) : Prop := (∀ m ∈ ns, 0 ≤ m ∧ m < 1000003) ∧ ns.length ≤ 4000
def drObj (d : Addr) (h : Heap) : Prop := ∃ (ns : List Int) (its : List Value) (n : Nat), Good ns ∧ Vals (ns.map V.int) its ∧ h.get? d = some { cls := .type "list", data := .seq its.toArray n }
def DrO (d : Addr) : HO := .ext (drObj d)
theorem good_sz {ns : List Int} (g : Good ns) : (ns.map V.int).length ≤ sizeLine := by
  rw [List.length_map]
  exact Nat.le_trans g.2 (by decide)
section
variable {X : Cx} {pins : List (Addr × Obj)} {σ : L2.St} {H : Hp} {s : Shared} {d : Addr}
theorem inv_open (I : Inv X pins σ H s) (h : H d = some (DrO d)) : ∃ ns, Good ns ∧ Inv X pins σ (upd H d (.lst (ns.map V.int))) s := by
  obtain ⟨⟨ns, its, n, g, r, e⟩, _, _⟩ := I.hok d _ h
  exact ⟨ns, g, I.write (x := d) (e := d) (h' := s.heap) (t' := s.toks) (by rw [h]; trivial) (.inl rfl) (fun _ _ _ q => q) ⟨_, e⟩ ⟨good_sz g, its, n, r, e⟩⟩
theorem inv_close {ns : List Int} (I : Inv X pins σ H s) (h : H d = some (.lst (ns.map V.int))) (g : Good ns) : Inv X pins σ (upd H d (DrO d)) s := by
  obtain ⟨z, its, n, r, e⟩ := I.hok d _ h
  exact I.write (x := d) (e := d) (h' := s.heap) (t' := s.toks) (by rw [h]; trivial) (.inl rfl) (fun _ _ _ q => q) ⟨_, e⟩
    ⟨⟨ns, its, n, g, r, e⟩, ⟨_, e⟩, fun h1 h2 ⟨ns', its', n', g', r', e'⟩ k => ⟨ns', its', n', g', r', k _ e'⟩⟩
/-- the list of draws in slot i is opened ahead of the statements -/
def tOpen (i : Nat) (t : TS) : TS := fun D σ H => ∃ d, σ[i]? = some (some (.ref d)) ∧ H d = some (DrO d) ∧ ∀ ns, Good ns → t D σ (upd H d (.lst (ns.map V.int)))
theorem pss_open (i : Nat) {sts : List Stmt} {t : TS} (h : PSs X sts t) : PSs X sts (tOpen i t) := by
  refine ⟨fun pins s σ H D I q => ?_⟩
  obtain ⟨d, _, hd, k⟩ := q
  obtain ⟨ns, g, J⟩ := inv_open I hd
  exact h.run pins s σ _ D J (k ns g)
/-- .. and closed behind an expression -/
def tClose (t : TE) : TE := fun σ H Q => t σ H fun v H1 => ∃ d ns, H1 d = some (.lst (ns.map V.int)) ∧ Good ns ∧ Q v (upd H1 d (DrO d))
theorem pe_close {e : Expr} {t : TE} (h : PE X e t) : PE X e (tClose t) := by
  refine ⟨fun pins s σ H Q I q => ?_⟩
  refine thn (h.run pins s σ H _ I q) fun u s1 ⟨v, H1, I1, r, d, ns, hd, g, k⟩ => ?_
  exact ⟨v, _, inv_close I1 hd g, r, k⟩
end
theorem upd_back {H : Hp} {d : Addr} {o u : HO} (h : H d = some o) : upd (upd H d u) d o = H := by
  funext b
  unfold upd
  by_cases e : b = d
  · rw [if_pos e, e, h]
  · rw [if_neg e, if_neg e]
theorem upd_id {H : Hp} {d : Addr} {o : HO} (h : H d = some o) : upd H d o = H := by
  funext b
  unfold upd
  by_cases e : b = d
  · rw [if_pos e, e, h]
  · rw [if_neg e]
theorem same_upd {H : Hp} {p : Addr} {o : HO} (h : H p = none) : Same H (upd H p o) := fun b x e => by
  rw [upd_ne (ne_of_none e h)]
  exact e
theorem _root_.Evl.Ex.free' {H H' : Hp} {p : Addr} (e : Ex H H') (h : H' p = none) : H p = none := fresh_back e h
theorem good_tail {n : Int} {ns : List Int} (g : Good (n :: ns)) : 0 ≤ n ∧ n < 1000003 ∧ Good ns :=
  ⟨(g.1 n List.mem_cons_self).1, (g.1 n List.mem_cons_self).2, fun m hm => g.1 m (List.mem_cons_of_mem _ hm), Nat.le_trans (Nat.le_succ _) g.2⟩
theorem good_nil : Good [] := ⟨fun _ h => (nomatch h), by decide⟩
theorem good_add {ns : List Int} {n : Int} (g : ∀ m ∈ ns, 0 ≤ m ∧ m < 1000003) (h : 0 ≤ n ∧ n < 1000003) : ∀ m ∈ ns ++ [n], 0 ≤ m ∧ m < 1000003 := fun m hm => by
  rcases List.mem_append.mp hm with h1 | h1
  · exact g m h1
  · rw [List.mem_singleton.mp h1]
    exact h

/-! ### text * int -/
theorem op_mul_str {X : Cx} : OpR X (binaryOp .Mult) (fun x y H Q => ∃ (z : Str) (n : Int), x = .str z ∧ y = .int n ∧ MulOk z n ∧ Q (.str (Txt.mul z n)) H) := by
  intro pins s σ H x y v u Q I rx ry h
  obtain ⟨i, j, rfl, rfl, hz, q⟩ := h
  obtain ⟨t, rfl⟩ := rx
  obtain ⟨t', rfl⟩ := ry
  exact SB.mul hz (fun t' tk => ⟨.str (Txt.mul i j), H, I.tok _, ⟨_, rfl⟩, q⟩)
theorem mulOk_small {z : Str} {n : Int} (hz : z.length ≤ 64) (h0 : 0 ≤ n) (h1 : n ≤ 64) : MulOk z n := by
  refine ⟨?_, fun h2 _ => ?_, fun _ _ => ?_⟩
  · rw [decide_eq_false (by omega), decide_eq_false (by omega)]
    rfl
  · intro h
    have h3 : (64 : Int) ≤ (2 ^ 63 - 1) / n := (Int.le_ediv_iff_mul_le (by omega)).mpr (by omega)
    omega
  · unfold PySem.Builtin.Str.tooLong
    refine decide_eq_false ?_
    have h3 : z.length * n.toNat ≤ 64 * 64 := Nat.mul_le_mul hz (by omega)
    have h4 : (64 * 64 : Nat) ≤ sizeLine := by decide
    omega
theorem tl_reps (x : Array Nat) : ∀ (k : Nat) (a : Array Nat), ((List.replicate k x).foldl (· ++ ·) a).toList = a.toList ++ (List.replicate k x.toList).flatten
  | 0, a => by simp
  | k + 1, a => by
    rw [List.replicate_succ, List.foldl_cons, tl_reps x k (a ++ x), List.replicate_succ, List.flatten_cons, Array.toList_append, List.append_assoc]
theorem tl_mul (z : Str) (n : Int) : tl (Txt.mul z n) = (List.replicate n.toNat (tl z)).flatten := by
  unfold Txt.mul
  by_cases h1 : n < 1
  · rw [if_pos h1, show n.toNat = 0 by omega]
    rfl
  · rw [if_neg h1]
    by_cases h2 : (n == 1 || z.length == 0) = true
    · rw [if_pos h2]
      rcases Bool.or_eq_true _ _ ▸ h2 with h3 | h3
      · have : n = 1 := by simpa using h3
        subst this
        show tl z = (List.replicate 1 (tl z)).flatten
        simp
      · have h4 : (tl z) = [] := by
          have : z.length = 0 := by simpa using h3
          rw [len_tl] at this
          exact List.eq_nil_of_length_eq_zero this
        rw [h4]
        simp
    · rw [if_neg h2]
      show ((List.replicate n.toNat z.cps).foldl (· ++ ·) #[]).toList = _
      rw [tl_reps]
      rfl

theorem rel_of {x : V} {u : Value} (h : absV u = some x) : RelV x u := by
  cases u <;> first | (cases h; done) | (cases h; exact rfl) | (cases h; exact ⟨_, rfl⟩)
theorem vals_of : ∀ {xs : List V} {us : List Value}, us.map absV = xs.map some → Vals xs us
  | [], [], _ => .nil
  | [], _ :: _, h => (nomatch h)
  | _ :: _, [], h => (nomatch h)
  | x :: xs, u :: us, h => by
    rw [List.map_cons, List.map_cons] at h
    exact .cons (rel_of (List.cons.inj h).1) (vals_of (List.cons.inj h).2)
theorem dp_strs {K : PySem.W.Frag} {H : Hp} : ∀ zs : List Str, DpAll K H (zs.map V.str) (zs.map PyData.str)
  | [] => .nil
  | z :: r => .cons (.str z) (dp_strs r)
/-! ### loops -/
section
variable {D : Ends} {tb : TS} {j : Nat} {σ : L2.St} {H : Hp}
theorem forR1 {n : Int} (hn : -(2 ^ 62) ≤ n ∧ n < 2 ^ 62) (Pv : Nat → L2.St → Hp → Prop) (h0 : Pv 0 σ H)
    (hs : ∀ (i : Nat) σ' H', (i : Int) < n → Pv i σ' H' → tb { D with nx := Pv (i + 1), ct := Pv (i + 1), bk := D.nx } (σ'.set j (some (.int (i : Int)))) H') (hd : ∀ σ' H', Pv n.toNat σ' H' → D.nx σ' H') :
    -(2 ^ 62) ≤ n ∧ n < 2 ^ 62 ∧ ∃ W : Nat → Nat → L2.St → Hp → Prop, (∃ m, W 0 m σ H) ∧ ∀ i m σ H, W i m σ H →
      ((Itr 0 n.toNat).stop i H ∧ D.nx σ H) ∨ ((Itr 0 n.toNat).go i H ∧ ∃ N : L2.St → Hp → Prop, (∀ σ' H', N σ' H' → ∃ m', m' < m ∧ W (i + 1) m' σ' H') ∧ ∀ x H', (Itr 0 n.toNat).yld i H x H' → gName j x σ H' fun σ2 H2 => tb { D with nx := N, ct := N, bk := D.nx } σ2 H2) :=
  ⟨hn.1, hn.2, for_range (lo := 0) (n := n.toNat) Pv h0 (fun i σ' H' hi p => by
    have e0 : (0 : Int) + (i : Int) = (i : Int) := Int.zero_add _
    show tb { D with nx := Pv (i + 1), ct := Pv (i + 1), bk := D.nx } (σ'.set j (some (.int ((0 : Int) + (i : Int))))) H'
    rw [e0]
    exact hs i σ' H' (by omega) p) hd⟩
end
theorem seq0 (n : Nat) : seqIndex? 0 (n + 1) = some 0 := by
  unfold seqIndex?
  have h : (0 : Int) < ((n + 1 : Nat) : Int) := by omega
  have h2 : (0 ≤ (0 : Int) && decide ((0 : Int) < ((n + 1 : Nat) : Int))) = true := by
    rw [decide_eq_true h]
    rfl
  show (if (0 ≤ (0 : Int) && decide ((0 : Int) < ((n + 1 : Nat) : Int))) = true then some (0 : Int).toNat else none) = some 0
  rw [if_pos h2]
  rfl
theorem at_lt {α : Type} {xs : List α} {n : Int} (h0 : 0 ≤ n) (h1 : n < (xs.length : Int)) : ∃ c, atI xs n = some c := by
  obtain ⟨m, rfl⟩ := Int.eq_ofNat_of_zero_le h0
  have hm : m < xs.length := by omega
  exact ⟨xs[m], atI_nat (List.getElem?_eq_getElem hm)⟩
theorem at_in {α : Type} {xs : List α} {n : Int} (h0 : 0 ≤ n) (h1 : n < (xs.length : Int)) : ∃ c, atI xs n = some c ∧ c ∈ xs := by
  obtain ⟨m, rfl⟩ := Int.eq_ofNat_of_zero_le h0
  have hm : m < xs.length := by omega
  exact ⟨xs[m], atI_nat (List.getElem?_eq_getElem hm), List.getElem_mem hm⟩
theorem emod_in {a : Int} : 0 ≤ a % 1000003 ∧ a % 1000003 < 1000003 := ⟨Int.emod_nonneg _ (by decide), Int.emod_lt_of_pos _ (by decide)⟩
theorem int_get {ns : List Int} {i : Nat} (h : i < ns.length) : (ns.map V.int)[i]? = some (.int ns[i]) := by
  rw [List.getElem?_map, List.getElem?_eq_getElem h]
  rfl
/-! ### comprehensions over a text -/
theorem lc_str {z : Str} {f : Nat → V} {j : Nat} {te : TE} {vs : List Nat} {σ : L2.St} {H1 : Hp} {D : Addr} {Qd : Hp → Prop} (hz : z.length ≤ 100000) (hD : H1 D = none) (hw : ∀ x, wipe ((wipe σ vs).set j (some x)) vs = wipe σ vs)
    (he : ∀ (c : Nat) H', Ex H1 H' → ∀ Q : VK, Q (f c) H' → te ((wipe σ vs).set j (some (.str ⟨#[c]⟩))) H' Q) (hd : Qd (upd H1 D (.lst ((tl z).map f)))) :
    ∃ W : Nat → Nat → Hp → Prop, (∃ m, W 0 m (upd H1 D (.lst []))) ∧ ∀ i m H, W i m H →
      ((Its z).stop i H ∧ Qd H) ∨ ((Its z).go i H ∧ ∃ Nx : Hp → Prop, (∀ H', Nx H' → ∃ m', m' < m ∧ W (i + 1) m' H') ∧ ∀ x H', (Its z).yld i H x H' → gName j x (wipe σ vs) H' fun σ2 H2 => wipe σ2 vs = wipe σ vs ∧ tYes σ2 H2 fun b H3 =>
        if b = true then te σ2 H3 fun y H4 => ∃ acc, H4 D = some (.lst acc) ∧ acc.length < sizeLine ∧ Nx (upd H4 D (.lst (acc ++ [y]))) else Nx H3) := by
  refine lc_it walk_str (fun i H' => H' = upd H1 D (.lst (((tl z).take i).map f))) rfl (fun _ _ _ _ => trivial) ?_ ?_
  · rintro i x H H' hi rfl ⟨rfl, c, hc, rfl⟩
    refine ⟨hw _, ?_⟩
    show te _ _ _
    refine he c _ (Ex.new hD) _ ?_
    have hc' : (tl z)[i]? = some c := by rw [← hc]; exact Array.getElem?_toList
    refine ⟨_, upd_same, ?_, ?_⟩
    · rw [List.length_map, List.length_take]
      exact sz_lt (by have := len_tl z; have hs : i < z.length := hi; omega)
    · rw [upd_upd, List.take_add_one, hc', List.map_append]
      rfl
  · rintro H rfl
    have e : (tl z).take z.cps.size = tl z := List.take_of_length_le (by rw [← len_tl]; exact Nat.le_refl _)
    rw [e]
    exact hd
theorem for_str {z : Str} {j : Nat} {tb : TS} {D : Ends} {σ : L2.St} {H : Hp} (Pv : Nat → L2.St → Hp → Prop) (h0 : Pv 0 σ H)
    (hs : ∀ i c σ' H', (tl z)[i]? = some c → Pv i σ' H' → tb { D with nx := Pv (i + 1), ct := Pv (i + 1), bk := D.nx } (σ'.set j (some (.str ⟨#[c]⟩))) H') (hd : ∀ σ' H', Pv (tl z).length σ' H' → D.nx σ' H') :
    ∃ W : Nat → Nat → L2.St → Hp → Prop, (∃ m, W 0 m σ H) ∧ ∀ i m σ H, W i m σ H →
      ((Its z).stop i H ∧ D.nx σ H) ∨ ((Its z).go i H ∧ ∃ N : L2.St → Hp → Prop, (∀ σ' H', N σ' H' → ∃ m', m' < m ∧ W (i + 1) m' σ' H') ∧ ∀ x H', (Its z).yld i H x H' → gName j x σ H' fun σ2 H2 => tb { D with nx := N, ct := N, bk := D.nx } σ2 H2) := by
  refine for_it walk_str Pv h0 (fun _ _ _ _ _ => trivial) ?_ ?_
  · rintro i x σ' H1 H2 hi p ⟨rfl, c, hc, rfl⟩
    exact hs i c σ' _ (by rw [← hc]; exact Array.getElem?_toList) p
  · intro σ' H' p
    exact hd σ' H' p
/-- [te for _ in range(n)]: things of a kind that stays true, also when a list is written -/
theorem lc_n {G : Hp → V → Prop} {n : Int} {j : Nat} {te : TE} {vs : List Nat} {σ : L2.St} {H1 : Hp} {D : Addr} {Qd : Hp → Prop} (hn : 0 ≤ n ∧ n ≤ 100000) (hD : H1 D = none) (hG : ∀ H H' v, Ex H H' → G H v → G H' v)
    (hG2 : ∀ H xs ys v, H D = some (.lst xs) → G H v → G (upd H D (.lst ys)) v) (hw : ∀ x, wipe ((wipe σ vs).set j (some x)) vs = wipe σ vs)
    (he : ∀ (i : Nat) H', (i : Int) < n → Ex H1 H' → ∀ Q : VK, (∀ v H2, Ex H' H2 → G H2 v → Q v H2) → te ((wipe σ vs).set j (some (.int (i : Int)))) H' Q) (hd : ∀ H' xs, Ex H1 H' → H' D = some (.lst xs) → (xs.length : Int) = n → (∀ x ∈ xs, G H' x) → Qd H') :
    ∃ W : Nat → Nat → Hp → Prop, (∃ m, W 0 m (upd H1 D (.lst []))) ∧ ∀ i m H, W i m H →
      ((Itr 0 n.toNat).stop i H ∧ Qd H) ∨ ((Itr 0 n.toNat).go i H ∧ ∃ Nx : Hp → Prop, (∀ H', Nx H' → ∃ m', m' < m ∧ W (i + 1) m' H') ∧ ∀ x H', (Itr 0 n.toNat).yld i H x H' → gName j x (wipe σ vs) H' fun σ2 H2 => wipe σ2 vs = wipe σ vs ∧ tYes σ2 H2 fun b H3 =>
        if b = true then te σ2 H3 fun y H4 => ∃ acc, H4 D = some (.lst acc) ∧ acc.length < sizeLine ∧ Nx (upd H4 D (.lst (acc ++ [y]))) else Nx H3) := by
  refine lc_range (lo := 0) (n := n.toNat) (fun i H' => ∃ xs : List V, Ex H1 H' ∧ H' D = some (.lst xs) ∧ xs.length = i ∧ ∀ x ∈ xs, G H' x) ⟨[], Ex.new hD, upd_same, rfl, fun _ h => (nomatch h)⟩ ?_ ?_
  · rintro i H' hi ⟨xs, e1, hL, hl, hx⟩
    have e0 : (0 : Int) + (i : Int) = (i : Int) := Int.zero_add _
    show wipe ((wipe σ vs).set j (some (.int ((0 : Int) + (i : Int))))) vs = wipe σ vs ∧ _
    refine ⟨hw _, ?_⟩
    show te ((wipe σ vs).set j (some (.int ((0 : Int) + (i : Int))))) _ _
    rw [e0]
    refine he i H' (by omega) e1 _ fun v H2 e2 g => ⟨xs, e2 _ _ hL, sz_lt (by omega), xs ++ [v], (e1.trans e2).mut hD, upd_same, by rw [List.length_append, hl]; rfl, fun x hm => ?_⟩
    rcases List.mem_append.mp hm with h | h
    · exact hG2 _ _ _ _ (e2 _ _ hL) (hG _ _ _ e2 (hx x h))
    · rw [List.mem_singleton.mp h]
      exact hG2 _ _ _ _ (e2 _ _ hL) g
  · rintro H' ⟨xs, e1, hL, hl, hx⟩
    exact hd H' xs e1 hL (by omega) hx
end UL

set_option Elab.async false
set_option linter.all false
set_option maxRecDepth 100000
namespace K01
open PySem PySem.Spec PyProof.Rows L2 Evl TL UL
def k_RESERVED : List V := [V.str "fun", V.str "out", V.str "use", V.str "val", V.str "ref", V.str "set", V.str "block", V.str "if", V.str "else", V.str "loop", V.str "end", V.str "part", V.str "pick", V.str "then", V.str "dead"]
/-! ### the text -/
def topS (i : Nat) : Stmt := PySem.Challenge.pw_unnamedlives_k01_names.main.body.getD i (.Pass ⟨0, 0, 0, 0⟩)
abbrev s_is_name : Stmt := topS 5
abbrev n_is_name : List Str := ["text", "sign"]
abbrev p_is_name : List Str := ["text"]
theorem sc_is_name : FnScope n_is_name p_is_name (defScope s_is_name) := ⟨rfl, rfl, rfl, by decide +kernel, rfl, by decide +kernel, by decide +kernel⟩
abbrev s_draws : Stmt := topS 7
abbrev n_draws : List Str := ["_law_script", "_law_draws_here", "_law_place", "_law_cell", "_law_rest", "_law_turn", "_law_mixed"]
abbrev p_draws : List Str := ["_law_script"]
theorem sc_draws : FnScope n_draws p_draws (defScope s_draws) := ⟨rfl, rfl, rfl, by decide +kernel, rfl, by decide +kernel, by decide +kernel⟩
abbrev s_take : Stmt := topS 8
abbrev n_take : List Str := ["_law_draws_here", "_law_many"]
abbrev p_take : List Str := ["_law_draws_here", "_law_many"]
theorem sc_take : FnScope n_take p_take (defScope s_take) := ⟨rfl, rfl, rfl, by decide +kernel, rfl, by decide +kernel, by decide +kernel⟩
abbrev s_words : Stmt := topS 9
abbrev n_words : List Str := ["_law_words_here"]
abbrev p_words : List Str := []
theorem sc_words : FnScope n_words p_words (defScope s_words) := ⟨rfl, rfl, rfl, by decide +kernel, rfl, by decide +kernel, by decide +kernel⟩
abbrev s_sign : Stmt := topS 10
abbrev n_sign : List Str := ["_law_draws_here", "_law_signs"]
abbrev p_sign : List Str := ["_law_draws_here"]
theorem sc_sign : FnScope n_sign p_sign (defScope s_sign) := ⟨rfl, rfl, rfl, by decide +kernel, rfl, by decide +kernel, by decide +kernel⟩
abbrev s_letter : Stmt := topS 11
abbrev n_letter : List Str := ["_law_draws_here"]
abbrev p_letter : List Str := ["_law_draws_here"]
theorem sc_letter : FnScope n_letter p_letter (defScope s_letter) := ⟨rfl, rfl, rfl, by decide +kernel, rfl, by decide +kernel, by decide +kernel⟩
abbrev s_letters : Stmt := topS 12
abbrev n_letters : List Str := ["_law_draws_here", "_law_k"]
abbrev p_letters : List Str := ["_law_draws_here"]
theorem sc_letters : FnScope n_letters p_letters (defScope s_letters) := ⟨rfl, rfl, rfl, by decide +kernel, rfl, by decide +kernel, by decide +kernel⟩
abbrev s_thing : Stmt := topS 13
abbrev n_thing : List Str := ["_law_draws_here", "_law_shape", "_law_word", "_law_change", "_law_text", "_law_at", "_law_k"]
abbrev p_thing : List Str := ["_law_draws_here"]
theorem sc_thing : FnScope n_thing p_thing (defScope s_thing) := ⟨rfl, rfl, rfl, by decide +kernel, rfl, by decide +kernel, by decide +kernel⟩
abbrev s_lname : Stmt := topS 14
abbrev n_lname : List Str := ["_law_thing_here", "_law_sign_here"]
abbrev p_lname : List Str := ["_law_thing_here"]
theorem sc_lname : FnScope n_lname p_lname (defScope s_lname) := ⟨rfl, rfl, rfl, by decide +kernel, rfl, by decide +kernel, by decide +kernel⟩
abbrev s_right : Stmt := topS 15
abbrev n_right : List Str := ["_law_thing_here", "_law_due", "_law_said"]
abbrev p_right : List Str := ["_law_thing_here", "_law_due"]
theorem sc_right : FnScope n_right p_right (defScope s_right) := ⟨rfl, rfl, rfl, by decide +kernel, rfl, by decide +kernel, by decide +kernel⟩
abbrev s_law : Stmt := topS 16
abbrev n_law : List Str := ["_law_script", "_law_draws_here", "_law_word", "_law_k", "_law_things"]
abbrev p_law : List Str := ["_law_script"]
theorem sc_law : FnScope n_law p_law (defScope s_law) := ⟨rfl, rfl, rfl, by decide +kernel, rfl, by decide +kernel, by decide +kernel⟩
structure Adr where
  is_name : Addr
  d_is_name : FuncData
  draws : Addr
  d_draws : FuncData
  take : Addr
  d_take : FuncData
  words : Addr
  d_words : FuncData
  sign : Addr
  d_sign : FuncData
  letter : Addr
  d_letter : FuncData
  letters : Addr
  d_letters : FuncData
  thing : Addr
  d_thing : FuncData
  lname : Addr
  d_lname : FuncData
  right : Addr
  d_right : FuncData
  law : Addr
  d_law : FuncData
  t_DIGITS : Nat
  t_LETTERS : Nat
  t_MOST_CHARACTERS : Nat
  RESERVED : Addr
structure Tx (K : PySem.W.Frag) (mg : Str → Option Value) (A : Adr) : Prop where
  F_is_name : Fun K "is_name" "is_name" s_is_name A.is_name A.d_is_name
  b_is_name : L2.Binds K A.d_is_name p_is_name []
  g_is_name : mg "is_name" = some (.ref A.is_name)
  F_draws : Fun K "_law_draws" "_law_draws" s_draws A.draws A.d_draws
  b_draws : L2.Binds K A.d_draws p_draws []
  g_draws : mg "_law_draws" = some (.ref A.draws)
  F_take : Fun K "_law_take" "_law_take" s_take A.take A.d_take
  b_take : L2.Binds K A.d_take p_take []
  g_take : mg "_law_take" = some (.ref A.take)
  F_words : Fun K "_law_words" "_law_words" s_words A.words A.d_words
  b_words : L2.Binds K A.d_words p_words []
  g_words : mg "_law_words" = some (.ref A.words)
  F_sign : Fun K "_law_sign" "_law_sign" s_sign A.sign A.d_sign
  b_sign : L2.Binds K A.d_sign p_sign []
  g_sign : mg "_law_sign" = some (.ref A.sign)
  F_letter : Fun K "_law_letter" "_law_letter" s_letter A.letter A.d_letter
  b_letter : L2.Binds K A.d_letter p_letter []
  g_letter : mg "_law_letter" = some (.ref A.letter)
  F_letters : Fun K "_law_letters" "_law_letters" s_letters A.letters A.d_letters
  b_letters : L2.Binds K A.d_letters p_letters []
  g_letters : mg "_law_letters" = some (.ref A.letters)
  F_thing : Fun K "_law_thing" "_law_thing" s_thing A.thing A.d_thing
  b_thing : L2.Binds K A.d_thing p_thing []
  g_thing : mg "_law_thing" = some (.ref A.thing)
  F_lname : Fun K "_law_is_name" "_law_is_name" s_lname A.lname A.d_lname
  b_lname : L2.Binds K A.d_lname p_lname []
  g_lname : mg "_law_is_name" = some (.ref A.lname)
  F_right : Fun K "_law_right" "_law_right" s_right A.right A.d_right
  b_right : L2.Binds K A.d_right p_right []
  g_right : mg "_law_right" = some (.ref A.right)
  F_law : Fun K "law" "law" s_law A.law A.d_law
  b_law : L2.Binds K A.d_law p_law []
  g_law : mg "law" = some (.ref A.law)
  m_abs : mg "abs" = none
  m_all : mg "all" = none
  m_bool : mg "bool" = none
  m_int : mg "int" = none
  m_isinstance : mg "isinstance" = none
  m_len : mg "len" = none
  m_list : mg "list" = none
  m_min : mg "min" = none
  m_range : mg "range" = none
  m_str : mg "str" = none
  m_tuple : mg "tuple" = none
  c_DIGITS : mg "DIGITS" = some (.str "0123456789" A.t_DIGITS)
  c_LETTERS : mg "LETTERS" = some (.str "abcdefghijklmnopqrstuvwxyz" A.t_LETTERS)
  c_MOST_CHARACTERS : mg "MOST_CHARACTERS" = some (.int 8 A.t_MOST_CHARACTERS)
  c_RESERVED : mg "RESERVED" = some (.ref A.RESERVED)
  q_RESERVED : ∀ H : Hp, SqT K H A.RESERVED k_RESERVED
  o_RESERVED : ∃ o, K.lookup A.RESERVED = some o ∧ o.cls = .type "tuple"
def spTake : Sp := fun vs H Q _ => ∃ d m, vs = [.ref d, .int m] ∧ H d = some (DrO d) ∧ 0 < m ∧ ∀ n : Int, 0 ≤ n → n < m → Q (.int n) H
section
variable {P : Program} {w : World} {K : PySem.W.Frag} {mg : Str → Option Value} {base : Heap} {A : Adr}
theorem ok_take (T : Tx K mg A) : FnOk P w K mg base CX0 1 A.take A.d_take p_take spTake := by
  refine T.F_take.ok sc_take (fun vs H Q E h => ?_) (fun cdv Ar outer s H vs Q E hr h => ?_)
  · obtain ⟨d, m, rfl, _⟩ := h
    rfl
  · obtain ⟨d, m, rfl, hd, hm, k⟩ := h
    refine ⟨_, (UL.pss_open 0 (pss_cons (ps_if (pt_cmpR op_eq (pe_callB call_len_seq (by rfl) T.m_len PySem.boot_len (pa_cons (pv 0) pa_nil)) pe_int (nomark _)) (pss_one (ps_ret (UL.pe_close pe_int))) pss_nil)
      (pss_one (ps_ret (UL.pe_close (pe_op op_mod (pe_callTy call_int1 (by rfl) T.m_int (by decide +kernel) (pa_cons (pe_bm PySem.F.plainAttrs_list PySem.F.slot_list_pop PySem.F.type_list_pop mt_popAt (pv 0) (pa_cons pe_int pa_nil)) pa_nil)) (pv 1))))))), ?_⟩
    refine ⟨d, rfl, hd, fun ns g => ?_⟩
    refine ⟨.ref d, rfl, d, _, rfl, .inl (SqL.of upd_same), rfl, _, rfl, ite2 (fun e => ?_) (fun e => ?_)⟩
    · refine ⟨d, ns, upd_same, g, ?_⟩
      show Q _ (upd (upd H d _) d _)
      rw [upd_back hd]
      exact k 0 (Int.le_refl 0) hm
    · obtain ⟨n, r, rfl⟩ : ∃ n r, ns = n :: r := by
        cases ns with
        | nil => exact absurd (decide_eq_true rfl) e
        | cons n r => exact ⟨n, r, rfl⟩
      obtain ⟨n0, n1, gr⟩ := good_tail g
      refine ⟨.ref d, rfl, .inl ⟨rfl, _, SqL.of upd_same⟩, d, _, 0, 0, .int n, rfl, rfl, upd_same, by decide, by decide, (by rw [List.length_map]; exact seq0 _), rfl, .inl ⟨n, rfl, .int m, rfl, n, m, rfl, rfl, hm, d, r, upd_same, gr, ?_⟩⟩
      rw [upd_upd, upd_upd, upd_id hd]
      exact k _ (Int.emod_nonneg _ (by omega)) (Int.emod_lt_of_pos _ hm)
def spDraws (K : PySem.W.Frag) : Sp := fun vs H Q _ => ∃ (a : Addr) (ns : List Int), vs = [.ref a] ∧ SqL K H a (ns.map V.int) ∧ ns.length ≤ 63 ∧ ∀ p, H p = none → Q (.ref p) (upd H p (DrO p))
def DrawsAt (H : Hp) (p : Addr) (i : Nat) (H' : Hp) : Prop := ∃ ms : List Int, H' = upd H p (.lst (ms.map V.int)) ∧ (∀ m ∈ ms, 0 ≤ m ∧ m < 1000003) ∧ ms.length ≤ i
theorem draws_add {H H' : Hp} {p : Addr} {i : Nat} (h : DrawsAt H p i H') (hi : i < 4000) {P : Prop} (k : ∀ ms : List V, H' p = some (.lst ms) → ms.length < sizeLine → (∀ x : Int, DrawsAt H p (i + 1) (upd H' p (.lst (ms ++ [.int (x % 1000003)])))) → P) : P := by
  obtain ⟨ms, rfl, g, hl⟩ := h
  refine k (ms.map V.int) upd_same (by rw [List.length_map]; exact Nat.lt_of_le_of_lt hl (Nat.lt_trans hi (by decide))) fun x => ⟨ms ++ [x % 1000003], ?_, good_add g emod_in, ?_⟩
  · rw [upd_upd, List.map_append]
    rfl
  · rw [List.length_append, List.length_singleton]
    omega
theorem ok_draws (T : Tx K mg A) : FnOk P w K mg base CX0 1 A.draws A.d_draws p_draws (spDraws K) := by
  refine T.F_draws.ok sc_draws (fun vs H Q E h => ?_) (fun cdv Ar outer s H vs Q E hr h => ?_)
  · obtain ⟨a, ns, rfl, _⟩ := h
    rfl
  · obtain ⟨a, ns, rfl, hS, hlen, k⟩ := h
    refine ⟨_, (pss_cons (ps_set (i := 1) sc_draws.nd rfl (Or.inl rfl) (pe_lst pa_nil))
      (pss_cons (ps_for PassesOwn.never rfl (pi_range1 (by rfl) T.m_range (pa_cons (pe_callB (call_min2 rfl) (by rfl) T.m_min (by decide +kernel) (pa_cons pe_int (pa_cons (pe_callB call_len_seq (by rfl) T.m_len PySem.boot_len (pa_cons (pv 0) pa_nil)) pa_nil))) pa_nil)) (pg_name (i := 2) sc_draws.nd rfl (Or.inl rfl)) (pss_cons (ps_set (i := 3) sc_draws.nd rfl (Or.inl rfl) (pe_callTy call_int1 (by rfl) T.m_int (by decide +kernel) (pa_cons (pe_ix ix_list (pv 0) (pv 2) (fun _ _ => rfl)) pa_nil)))
        (pss_cons (ps_set (i := 4) sc_draws.nd rfl (Or.inl rfl) (pe_op op_mul pe_int (pe_callB call_abs (by rfl) T.m_abs (by decide +kernel) (pa_cons (pv 3) pa_nil))))
        (Evl.pss_cut (ps_if (pt_cmpR op_lt (pv 3) pe_int (nomark _)) (pss_one (ps_set (i := 4) sc_draws.nd rfl (Or.inl rfl) (pe_op op_add (pv 4) pe_int))) pss_nil)
        (pss_one (ps_if (pt_cmpR op_lt (pv 4) (pe_op op_mul pe_int (pe_op op_pow pe_int pe_int)) (nomark _)) (pss_one (ps_for PassesOwn.never rfl (pi_range1 (by rfl) T.m_range (pa_cons pe_int pa_nil)) (pg_name (i := 5) sc_draws.nd rfl (Or.inl rfl)) (pss_cons (ps_set (i := 6) sc_draws.nd rfl (Or.inl rfl) (pe_op op_mod (pe_callTy call_int1 (by rfl) T.m_int (by decide +kernel) (pa_cons (pe_op op_add (pe_op op_mul (pe_op op_add (pv 4) pe_int) (pe_op op_add pe_int (pe_op op_mul pe_int (pv 2)))) (pe_op op_mul pe_int (pv 5))) pa_nil)) pe_int))
            (pss_cons (ps_set (i := 6) sc_draws.nd rfl (Or.inl rfl) (pe_op op_mod (pe_callTy call_int1 (by rfl) T.m_int (by decide +kernel) (pa_cons (pe_op op_mul (pv 6) (pv 6)) pa_nil)) pe_int))
            (pss_one (ps_expr (pe_bm PySem.F.plainAttrs_list PySem.F.slot_list_append PySem.F.type_list_append mt_append (pv 1) (pa_cons (pe_op op_mod (pe_callTy call_int1 (by rfl) T.m_int (by decide +kernel) (pa_cons (pv 6) pa_nil)) pe_int) pa_nil)))))))) (pss_one (ps_for PassesOwn.never rfl (pi_range1 (by rfl) T.m_range (pa_cons pe_int pa_nil)) (pg_name (i := 5) sc_draws.nd rfl (Or.inl rfl)) (pss_one (ps_if (pt_cmpR op_gt (pv 4) pe_int (nomark _)) (pss_cons (ps_expr (pe_bm PySem.F.plainAttrs_list PySem.F.slot_list_append PySem.F.type_list_append mt_append (pv 1) (pa_cons (pe_op op_mod (pe_callTy call_int1 (by rfl) T.m_int (by decide +kernel) (pa_cons (pv 4) pa_nil)) pe_int) pa_nil)))
              (pss_one (ps_set (i := 4) sc_draws.nd rfl (Or.inl rfl) (pe_op op_fdiv (pv 4) pe_int)))) pss_nil))))))))))
      (pss_one (ps_ret (UL.pe_close (pv 1)))))), ?_⟩
    refine ⟨Nat.zero_le _, fun p hp => ?_⟩
    have eL : ∀ {j H'}, DrawsAt H p j H' → SqL K H' a (ns.map V.int) := fun ⟨ms, e, _⟩ => by
      rw [e]
      exact (same_upd hp).seq hS
    refine ⟨.ref a, rfl, a, _, rfl, .inl ((same_upd hp).seq hS), 63, _, rfl, ?_⟩
    have hm : (if (((ns.map V.int).length : Nat) : Int) < 63 then (((ns.map V.int).length : Nat) : Int) else 63) = (ns.length : Int) := by
      rw [List.length_map]
      split <;> omega
    rw [hm]
    refine ⟨(ns.length : Int), rfl, forR1 ⟨by omega, by omega⟩ (fun i σ H' => ∃ v2 v3 v4 v5 v6, σ = [some (.ref a), some (.ref p), v2, v3, v4, v5, v6] ∧ DrawsAt H p (60 * i) H') ⟨none, none, none, none, none, rfl, [], rfl, fun _ h => (nomatch h), Nat.le_refl _⟩ ?_ ?_⟩
    · rintro i σ' H' hi ⟨v2, v3, v4, v5, v6, rfl, hD⟩
      have hi' : i < ns.length := by omega
      -- cell, rest
      refine ⟨.ref a, rfl, .int (i : Int), rfl, a, _, _, .int ns[i], rfl, rfl, eL hD, atI_nat (int_get hi'), .inl ⟨ns[i], rfl, ?_⟩⟩
      refine ⟨.int ns[i], rfl, ns[i], rfl, 2, _, rfl, rfl, .inl ⟨by decide, by decide⟩, ?_⟩
      have h0 : 0 ≤ 2 * (if ns[i] < 0 then -ns[i] else ns[i]) := by split <;> omega
      refine ⟨fun σ2 H2 => ∃ r : Int, 0 ≤ r ∧ σ2 = [some (.ref a), some (.ref p), some (.int (i : Int)), some (.int ns[i]), some (.int r), v5, v6] ∧ H2 = H', ?_, ?_⟩
      · refine ⟨_, rfl, _, 0, rfl, rfl, _, rfl, ite2 (fun _ => ?_) (fun _ => ?_)⟩
        · exact ⟨_, rfl, _, 1, rfl, rfl, _, Int.le_add_one h0, rfl, rfl⟩
        · exact ⟨_, h0, rfl, rfl⟩
      · generalize ns[i] = c
        rintro σ2 H2 ⟨r, h0, rfl, rfl⟩
        refine ⟨.int r, rfl, 10, 18, rfl, rfl, ⟨by decide, by decide, by decide⟩, 2, _, rfl, rfl, .inl ⟨by decide, by decide⟩, r, _, rfl, rfl, _, rfl, ite2 (fun e => ?_) (fun e => ?_)⟩
        · have hr1 : r < 2 * 10 ^ 18 := of_decide_eq_true e
          refine ⟨4, rfl, forR1 ⟨by decide, by decide⟩ (fun t σ H' => ∃ v5 v6, σ = [some (.ref a), some (.ref p), some (.int (i : Int)), some (.int c), some (.int r), v5, v6] ∧ DrawsAt H p (60 * i + t) H') ⟨_, _, rfl, hD⟩ ?_ ?_⟩
          · rintro t σ' H' ht ⟨v5, v6, rfl, hD⟩
            have hi63 : (i : Int) < 63 := by omega
            refine ⟨_, rfl, r, 1, rfl, rfl, _, rfl, 2, _, rfl, rfl, .inl ⟨by decide, by decide⟩, 48271, _, rfl, rfl, _, _, rfl, rfl, .inr ⟨by omega, by omega⟩, _, rfl, 69621, _, rfl, rfl, .inl ⟨by decide, by decide⟩, _, _, rfl, rfl, .inl ⟨_, rfl, _, 2147483647, rfl, rfl, (show (0 : Int) < 2147483647 by decide), ?_⟩⟩
            have hx0 : 0 ≤ ((r + 1) * (48271 + 2 * (i : Int)) + 69621 * (t : Int)) % 2147483647 := Int.emod_nonneg _ (by decide)
            have hx1 : ((r + 1) * (48271 + 2 * (i : Int)) + 69621 * (t : Int)) % 2147483647 < 2147483647 := Int.emod_lt_of_pos _ (by decide)
            refine ⟨_, rfl, _, rfl, _, _, rfl, rfl, .inl ⟨Int.lt_of_lt_of_le (by decide) hx0, Int.lt_trans hx1 (by decide)⟩, .inl ⟨_, rfl, _, 2147483629, rfl, rfl, (show (0 : Int) < 2147483629 by decide), ?_⟩⟩
            refine draws_add hD (by omega) fun ms h1 h2 h3 => ?_
            refine ⟨.ref p, rfl, .inl ⟨rfl, _, SqL.of h1⟩, _, rfl, .inl ⟨_, rfl, _, 1000003, rfl, rfl, (show (0 : Int) < 1000003 by decide), p, ms, _, rfl, rfl, h1, h2, ?_⟩⟩
            exact ⟨_, _, rfl, h3 _⟩
          · rintro σ' H' ⟨v5, v6, rfl, ms, e, g, hl⟩
            exact ⟨_, _, _, _, _, rfl, ms, e, g, Nat.le_trans hl (by show 60 * i + 4 ≤ 60 * (i + 1); omega)⟩
        · refine ⟨60, rfl, forR1 ⟨by decide, by decide⟩ (fun t σ H' => ∃ r v5 v6, σ = [some (.ref a), some (.ref p), some (.int (i : Int)), some (.int c), some (.int r), v5, v6] ∧ DrawsAt H p (60 * i + t) H') ⟨_, _, _, rfl, hD⟩ ?_ ?_⟩
          · rintro t σ' H' ht ⟨r, v5, v6, rfl, hD⟩
            refine ⟨.int r, rfl, r, 0, rfl, rfl, _, rfl, ite2 (fun _ => ?_) (fun _ => ?_)⟩
            · refine draws_add hD (by omega) fun ms h1 h2 h3 => ?_
              refine ⟨.ref p, rfl, .inl ⟨rfl, _, SqL.of h1⟩, .int r, rfl, .inl ⟨r, rfl, r, 1000003, rfl, rfl, (show (0 : Int) < 1000003 by decide), p, ms, _, rfl, rfl, h1, h2, ?_⟩⟩
              refine ⟨.int r, rfl, r, 1000003, rfl, rfl, ⟨by decide, by decide⟩, ?_⟩
              exact ⟨_, _, _, rfl, h3 _⟩
            · obtain ⟨ms, e, g, hl⟩ := hD
              exact ⟨_, _, _, rfl, ms, e, g, Nat.le_succ_of_le hl⟩
          · rintro σ' H' ⟨r, v5, v6, rfl, ms, e, g, hl⟩
            exact ⟨_, _, _, _, _, rfl, ms, e, g, Nat.le_trans hl (by show 60 * i + 60 ≤ 60 * (i + 1); omega)⟩
    · rintro σ' H' ⟨v2, v3, v4, v5, v6, rfl, ms, rfl, g, hl⟩
      refine ⟨.ref p, rfl, p, ms, upd_same, ⟨g, Nat.le_trans hl (by omega)⟩, ?_⟩
      rw [upd_upd]
      exact k p hp
def kWords : List V := [V.str "fun", V.str "out", V.str "use", V.str "val", V.str "ref", V.str "set", V.str "block", V.str "if", V.str "else", V.str "loop", V.str "end", V.str "part", V.str "pick", V.str "then", V.str "dead"]
def spWords : Sp := fun vs H Q _ => vs = [] ∧ RetL kWords H Q
theorem ok_words (T : Tx K mg A) : FnOk P w K mg base CX0 1 A.words A.d_words p_words spWords := by
  refine T.F_words.ok sc_words (fun vs H Q E h => ?_) (fun cdv Ar outer s H vs Q E hr h => ?_)
  · obtain ⟨rfl, _⟩ := h
    rfl
  · obtain ⟨rfl, k⟩ := h
    refine ⟨_, (pss_cons (ps_set (i := 0) sc_words.nd rfl (Or.inl rfl) (pe_lst (pa_cons pe_str (pa_cons pe_str (pa_cons pe_str (pa_cons pe_str (pa_cons pe_str (pa_cons pe_str (pa_cons pe_str (pa_cons pe_str (pa_cons pe_str (pa_cons pe_str (pa_cons pe_str (pa_cons pe_str (pa_cons pe_str (pa_cons pe_str pa_nil))))))))))))))))
      (pss_one (ps_ret (pe_op op_cat (pv 0) (pe_lst (pa_cons pe_str pa_nil)))))), ?_⟩
    refine ⟨by decide, fun p hp => ?_⟩
    refine ⟨.ref p, rfl, by decide, fun q hq => ?_⟩
    refine ⟨p, q, _, _, rfl, rfl, (Ex.new hq) _ _ upd_same, upd_same, by decide, fun r hr' => ?_⟩
    exact k r _ (fresh_back ((Ex.new hp).trans (Ex.new hq)) hr') (((Ex.new hp).trans (Ex.new hq)).trans (Ex.new hr')) upd_same
def spSign : Sp := fun vs H Q _ => ∃ d, vs = [.ref d] ∧ H d = some (DrO d) ∧ ∀ c, Q (.str ⟨#[c]⟩) H
theorem ok_sign (T : Tx K mg A) : FnOk P w K mg base CX0 2 A.sign A.d_sign p_sign spSign := by
  refine T.F_sign.ok sc_sign (fun vs H Q E h => ?_) (fun cdv Ar outer s H vs Q E hr h => ?_)
  · obtain ⟨d, rfl, _⟩ := h
    rfl
  · obtain ⟨d, rfl, hd, k⟩ := h
    refine ⟨_, (pss_cons (ps_set (i := 1) sc_sign.nd rfl (Or.inl rfl) pe_str)
      (pss_cons (ps_set (i := 1) sc_sign.nd rfl (Or.inl rfl) (pe_op op_add_str (pv 1) pe_str))
      (pss_one (ps_ret (pe_ix ix_str (pv 1) (pe_call (ok_take T) (hr.mono (by decide)) (by rfl) T.g_take T.F_take.kp T.b_take .nil pass0 (pa_cons (pv 0) (pa_cons (pe_callB call_len_str (by rfl) T.m_len PySem.boot_len (pa_cons (pv 1) pa_nil)) pa_nil))) (fun _ _ => rfl)))))), ?_⟩
    refine ⟨_, rfl, _, _, rfl, rfl, by decide, _, rfl, .ref d, rfl, _, rfl, _, rfl, by decide, d, _, rfl, hd, by decide, fun n h0 h1 => ?_⟩
    obtain ⟨c, hc⟩ := at_lt (xs := tl (Str.ofString " !\"#$&'()*+,-./0123456789:;<=>?@ABCDEFGHIJKLMNOPQRSTUVWXYZ[\\]^_`" ++ Str.ofString "abcdefghijklmnopqrstuvwxyz{|}~\n")) h0 (by rw [← len_tl]; exact h1)
    exact ⟨_, n, c, rfl, rfl, by decide, hc, k c⟩
theorem ok_letter (T : Tx K mg A) : FnOk P w K mg base CX0 2 A.letter A.d_letter p_letter spSign := by
  refine T.F_letter.ok sc_letter (fun vs H Q E h => ?_) (fun cdv Ar outer s H vs Q E hr h => ?_)
  · obtain ⟨d, rfl, _⟩ := h
    rfl
  · obtain ⟨d, rfl, hd, k⟩ := h
    refine ⟨_, (pss_one (ps_ret (pe_ix ix_str pe_str (pe_call (ok_take T) (hr.mono (by decide)) (by rfl) T.g_take T.F_take.kp T.b_take .nil pass0 (pa_cons (pv 0) (pa_cons pe_int pa_nil))) (fun _ _ => rfl)))), ?_⟩
    refine ⟨.ref d, rfl, d, 36, rfl, hd, by decide, fun n h0 h1 => ?_⟩
    obtain ⟨c, hc⟩ := at_lt (xs := tl "abcdefghijklmnopqrstuvwxyz0123456789") h0 (show n < 36 from h1)
    exact ⟨_, n, c, rfl, rfl, by decide, hc, k c⟩
def spLetters : Sp := fun vs H Q _ => ∃ d, vs = [.ref d] ∧ H d = some (DrO d) ∧ ∀ z H', z.length ≤ 10 → Ex H H' → Q (.str z) H'
theorem lc_signs {H1 : Hp} {D : Addr} {n : Int} {σ : L2.St} {te : TE} {vs : List Nat} {j : Nat} {Qd : Hp → Prop} (hn : 0 ≤ n ∧ n ≤ 1000) (hD : H1 D = none)
    (hw : ∀ x, wipe ((wipe σ vs).set j (some x)) vs = wipe σ vs)
    (he : ∀ (i : Nat) H', (∀ a o, H1 a = some o → H' a = some o) → ∀ Q : VK, (∀ c, Q (.str ⟨#[c]⟩) H') → te ((wipe σ vs).set j (some (.int (i : Int)))) H' Q)
    (hd : ∀ zs : List Str, (zs.length : Int) = n → (∀ z ∈ zs, z.length = 1) → Qd (upd H1 D (.lst (zs.map V.str)))) :
    ∃ W : Nat → Nat → Hp → Prop, (∃ m, W 0 m (upd H1 D (.lst []))) ∧ ∀ i m H, W i m H →
      ((Itr 0 n.toNat).stop i H ∧ Qd H) ∨ ((Itr 0 n.toNat).go i H ∧ ∃ Nx : Hp → Prop, (∀ H', Nx H' → ∃ m', m' < m ∧ W (i + 1) m' H') ∧ ∀ x H', (Itr 0 n.toNat).yld i H x H' → gName j x (wipe σ vs) H' fun σ2 H2 => wipe σ2 vs = wipe σ vs ∧ tYes σ2 H2 fun b H3 =>
        if b = true then te σ2 H3 fun y H4 => ∃ acc, H4 D = some (.lst acc) ∧ acc.length < sizeLine ∧ Nx (upd H4 D (.lst (acc ++ [y]))) else Nx H3) := by
  refine lc_range (lo := 0) (n := n.toNat) (fun i H' => ∃ zs : List Str, zs.length = i ∧ (∀ z ∈ zs, z.length = 1) ∧ H' = upd H1 D (.lst (zs.map V.str))) ⟨[], rfl, fun _ h => (nomatch h), rfl⟩ ?_ ?_
  · rintro i H' hi ⟨zs, hl, h1, rfl⟩
    have e0 : (0 : Int) + (i : Int) = (i : Int) := Int.zero_add _
    show wipe ((wipe σ vs).set j (some (.int ((0 : Int) + (i : Int))))) vs = wipe σ vs ∧ _
    refine ⟨hw _, ?_⟩
    show te ((wipe σ vs).set j (some (.int ((0 : Int) + (i : Int))))) _ _
    rw [e0]
    refine he i _ (fun a o h => by rw [upd_ne (ne_of_none h hD)]; exact h) _ fun c => ?_
    refine ⟨_, upd_same, ?_, zs ++ [⟨#[c]⟩], ?_, ?_, ?_⟩
    · rw [List.length_map]
      exact sz_lt (by omega)
    · rw [List.length_append, hl]
      rfl
    · intro z hz
      rcases List.mem_append.mp hz with h | h
      · exact h1 z h
      · rw [List.mem_singleton.mp h]
        rfl
    · rw [upd_upd, List.map_append]
      rfl
  · rintro H' ⟨zs, hl, h1, rfl⟩
    exact hd zs (by omega) h1
theorem flat_len (zs : List Str) : (tl (Txt.join "" zs)) = (zs.map tl).flatten := by
  have h : ∀ ls : List (List Nat), joinL [] ls = ls.flatten := by
    intro ls
    induction ls with
    | nil => rfl
    | cons p r ih =>
      cases r with
      | nil =>
        show p = p ++ []
        rw [List.append_nil]
      | cons q r =>
        show p ++ ([] ++ joinL [] (q :: r)) = _
        rw [List.nil_append, ih, List.flatten_cons, List.flatten_cons, List.flatten_cons]
  rw [join_eq, tl_join]
  exact h _
theorem ones_sum : ∀ (zs : List Str), (∀ z ∈ zs, z.length = 1) → (zs.map (·.length)).sum = zs.length ∧ (Txt.join "" zs).length = zs.length
  | [], _ => ⟨rfl, rfl⟩
  | z :: r, h => by
    obtain ⟨h1, h2⟩ := ones_sum r fun y hy => h y (List.mem_cons_of_mem _ hy)
    have h3 := h z List.mem_cons_self
    rw [len_tl, flat_len] at h2
    refine ⟨?_, ?_⟩
    · rw [List.map_cons, List.sum_cons, h1, h3, List.length_cons]
      omega
    · rw [len_tl, flat_len, List.map_cons, List.flatten_cons, List.length_append, h2, ← len_tl, h3, List.length_cons]
      omega
theorem ok_letters (T : Tx K mg A) : FnOk P w K mg base CX0 3 A.letters A.d_letters p_letters spLetters := by
  refine T.F_letters.ok sc_letters (fun vs H Q E h => ?_) (fun cdv Ar outer s H vs Q E hr h => ?_)
  · obtain ⟨d, rfl, _⟩ := h
    rfl
  · obtain ⟨d, rfl, hd, k⟩ := h
    refine ⟨_, (pss_one (ps_ret (pe_bm PySem.F.plainAttrs_str PySem.F.slot_str_join PySem.F.type_str_join mt_join pe_str (pa_cons (pe_lc (own := [("_law_k", 1)]) (g := gName 1) (tt := tYes) rfl sc_letters.nd (pi_range1 (by rfl) T.m_range (pa_cons (pe_call (ok_take T) (hr.mono (by decide)) (by rfl) T.g_take T.F_take.kp T.b_take .nil pass0 (pa_cons (pv 0) (pa_cons pe_int pa_nil))) pa_nil)) (blkOk_by (N := n_letters) (sc := defScope s_letters) (by decide +kernel)) (fun _ _ _ _ _ => pg_name (i := 1) sc_letters.nd rfl (Or.inl rfl)) (fun _ _ _ _ _ => pts_nil) (fun _ _ _ _ _ => (pe_call (ok_letter T) (hr.mono (by decide)) (by rfl) T.g_letter T.F_letter.kp T.b_letter .nil pass0 (pa_cons (pv 0) pa_nil)))) pa_nil)))), ?_⟩
    refine ⟨rfl, .ref d, rfl, d, _, rfl, hd, by decide, fun n h0 h1 => ⟨n, rfl, by omega, by omega, fun D hD => ?_⟩⟩
    refine lc_signs ⟨h0, by omega⟩ hD (fun _ => rfl) (fun i H' hk Q' q => ⟨.ref d, rfl, d, rfl, hk _ _ hd, q⟩) fun zs hl h1 => ?_
    obtain ⟨e1, e2⟩ := ones_sum zs h1
    refine ⟨_, D, zs, rfl, rfl, .inl (SqL.of upd_same), ?_, k _ _ (by omega) (Ex.new hD)⟩
    show (zs.map (·.length)).sum + zs.length * 0 ≤ 16777216
    omega
/-! ### things -/
def NoStr (H : Hp) (v : V) : Prop := v = .non ∨ (∃ b, v = .bl b) ∨ (∃ i, v = .int i) ∨ (∃ a xs, v = .ref a ∧ (H a = some (.lst xs) ∨ H a = some (.tup xs))) ∨ ∃ a kvs, v = .ref a ∧ H a = some (.dK kvs)
def Th (H : Hp) (v : V) : Prop := (∃ z, v = .str z ∧ z.length ≤ 64) ∨ NoStr H v
theorem Th.mono {H H' : Hp} {v : V} (e : Ex H H') (h : Th H v) : Th H' v := by
  rcases h with h | h | h | h | ⟨a, xs, h, h1 | h1⟩ | ⟨a, kvs, h, h1⟩
  · exact .inl h
  · exact .inr (.inl h)
  · exact .inr (.inr (.inl h))
  · exact .inr (.inr (.inr (.inl h)))
  · exact .inr (.inr (.inr (.inr (.inl ⟨a, xs, h, .inl (e _ _ h1)⟩))))
  · exact .inr (.inr (.inr (.inr (.inl ⟨a, xs, h, .inr (e _ _ h1)⟩))))
  · exact .inr (.inr (.inr (.inr (.inr ⟨a, kvs, h, e _ _ h1⟩))))
def isS : V → Bool
  | .str _ => true
  | _ => false
theorem Th.isi {K : PySem.W.Frag} {H : Hp} {v : V} (h : Th H v) : ∃ t, TyX K H v t ∧ PySem.W.kitOne K t (.type "str") = some (isS v) := by
  rcases h with ⟨z, rfl, _⟩ | rfl | ⟨b, rfl⟩ | ⟨i, rfl⟩ | ⟨a, xs, rfl, h1 | h1⟩ | ⟨a, kvs, rfl, h1⟩
  · exact ⟨_, .base (.str z), kit_ty (r := true) (by decide +kernel)⟩
  · exact ⟨_, .base .non, kit_ty (r := false) (by decide +kernel)⟩
  · exact ⟨_, .base (.bl b), kit_ty (r := false) (by decide +kernel)⟩
  · exact ⟨_, .base (.int i), kit_ty (r := false) (by decide +kernel)⟩
  · exact ⟨_, .base (.lst h1), kit_ty (r := false) (by decide +kernel)⟩
  · exact ⟨_, .base (.tup h1), kit_ty (r := false) (by decide +kernel)⟩
  · exact ⟨_, .base (.dK h1), kit_ty (r := false) (by decide +kernel)⟩
def wordsS : List Str := ["fun", "out", "use", "val", "ref", "set", "block", "if", "else", "loop", "end", "part", "pick", "then", "dead"]
theorem kWords_eq : kWords = wordsS.map V.str := rfl
theorem word_at {n : Int} (h0 : 0 ≤ n) (h1 : n < 15) : ∃ z : Str, atI kWords n = some (.str z) ∧ z.length ≤ 5 := by
  obtain ⟨m, rfl⟩ := Int.eq_ofNat_of_zero_le h0
  have hm : m < wordsS.length := by show m < 15; omega
  have hall : ∀ z ∈ wordsS, z.length ≤ 5 := by decide
  refine ⟨wordsS[m], atI_nat ?_, hall _ (List.getElem_mem hm)⟩
  rw [kWords_eq, List.getElem?_map, List.getElem?_eq_getElem hm]
  rfl
def spThing : Sp := fun vs H Q _ => ∃ d, vs = [.ref d] ∧ H d = some (DrO d) ∧ ∀ v H', Ex H H' → Th H' v → Q v H'
theorem ok_thing (T : Tx K mg A) : FnOk P w K mg base CX0 4 A.thing A.d_thing p_thing spThing := by
  refine T.F_thing.ok sc_thing (fun vs H Q E h => ?_) (fun cdv Ar outer s H vs Q E hr h => ?_)
  · obtain ⟨d, rfl, _⟩ := h
    rfl
  · obtain ⟨d, rfl, hd, k⟩ := h
    refine ⟨_, (pss_cons (ps_set (i := 1) sc_thing.nd rfl (Or.inl rfl) (pe_call (ok_take T) (hr.mono (by decide)) (by rfl) T.g_take T.F_take.kp T.b_take .nil pass0 (pa_cons (pv 0) (pa_cons pe_int pa_nil))))
      (pss_cons (ps_if (pt_cmpR op_eq (pv 1) pe_int (nomark _)) (pss_cons (ps_set (i := 2) sc_thing.nd rfl (Or.inl rfl) (pe_ix ix_list (pe_call0 (ok_words T) (hr.mono (by decide)) (by rfl) T.g_words T.F_words.kp T.b_words .nil pass0) (pe_call (ok_take T) (hr.mono (by decide)) (by rfl) T.g_take T.F_take.kp T.b_take .nil pass0 (pa_cons (pv 0) (pa_cons pe_int pa_nil))) (fun _ _ => rfl)))
        (pss_cons (ps_set (i := 3) sc_thing.nd rfl (Or.inl rfl) (pe_call (ok_take T) (hr.mono (by decide)) (by rfl) T.g_take T.F_take.kp T.b_take .nil pass0 (pa_cons (pv 0) (pa_cons pe_int pa_nil))))
        (Evl.pss_cut (ps_if (pt_cmpR op_eq (pv 3) pe_int (nomark _)) (pss_one (ps_set (i := 2) sc_thing.nd rfl (Or.inl rfl) (pe_op op_add_str (pe_call (ok_letter T) (hr.mono (by decide)) (by rfl) T.g_letter T.F_letter.kp T.b_letter .nil pass0 (pa_cons (pv 0) pa_nil)) (pv 2)))) pss_nil)
        (Evl.pss_cut (ps_if (pt_cmpR op_eq (pv 3) pe_int (nomark _)) (pss_one (ps_set (i := 2) sc_thing.nd rfl (Or.inl rfl) (pe_op op_add_str (pv 2) (pe_call (ok_letter T) (hr.mono (by decide)) (by rfl) T.g_letter T.F_letter.kp T.b_letter .nil pass0 (pa_cons (pv 0) pa_nil))))) pss_nil)
        (Evl.pss_cut (ps_if (pt_cmpR op_eq (pv 3) pe_int (nomark _)) (pss_one (ps_set (i := 2) sc_thing.nd rfl (Or.inl rfl) (pe_slice sl_str (pv 2) po_none (po_some (pe_op op_sub (pe_callB call_len_str (by rfl) T.m_len PySem.boot_len (pa_cons (pv 2) pa_nil)) pe_int))))) pss_nil)
        (pss_one (ps_ret (pv 2)))))))) pss_nil)
      (pss_cons (ps_if (pt_cmpR op_eq (pv 1) pe_int (nomark _)) (pss_one (ps_ret (pe_call (ok_letters T) (hr.mono (by decide)) (by rfl) T.g_letters T.F_letters.kp T.b_letters .nil pass0 (pa_cons (pv 0) pa_nil)))) pss_nil)
      (pss_cons (ps_if (pt_cmpR op_eq (pv 1) pe_int (nomark _)) (pss_one (ps_ret (pe_bm PySem.F.plainAttrs_str PySem.F.slot_str_join PySem.F.type_str_join mt_join pe_str (pa_cons (pe_lc (own := [("_law_k", 6)]) (g := gName 6) (tt := tYes) rfl sc_thing.nd (pi_range1 (by rfl) T.m_range (pa_cons (pe_call (ok_take T) (hr.mono (by decide)) (by rfl) T.g_take T.F_take.kp T.b_take .nil pass0 (pa_cons (pv 0) (pa_cons pe_int pa_nil))) pa_nil)) (blkOk_by (N := n_thing) (sc := defScope s_thing) (by decide +kernel)) (fun _ _ _ _ _ => pg_name (i := 6) sc_thing.nd rfl (Or.inl rfl)) (fun _ _ _ _ _ => pts_nil) (fun _ _ _ _ _ => (pe_call (ok_sign T) (hr.mono (by decide)) (by rfl) T.g_sign T.F_sign.kp T.b_sign .nil pass0 (pa_cons (pv 0) pa_nil)))) pa_nil)))) pss_nil)
      (pss_cons (ps_if (pt_cmpR op_eq (pv 1) pe_int (nomark _)) (pss_cons (ps_set (i := 4) sc_thing.nd rfl (Or.inl rfl) (pe_call (ok_letters T) (hr.mono (by decide)) (by rfl) T.g_letters T.F_letters.kp T.b_letters .nil pass0 (pa_cons (pv 0) pa_nil)))
        (pss_cons (ps_set (i := 5) sc_thing.nd rfl (Or.inl rfl) (pe_call (ok_take T) (hr.mono (by decide)) (by rfl) T.g_take T.F_take.kp T.b_take .nil pass0 (pa_cons (pv 0) (pa_cons (pe_op op_add (pe_callB call_len_str (by rfl) T.m_len PySem.boot_len (pa_cons (pv 4) pa_nil)) pe_int) pa_nil))))
        (pss_one (ps_ret (pe_op op_add_str (pe_op op_add_str (pe_slice sl_str (pv 4) po_none (po_some (pv 5))) (pe_call (ok_sign T) (hr.mono (by decide)) (by rfl) T.g_sign T.F_sign.kp T.b_sign .nil pass0 (pa_cons (pv 0) pa_nil))) (pe_slice sl_str (pv 4) (po_some (pv 5)) po_none)))))) pss_nil)
      (pss_cons (ps_if (pt_cmpR op_eq (pv 1) pe_int (nomark _)) (pss_one (ps_ret (pe_op UL.op_mul_str (pe_call (ok_letter T) (hr.mono (by decide)) (by rfl) T.g_letter T.F_letter.kp T.b_letter .nil pass0 (pa_cons (pv 0) pa_nil)) (pe_op op_add pe_int (pe_call (ok_take T) (hr.mono (by decide)) (by rfl) T.g_take T.F_take.kp T.b_take .nil pass0 (pa_cons (pv 0) (pa_cons pe_int pa_nil))))))) pss_nil)
      (pss_one (ps_ret (pe_ix ix_list (pe_lst (pa_cons pe_non (pa_cons pe_bl (pa_cons pe_bl (pa_cons pe_int (pa_cons pe_int (pa_cons (pe_lst pa_nil) (pa_cons (pe_lst (pa_cons pe_str pa_nil)) (pa_cons (pe_tup (pa_cons pe_str pa_nil)) (pa_cons (pe_disp (pps_cons pe_str pe_str pps_nil) (by rfl) (by rfl) (fun z => by cases z) (by decide)) pa_nil)))))))))) (pe_call (ok_take T) (hr.mono (by decide)) (by rfl) T.g_take T.F_take.kp T.b_take .nil pass0 (pa_cons (pv 0) (pa_cons pe_int pa_nil))) (fun _ _ => rfl)))))))))), ?_⟩
    refine ⟨.ref d, rfl, d, _, rfl, hd, by decide, fun s0 h0 h1 => ?_⟩
    refine ⟨.int s0, rfl, rfl, _, rfl, ite2 (fun _ => ?_) (fun _ => ?_)⟩
    · refine ⟨rfl, fun p H1 hp e1 hL => ?_⟩
      have hd1 := e1 _ _ hd
      refine ⟨.ref d, rfl, d, _, rfl, hd1, by decide, fun n n0 n1 => ?_⟩
      obtain ⟨z, hz, hzl⟩ := word_at n0 n1
      refine ⟨p, _, _, _, rfl, rfl, SqL.of hL, hz, ?_⟩
      refine ⟨.ref d, rfl, d, _, rfl, hd1, by decide, fun c c0 c1 => ?_⟩
      refine ⟨fun σ2 H2 => ∃ z : Str, z.length ≤ 6 ∧ σ2 = [some (.ref d), some (.int s0), some (.str z), some (.int c), none, none, none] ∧ H2 = H1, ?_, ?_⟩
      · refine ⟨.int c, rfl, rfl, _, rfl, ite2 (fun _ => ?_) (fun _ => ?_)⟩
        · refine ⟨.ref d, rfl, d, rfl, hd1, fun x => ?_⟩
          refine ⟨_, rfl, _, _, rfl, rfl, ?_, _, ?_, rfl, rfl⟩
          · exact sz_of (by show 1 + z.length ≤ 100000; omega)
          · rw [len_tl, tl_append, List.length_append, ← len_tl, ← len_tl]
            show 1 + z.length ≤ 6
            omega
        · exact ⟨z, by omega, rfl, rfl⟩
      rintro σ2 H2 ⟨z, hzl, rfl, rfl⟩
      refine ⟨fun σ2 H3 => ∃ z : Str, z.length ≤ 7 ∧ σ2 = [some (.ref d), some (.int s0), some (.str z), some (.int c), none, none, none] ∧ H3 = H2, ?_, ?_⟩
      · refine ⟨.int c, rfl, rfl, _, rfl, ite2 (fun _ => ?_) (fun _ => ?_)⟩
        · refine ⟨_, rfl, .ref d, rfl, d, rfl, hd1, fun x => ?_⟩
          refine ⟨_, _, rfl, rfl, ?_, _, ?_, rfl, rfl⟩
          · exact sz_of (by show z.length + 1 ≤ 100000; omega)
          · rw [len_tl, tl_append, List.length_append, ← len_tl, ← len_tl]
            show z.length + 1 ≤ 7
            omega
        · exact ⟨z, by omega, rfl, rfl⟩
      rintro σ2 H3 ⟨z, hzl, rfl, rfl⟩
      refine ⟨fun σ2 H4 => ∃ z : Str, z.length ≤ 7 ∧ σ2 = [some (.ref d), some (.int s0), some (.str z), some (.int c), none, none, none] ∧ H4 = H3, ?_, ?_⟩
      · refine ⟨.int c, rfl, rfl, _, rfl, ite2 (fun _ => ?_) (fun _ => ?_)⟩
        · refine ⟨_, rfl, _, rfl, _, rfl, sz_of (by omega), _, _, rfl, rfl, ?_⟩
          refine ⟨_, rfl, z, rfl, sz_of (by omega), _, ?_, rfl, rfl⟩
          exact Nat.le_trans (cutS_length _ _ _) hzl
        · exact ⟨z, hzl, rfl, rfl⟩
      rintro σ2 H4 ⟨z, hzl, rfl, rfl⟩
      exact ⟨_, rfl, k _ _ e1 (.inl ⟨z, rfl, by omega⟩)⟩
    refine ⟨.int s0, rfl, rfl, _, rfl, ite2 (fun _ => ?_) (fun _ => ?_)⟩
    · exact ⟨.ref d, rfl, d, rfl, hd, fun z H' hz e => k _ _ e (.inl ⟨z, rfl, by omega⟩)⟩
    refine ⟨.int s0, rfl, rfl, _, rfl, ite2 (fun _ => ?_) (fun _ => ?_)⟩
    · refine ⟨rfl, .ref d, rfl, d, _, rfl, hd, by decide, fun n h0 h1 => ⟨n, rfl, by omega, by omega, fun D hD => ?_⟩⟩
      refine lc_signs ⟨h0, by omega⟩ hD (fun _ => rfl) (fun i H' hk Q' q => ⟨.ref d, rfl, d, rfl, hk _ _ hd, q⟩) fun zs hl h1 => ?_
      obtain ⟨e1, e2⟩ := ones_sum zs h1
      refine ⟨_, D, zs, rfl, rfl, .inl (SqL.of upd_same), ?_, k _ _ (Ex.new hD) (.inl ⟨_, rfl, by omega⟩)⟩
      show (zs.map (·.length)).sum + zs.length * 0 ≤ 16777216
      omega
    refine ⟨.int s0, rfl, rfl, _, rfl, ite2 (fun _ => ?_) (fun _ => ?_)⟩
    · refine ⟨.ref d, rfl, d, rfl, hd, fun z H1 hz e1 => ?_⟩
      have hd1 := e1 _ _ hd
      refine ⟨.ref d, rfl, _, rfl, _, rfl, sz_of (by omega), _, _, rfl, rfl, d, _, rfl, hd1, by omega, fun at_ a0 a1 => ?_⟩
      refine ⟨_, rfl, _, rfl, _, rfl, z, rfl, sz_of (by omega), .ref d, rfl, d, rfl, hd1, fun c => ?_⟩
      have hc := cutS_length z none (some at_)
      have hc' := cutS_length z (some at_) none
      refine ⟨_, _, rfl, rfl, sz_of ?_, _, rfl, _, rfl, _, rfl, z, rfl, sz_of (by omega), _, _, rfl, rfl, sz_of ?_, k _ _ e1 (.inl ⟨_, rfl, ?_⟩)⟩
      · show (cutS z none (some at_)).length + 1 ≤ 100000
        omega
      · rw [len_tl, tl_append, List.length_append, ← len_tl, ← len_tl]
        show (cutS z none (some at_)).length + 1 + _ ≤ 100000
        omega
      · rw [len_tl, tl_append, tl_append, List.length_append, List.length_append, ← len_tl, ← len_tl, ← len_tl]
        show (cutS z none (some at_)).length + 1 + _ ≤ 64
        omega
    refine ⟨.int s0, rfl, rfl, _, rfl, ite2 (fun _ => ?_) (fun _ => ?_)⟩
    · refine ⟨.ref d, rfl, d, rfl, hd, fun c => ⟨.ref d, rfl, d, _, rfl, hd, by decide, fun n n0 n1 => ?_⟩⟩
      refine ⟨1, n, rfl, rfl, _, _, rfl, rfl, mulOk_small (by show 1 ≤ 64; decide) (by omega) (by omega), k _ _ (Ex.refl H) (.inl ⟨_, rfl, ?_⟩)⟩
      rw [len_tl, tl_mul, List.length_flatten, List.map_replicate, List.sum_replicate_nat]
      show (1 + n).toNat * 1 ≤ 64
      omega
    · refine ⟨by decide, fun p1 q1 => ⟨by decide, fun p2 q2 => ⟨by decide, fun p3 q3 => fun p4 q4 => ?_⟩⟩⟩
      refine ⟨upd_same, [(.inr "a", .str "a")], rfl, by decide, ?_⟩
      refine ⟨sz_of (by show 9 ≤ 100000; decide), fun p5 q5 => ?_⟩
      have a1 := Ex.new (o := .lst []) q1
      have a2 := Ex.new (o := .lst [.str "a"]) q2
      have a3 := Ex.new (o := .tup [.str "a"]) q3
      have a4 := (Ex.new (o := .dK []) q4).mut (o := .dK (mergeK [] [(.inr "a", .str "a")])) q4
      have a5 := Ex.new (o := .lst [.non, .bl true, .bl false, .int 0, .int 7, .ref p1, .ref p2, .ref p3, .ref p4]) q5
      have aa := (((a1.trans a2).trans a3).trans a4).trans a5
      refine ⟨.ref d, rfl, d, _, rfl, aa _ _ hd, by decide, fun n n0 n1 => ?_⟩
      have hn : n = 0 ∨ n = 1 ∨ n = 2 ∨ n = 3 ∨ n = 4 ∨ n = 5 ∨ n = 6 ∨ n = 7 ∨ n = 8 := by omega
      rcases hn with rfl | rfl | rfl | rfl | rfl | rfl | rfl | rfl | rfl
      · exact ⟨p5, _, _, _, rfl, rfl, SqL.of upd_same, atI_nat (j := 0) rfl, k _ _ aa (.inr (.inl rfl))⟩
      · exact ⟨p5, _, _, _, rfl, rfl, SqL.of upd_same, atI_nat (j := 1) rfl, k _ _ aa (.inr (.inr (.inl ⟨_, rfl⟩)))⟩
      · exact ⟨p5, _, _, _, rfl, rfl, SqL.of upd_same, atI_nat (j := 2) rfl, k _ _ aa (.inr (.inr (.inl ⟨_, rfl⟩)))⟩
      · exact ⟨p5, _, _, _, rfl, rfl, SqL.of upd_same, atI_nat (j := 3) rfl, k _ _ aa (.inr (.inr (.inr (.inl ⟨_, rfl⟩))))⟩
      · exact ⟨p5, _, _, _, rfl, rfl, SqL.of upd_same, atI_nat (j := 4) rfl, k _ _ aa (.inr (.inr (.inr (.inl ⟨_, rfl⟩))))⟩
      · exact ⟨p5, _, _, _, rfl, rfl, SqL.of upd_same, atI_nat (j := 5) rfl, k _ _ aa (.inr (.inr (.inr (.inr (.inl ⟨p1, _, rfl, .inl (a5 _ _ (a4 _ _ (a3 _ _ (a2 _ _ upd_same))))⟩)))))⟩
      · exact ⟨p5, _, _, _, rfl, rfl, SqL.of upd_same, atI_nat (j := 6) rfl, k _ _ aa (.inr (.inr (.inr (.inr (.inl ⟨p2, _, rfl, .inl (a5 _ _ (a4 _ _ (a3 _ _ upd_same)))⟩)))))⟩
      · exact ⟨p5, _, _, _, rfl, rfl, SqL.of upd_same, atI_nat (j := 7) rfl, k _ _ aa (.inr (.inr (.inr (.inr (.inl ⟨p3, _, rfl, .inr (a5 _ _ (a4 _ _ upd_same))⟩)))))⟩
      · exact ⟨p5, _, _, _, rfl, rfl, SqL.of upd_same, atI_nat (j := 8) rfl, k _ _ aa (.inr (.inr (.inr (.inr (.inr ⟨p4, _, rfl, a5 _ _ upd_same⟩)))))⟩
/-! ### what a name is -/
def alnum (c : Nat) : Bool := decide (c ∈ tl "abcdefghijklmnopqrstuvwxyz") || decide (c ∈ tl "0123456789")
def okS (z : Str) : Bool := decide (1 ≤ z.length) && decide (z.length ≤ 8) && (match tl z with | c :: _ => decide (c ∈ tl "abcdefghijklmnopqrstuvwxyz") | [] => false) && !inV (.str z) kWords && (tl z).all alnum
def nm : V → Bool
  | .str z => okS z
  | _ => false
theorem nm_no {v : V} (h : isS v = false) : nm v = false := by
  cases v <;> first | rfl | cases h
theorem isS_yes {v : V} (h : isS v = true) : ∃ z, v = .str z := by
  cases v with
  | str z => exact ⟨z, rfl⟩
  | _ => cases h
def spIsName : Sp := fun vs H Q _ => ∃ v, vs = [v] ∧ Th H v ∧ ∀ H', Ex H H' → Q (.bl (nm v)) H'
theorem ok_is_name (T : Tx K mg A) : FnOk P w K mg base CX0 1 A.is_name A.d_is_name p_is_name spIsName := by
  refine T.F_is_name.ok sc_is_name (fun vs H Q E h => ?_) (fun cdv Ar outer s H vs Q E hr h => ?_)
  · obtain ⟨v, rfl, _⟩ := h
    rfl
  · obtain ⟨v, rfl, hv, k⟩ := h
    refine ⟨_, (pss_cons (ps_if (PW.pt (pw_or (pt_not (pt_val (pe_callB call_isi (by rfl) T.m_isinstance (by decide +kernel) (pa_cons (pv 0) (pa_cons (pe_bltn (v := .ty "str") (u := .type "str") (by rfl) T.m_str (by decide +kernel) rfl) pa_nil))))) (pw_or1 (pt_not (pt_chain op_le op_le pe_int (pe_callB call_len_str (by rfl) T.m_len PySem.boot_len (pa_cons (pv 0) pa_nil)) (pe_glob (v := .int 8) (by rfl) T.c_MOST_CHARACTERS ⟨_, rfl⟩)))))) (pss_one (ps_ret pe_bl)) pss_nil)
      (pss_cons (ps_if (PW.pt (pw_or (pt_cmpR op_notIn_sign (pe_ix ix_str (pv 0) pe_int (fun _ _ => rfl)) (pe_glob (v := .str "abcdefghijklmnopqrstuvwxyz") (by rfl) T.c_LETTERS ⟨_, rfl⟩) (by rfl)) (pw_or1 (pt_cmpR op_in_seq (pv 0) (pe_glob (v := .ref A.RESERVED) (by rfl) T.c_RESERVED rfl) (by rfl))))) (pss_one (ps_ret pe_bl)) pss_nil)
      (pss_one (ps_ret (pe_callB (cr_all rfl) (by rfl) T.m_all (by decide +kernel) (pa_cons (pe_lc (own := [("sign", 1)]) (g := gName 1) (tt := tYes) rfl sc_is_name.nd (pi_str (pv 0)) (blkOk_by (N := n_is_name) (sc := defScope s_is_name) (by decide +kernel)) (fun _ _ _ _ _ => pg_name (i := 1) sc_is_name.nd rfl (Or.inl rfl)) (fun _ _ _ _ _ => pts_nil) (fun _ _ _ _ _ => (pe_or (pe_cmpR op_in_sign (pv 1) (pe_glob (v := .str "abcdefghijklmnopqrstuvwxyz") (by rfl) T.c_LETTERS ⟨_, rfl⟩) (by rfl)) (pe_one (pe_cmpR op_in_sign (pv 1) (pe_glob (v := .str "0123456789") (by rfl) T.c_DIGITS ⟨_, rfl⟩) (by rfl)))))) pa_nil)))))), ?_⟩
    obtain ⟨t, ht, hk⟩ := hv.isi (K := K)
    refine ⟨v, rfl, v, _, t, _, _, rfl, .ty "str", ht, hk, _, rfl, ?_⟩
    cases hs : isS v with
    | false =>
      refine iteT ?_
      refine iteT ?_
      have q := k H (Ex.refl H)
      rw [nm_no hs] at q
      exact q
    | true =>
      obtain ⟨z, rfl⟩ := isS_yes hs
      have hz : z.length ≤ 64 := by
        rcases hv with ⟨z', e, h⟩ | e | ⟨_, e⟩ | ⟨_, e⟩ | ⟨_, _, e, _⟩ | ⟨_, _, e, _⟩
        · cases e
          exact h
        all_goals cases e
      refine iteF ?_
      refine ⟨_, rfl, z, rfl, sz_of (by omega), 1, _, rfl, rfl, _, rfl, ?_⟩
      have no : okS z = false → Q (V.bl false) H := fun e => by
        have q := k H (Ex.refl H)
        rw [show nm (V.str z) = false from e] at q
        exact q
      by_cases z1 : 1 ≤ z.length
      · rw [decide_eq_true (show (1 : Int) ≤ (z.length : Int) by omega)]
        refine iteT ?_
        refine ⟨_, 8, rfl, rfl, _, rfl, ?_⟩
        by_cases z8 : z.length ≤ 8
        · rw [decide_eq_true (show (z.length : Int) ≤ 8 by omega)]
          refine iteF ?_
          obtain ⟨c, r, hcr⟩ : ∃ c r, tl z = c :: r := by
            cases e : tl z with
            | nil =>
              rw [len_tl, e] at z1
              exact absurd z1 (by decide)
            | cons c r => exact ⟨c, r, rfl⟩
          refine ⟨_, rfl, z, 0, c, rfl, rfl, sz_of (by omega), atI_nat (j := 0) (by show (tl z)[0]? = _; rw [hcr]; rfl), c, _, rfl, rfl, _, rfl, ?_⟩
          by_cases hc : c ∈ tl "abcdefghijklmnopqrstuvwxyz"
          · rw [decide_eq_true hc]
            refine iteF ?_
            refine ⟨_, rfl, A.RESERVED, k_RESERVED, rfl, .inr (T.q_RESERVED _), rfl, by decide, _, rfl, ?_⟩
            show if inV (.str z) k_RESERVED = true then _ else _
            cases hi : inV (.str z) k_RESERVED with
            | true =>
              refine iteT ?_
              refine no ?_
              unfold okS
              rw [show inV (.str z) kWords = true from hi, Bool.and_eq_false_iff]
              exact .inl (Bool.and_eq_false_iff.mpr (.inr rfl))
            | false =>
              refine iteF ?_
              refine ⟨_, rfl, z, rfl, fun D hD => ?_⟩
              refine lc_str (f := fun c => V.bl (alnum c)) (by omega) hD (fun _ => rfl) (fun c H' _ Q' q => ?_) ?_
              · refine ⟨_, rfl, c, _, rfl, rfl, _, rfl, ite2 (fun h => ?_) (fun h => ?_)⟩
                · have e : alnum c = true := by
                    unfold alnum
                    rw [show decide (c ∈ tl "abcdefghijklmnopqrstuvwxyz") = true from h, Bool.true_or]
                  rw [e] at q
                  exact q
                · refine ⟨_, rfl, c, _, rfl, rfl, ?_⟩
                  have e : alnum c = decide (c ∈ tl "0123456789") := by
                    unfold alnum
                    rw [show decide (c ∈ tl "abcdefghijklmnopqrstuvwxyz") = false from by simpa using h, Bool.false_or]
                  rw [e] at q
                  exact q
              · refine ⟨D, (tl z).map alnum, rfl, SqL.of (by rw [upd_same, List.map_map]; rfl), ?_⟩
                have e : okS z = ((tl z).map alnum).all id := by
                  unfold okS
                  rw [decide_eq_true z1, decide_eq_true z8, hcr, show inV (.str z) kWords = false from hi, List.all_map]
                  show (decide (c ∈ tl "abcdefghijklmnopqrstuvwxyz") && true && _) = _
                  rw [decide_eq_true hc]
                  rfl
                have q := k _ (Ex.new hD (o := .lst ((tl z).map fun c => V.bl (alnum c))))
                rw [show nm (V.str z) = ((tl z).map alnum).all id from e] at q
                exact q
          · rw [decide_eq_false hc]
            refine iteT ?_
            refine no ?_
            unfold okS
            rw [hcr]
            show (_ && decide (c ∈ tl "abcdefghijklmnopqrstuvwxyz") && _ && _) = false
            rw [decide_eq_false hc, Bool.and_false, Bool.false_and, Bool.false_and]
        · rw [decide_eq_false (show ¬ (z.length : Int) ≤ 8 by omega)]
          refine iteT ?_
          refine no ?_
          unfold okS
          rw [decide_eq_false z8, Bool.and_false, Bool.false_and, Bool.false_and, Bool.false_and]
      · rw [decide_eq_false (show ¬ (1 : Int) ≤ (z.length : Int) by omega)]
        refine iteF ?_
        refine ⟨_, rfl, ?_⟩
        refine iteT ?_
        refine no ?_
        unfold okS
        rw [decide_eq_false z1, Bool.false_and, Bool.false_and, Bool.false_and, Bool.false_and]
def tl36 : List Nat := tl "abcdefghijklmnopqrstuvwxyz0123456789"
theorem tl36_eq : tl36 = tl "abcdefghijklmnopqrstuvwxyz" ++ tl "0123456789" := by decide +kernel
theorem alnum36 (c : Nat) : alnum c = decide (c ∈ tl36) := by
  unfold alnum
  rw [tl36_eq]
  by_cases h1 : c ∈ tl "abcdefghijklmnopqrstuvwxyz" <;> by_cases h2 : c ∈ tl "0123456789" <;> simp [h1, h2]
theorem apart : ∀ c ∈ tl "abcdefghijklmnopqrstuvwxyz", c ∉ tl "0123456789" := by decide +kernel
theorem ok_lname (T : Tx K mg A) : FnOk P w K mg base CX0 2 A.lname A.d_lname p_lname spIsName := by
  refine T.F_lname.ok sc_lname (fun vs H Q E h => ?_) (fun cdv Ar outer s H vs Q E hr h => ?_)
  · obtain ⟨v, rfl, _⟩ := h
    rfl
  · obtain ⟨v, rfl, hv, k⟩ := h
    refine ⟨_, (pss_cons (ps_if (pt_not (pt_val (pe_callB call_isi (by rfl) T.m_isinstance (by decide +kernel) (pa_cons (pv 0) (pa_cons (pe_bltn (v := .ty "str") (u := .type "str") (by rfl) T.m_str (by decide +kernel) rfl) pa_nil))))) (pss_one (ps_ret pe_bl)) pss_nil)
      (pss_cons (ps_if (PW.pt (pw_or (pt_cmpR op_lt (pe_callB call_len_str (by rfl) T.m_len PySem.boot_len (pa_cons (pv 0) pa_nil)) pe_int (nomark _)) (pw_or (pt_cmpR op_gt (pe_callB call_len_str (by rfl) T.m_len PySem.boot_len (pa_cons (pv 0) pa_nil)) pe_int (nomark _)) (pw_or1 (pt_cmpR op_in_seq (pv 0) (pe_call0 (ok_words T) (hr.mono (by decide)) (by rfl) T.g_words T.F_words.kp T.b_words .nil pass0) (by rfl)))))) (pss_one (ps_ret pe_bl)) pss_nil)
      (pss_cons (ps_for PassesOwn.never rfl (pi_str (pv 0)) (pg_name (i := 1) sc_lname.nd rfl (Or.inl rfl)) (pss_one (ps_if (pt_cmpR op_notIn_sign (pv 1) pe_str (by rfl)) (pss_one (ps_ret pe_bl)) pss_nil)))
      (pss_one (ps_ret (pe_cmpR op_notIn_sign (pe_ix ix_str (pv 0) pe_int (fun _ _ => rfl)) pe_str (by rfl))))))), ?_⟩
    obtain ⟨t, ht, hk⟩ := hv.isi (K := K)
    refine ⟨v, rfl, v, _, t, _, _, rfl, .ty "str", ht, hk, _, rfl, ?_⟩
    cases hs : isS v with
    | false =>
      refine iteT ?_
      have q := k H (Ex.refl H)
      rw [nm_no hs] at q
      exact q
    | true =>
      obtain ⟨z, rfl⟩ := isS_yes hs
      have hz : z.length ≤ 64 := by
        rcases hv with ⟨z', e, h⟩ | e | ⟨_, e⟩ | ⟨_, e⟩ | ⟨_, _, e, _⟩ | ⟨_, _, e, _⟩
        · cases e
          exact h
        all_goals cases e
      refine iteF ?_
      have no : ∀ H', Ex H H' → okS z = false → Q (V.bl false) H' := fun H' e' e => by
        have q := k H' e'
        rw [show nm (V.str z) = false from e] at q
        exact q
      refine ⟨_, rfl, z, rfl, sz_of (by omega), _, 1, rfl, rfl, _, rfl, ite2 (fun h => ?_) (fun h => ?_)⟩
      · refine no _ (Ex.refl H) ?_
        have z1 : ¬ 1 ≤ z.length := by
          have := of_decide_eq_true h
          omega
        unfold okS
        rw [decide_eq_false z1, Bool.false_and, Bool.false_and, Bool.false_and, Bool.false_and]
      have z1 : 1 ≤ z.length := by
        have : ¬ (z.length : Int) < 1 := fun q => h (decide_eq_true q)
        omega
      refine ⟨_, rfl, z, rfl, sz_of (by omega), _, 8, rfl, rfl, _, rfl, ite2 (fun h => ?_) (fun h => ?_)⟩
      · refine no _ (Ex.refl H) ?_
        have z8 : ¬ z.length ≤ 8 := by
          have := of_decide_eq_true h
          omega
        unfold okS
        rw [decide_eq_false z8, Bool.and_false, Bool.false_and, Bool.false_and, Bool.false_and]
      have z8 : z.length ≤ 8 := by
        have : ¬ (8 : Int) < (z.length : Int) := fun q => h (decide_eq_true q)
        omega
      refine ⟨_, rfl, rfl, fun p H1 hp e1 hL => ?_⟩
      refine ⟨p, kWords, rfl, .inl (SqL.of hL), rfl, by decide, _, rfl, ?_⟩
      show if inV (.str z) kWords = true then _ else _
      cases hi : inV (.str z) kWords with
      | true =>
        refine iteT ?_
        refine no _ e1 ?_
        unfold okS
        rw [hi, Bool.and_eq_false_iff]
        exact .inl (Bool.and_eq_false_iff.mpr (.inr rfl))
      | false =>
        refine iteF ?_
        refine ⟨_, rfl, z, rfl, for_str (fun i σ H' => (∃ v1, σ = [some (.str z), v1]) ∧ H' = H1 ∧ ∀ c ∈ (tl z).take i, alnum c = true) ⟨⟨none, rfl⟩, rfl, fun c hc => (nomatch hc)⟩ ?_ ?_⟩
        · rintro i c σ' H' hc ⟨⟨v1, rfl⟩, rfl, hall⟩
          refine ⟨_, rfl, c, _, rfl, rfl, _, rfl, ?_⟩
          show if (!decide (c ∈ tl36)) = true then _ else _
          rw [← alnum36]
          cases ha : alnum c with
          | true =>
            refine iteF ?_
            refine ⟨⟨_, rfl⟩, rfl, fun c' hc' => ?_⟩
            rw [List.take_add_one, hc] at hc'
            rcases List.mem_append.mp hc' with h' | h'
            · exact hall c' h'
            · rw [List.mem_singleton.mp h']
              exact ha
          | false =>
            refine iteT ?_
            refine no _ e1 ?_
            unfold okS
            rw [Bool.and_eq_false_iff]
            refine .inr ?_
            rw [List.all_eq_false]
            exact ⟨c, List.mem_of_getElem? hc, by rw [ha]; decide⟩
        · rintro σ' H' ⟨⟨v1, rfl⟩, rfl, hall⟩
          rw [List.take_length] at hall
          obtain ⟨c, r, hcr⟩ : ∃ c r, tl z = c :: r := by
            cases e : tl z with
            | nil =>
              rw [len_tl, e] at z1
              exact absurd z1 (by decide)
            | cons c r => exact ⟨c, r, rfl⟩
          refine ⟨_, rfl, z, 0, c, rfl, rfl, sz_of (by omega), atI_nat (j := 0) (by show (tl z)[0]? = _; rw [hcr]; rfl), c, _, rfl, rfl, ?_⟩
          have e : okS z = !decide (c ∈ tl "0123456789") := by
            unfold okS
            rw [decide_eq_true z1, decide_eq_true z8, hi, List.all_eq_true.mpr hall, hcr]
            have hc := hall c (by rw [hcr]; exact List.mem_cons_self)
            show (decide (c ∈ tl "abcdefghijklmnopqrstuvwxyz") && true && true) = _
            unfold alnum at hc
            by_cases h1 : c ∈ tl "abcdefghijklmnopqrstuvwxyz"
            · rw [decide_eq_true h1, decide_eq_false (apart c h1)]
              rfl
            · rw [decide_eq_false h1, Bool.false_or] at hc
              rw [decide_eq_false h1, hc]
              rfl
          have q := k H' e1
          rw [show nm (V.str z) = !decide (c ∈ tl "0123456789") from e] at q
          exact q
def spRight : Sp := fun vs H Q _ => ∃ v b, vs = [v, .bl b] ∧ Th H v ∧ ∀ H', Ex H H' → Q (.bl (decide (V.bl (nm v) = V.bl b))) H'
theorem ok_right (T : Tx K mg A) : FnOk P w K mg base CX0 2 A.right A.d_right p_right spRight := by
  refine T.F_right.ok sc_right (fun vs H Q E h => ?_) (fun cdv Ar outer s H vs Q E hr h => ?_)
  · obtain ⟨v, b, rfl, _⟩ := h
    rfl
  · obtain ⟨v, b, rfl, hv, k⟩ := h
    refine ⟨_, (pss_cons (ps_set (i := 2) sc_right.nd rfl (Or.inl rfl) (pe_call (ok_is_name T) (hr.mono (by decide)) (by rfl) T.g_is_name T.F_is_name.kp T.b_is_name .nil pass0 (pa_cons (pv 0) pa_nil)))
      (pss_one (ps_ret (pe_and (pe_callB call_isi (by rfl) T.m_isinstance (by decide +kernel) (pa_cons (pv 2) (pa_cons (pe_bltn (v := .ty "bool") (u := .type "bool") (by rfl) T.m_bool (by decide +kernel) rfl) pa_nil))) (pe_one (pe_cmpR op_eq (pv 2) (pv 1) (nomark _))))))), ?_⟩
    refine ⟨v, rfl, v, rfl, hv, fun H1 e1 => ?_⟩
    refine ⟨_, rfl, .bl (nm v), _, _, _, true, rfl, .ty "bool", .base (.bl _), kit_ty (by decide +kernel), _, rfl, iteT ?_⟩
    exact ⟨_, rfl, _, rfl, rfl, k _ e1⟩
def spLaw (K : PySem.W.Frag) : Sp := fun vs H Q _ => ∃ (a : Addr) (ns : List Int), vs = [.ref a] ∧ SqL K H a (ns.map V.int) ∧ ns.length ≤ 63 ∧ ∀ H', Q (.bl true) H'
theorem ok_law (T : Tx K mg A) : FnOk P w K mg base CX0 5 A.law A.d_law p_law (spLaw K) := by
  refine T.F_law.ok sc_law (fun vs H Q E h => ?_) (fun cdv Ar outer s H vs Q E hr h => ?_)
  · obtain ⟨a, ns, rfl, _⟩ := h
    rfl
  · obtain ⟨a, ns, rfl, hS, hlen, k⟩ := h
    refine ⟨_, (pss_cons (ps_set (i := 1) sc_law.nd rfl (Or.inr rfl) (pe_call (ok_draws T) (hr.mono (by decide)) (by rfl) T.g_draws T.F_draws.kp T.b_draws .nil pass0 (pa_cons (pv 0) pa_nil)))
      (pss_cons (ps_if (PW.pt (pw_or (pt_not (pt_val (pe_callB call_isi (by rfl) T.m_isinstance (by decide +kernel) (pa_cons (pe_glob (v := .ref A.RESERVED) (by rfl) T.c_RESERVED rfl) (pa_cons (pe_bltn (v := .ty "tuple") (u := .type "tuple") (by rfl) T.m_tuple (by decide +kernel) rfl) pa_nil))))) (pw_or1 (pt_cmpR (op_neD hr.units) (pe_callTy call_list_of (by rfl) T.m_list (by decide +kernel) (pa_cons (pe_glob (v := .ref A.RESERVED) (by rfl) T.c_RESERVED rfl) pa_nil)) (pe_call0 (ok_words T) (hr.mono (by decide)) (by rfl) T.g_words T.F_words.kp T.b_words .nil pass0) (nomark _))))) (pss_one (ps_ret pe_bl)) pss_nil)
      (pss_cons (ps_for PassesOwn.never rfl (pi_list (pe_call0 (ok_words T) (hr.mono (by decide)) (by rfl) T.g_words T.F_words.kp T.b_words .nil pass0)) (pg_name (i := 2) sc_law.nd rfl (Or.inl rfl)) (pss_one (ps_if (PW.pt (pw_or (pt_not (pt_val (pe_call (ok_right T) (hr.mono (by decide)) (by rfl) T.g_right T.F_right.kp T.b_right .nil pass0 (pa_cons (pv 2) (pa_cons pe_bl pa_nil))))) (pw_or1 (pt_not (pt_val (pe_call (ok_right T) (hr.mono (by decide)) (by rfl) T.g_right T.F_right.kp T.b_right .nil pass0 (pa_cons (pe_op op_add_str (pv 2) pe_str) (pa_cons pe_bl pa_nil)))))))) (pss_one (ps_ret pe_bl)) pss_nil)))
      (pss_cons (ps_setLc (i := 4) (own := [("_law_k", 3)]) (g := gName 3) (tt := tYes) rfl sc_law.nd rfl rfl (sw_true rfl rfl rfl (by decide +kernel)) (pi_range1 (by rfl) T.m_range (pa_cons pe_int pa_nil)) (blkOk_by (N := n_law) (sc := defScope s_law) (by decide +kernel)) (fun _ _ _ _ _ => pg_name (i := 3) sc_law.nd rfl (Or.inl rfl)) (fun _ _ _ _ _ => pts_nil) (fun _ _ _ _ _ => (pe_call (ok_thing T) (hr.mono (by decide)) (by rfl) T.g_thing T.F_thing.kp T.b_thing .nil pass0 (pa_cons (pv 1) pa_nil))))
      (pss_cons (ps_for PassesOwn.never rfl (pi_range1 (by rfl) T.m_range (pa_cons pe_int pa_nil)) (pg_name (i := 3) sc_law.nd rfl (Or.inl rfl)) (pss_one (ps_if (pt_not (pt_val (pe_call (ok_right T) (hr.mono (by decide)) (by rfl) T.g_right T.F_right.kp T.b_right .nil pass0 (pa_cons (pe_ix ix_list (pv 4) (pv 3) (fun _ _ => rfl)) (pa_cons (pe_call (ok_lname T) (hr.mono (by decide)) (by rfl) T.g_lname T.F_lname.kp T.b_lname .nil pass0 (pa_cons (pe_ix ix_list (pv 4) (pv 3) (fun _ _ => rfl)) pa_nil)) pa_nil))))) (pss_one (ps_ret pe_bl)) pss_nil)))
      (pss_cons (ps_for PassesOwn.never rfl (pi_range1 (by rfl) T.m_range (pa_cons pe_int pa_nil)) (pg_name (i := 3) sc_law.nd rfl (Or.inl rfl)) (pss_one (ps_if (pt_not (pt_val (pe_call (ok_right T) (hr.mono (by decide)) (by rfl) T.g_right T.F_right.kp T.b_right .nil pass0 (pa_cons (pe_ix ix_list (pv 4) (pe_op op_sub pe_int (pv 3)) (fun _ _ => rfl)) (pa_cons (pe_call (ok_lname T) (hr.mono (by decide)) (by rfl) T.g_lname T.F_lname.kp T.b_lname .nil pass0 (pa_cons (pe_ix ix_list (pv 4) (pe_op op_sub pe_int (pv 3)) (fun _ _ => rfl)) pa_nil)) pa_nil))))) (pss_one (ps_ret pe_bl)) pss_nil)))
      (pss_one (ps_ret pe_bl)))))))), ?_⟩
    refine ⟨_, rfl, a, ns, rfl, hS, hlen, fun d hd0 => ?_⟩
    have hd : upd H d (DrO d) d = some (DrO d) := upd_same
    revert hd
    generalize upd H d (DrO d) = H0
    intro hd
    obtain ⟨o, ho, hoc⟩ := T.o_RESERVED
    refine ⟨.ref A.RESERVED, _, _, _, true, rfl, .ty "tuple", .kTuple ho hoc, kit_ty (by decide +kernel), _, rfl, iteF ?_⟩
    refine ⟨A.RESERVED, k_RESERVED, rfl, .inr (T.q_RESERVED _), fun l hl => ⟨rfl, fun p H1 hp e1 hL => ?_⟩⟩
    have e0 : Ex H0 H1 := (Ex.new hl).trans e1
    refine ⟨.list (wordsS.map .str), .list (wordsS.map .str), .lst (SqL.of (e1 _ _ upd_same)) (dp_strs wordsS), .lst (SqL.of hL) (dp_strs wordsS), by decide +kernel, by decide +kernel, _, rfl, ?_⟩
    rw [show (!PyData.eqv (.list (wordsS.map .str)) (.list (wordsS.map .str))) = false by decide +kernel]
    refine iteF ?_
    have hd1 := e0 _ _ hd
    clear hL hp e1 e0 hl
    -- the reserved words
    refine ⟨rfl, fun p H2 hp e2 hL => ⟨p, rfl, ⟨_, SqL.of hL⟩, for_list (xs := kWords) (fun i σ H' => (∃ v2, σ = [some (.ref a), some (.ref d), v2, none, none]) ∧ Ex H2 H') ⟨⟨none, rfl⟩, Ex.refl _⟩ (fun i σ H' _ h => SqL.of (h.2 _ _ hL)) ?_ ?_⟩⟩
    · rintro i x σ' H' hx ⟨⟨v2, rfl⟩, e3⟩
      obtain ⟨z, hz, rfl⟩ : ∃ z, z ∈ wordsS ∧ x = .str z := by
        rw [kWords_eq, List.getElem?_map] at hx
        cases e : wordsS[i]? with
        | none =>
          rw [e] at hx
          cases hx
        | some z =>
          rw [e] at hx
          exact ⟨z, List.mem_of_getElem? e, (Option.some.inj hx).symm⟩
      have hall : ∀ z ∈ wordsS, z.length ≤ 5 ∧ okS z = false ∧ okS (z ++ "1") = true := by decide +kernel
      obtain ⟨zl, z0, z1⟩ := hall z hz
      refine ⟨_, rfl, .str z, false, rfl, .inl ⟨z, rfl, by omega⟩, fun H4 e4 => ⟨_, rfl, ?_⟩⟩
      rw [show nm (.str z) = false from z0]
      refine iteF ?_
      refine ⟨_, rfl, z, _, rfl, rfl, ?_, .str _, true, rfl, .inl ⟨_, rfl, ?_⟩, fun H5 e5 => ⟨_, rfl, ?_⟩⟩
      · exact sz_of (by show z.length + 1 ≤ 100000; omega)
      · rw [len_tl, tl_append, List.length_append, ← len_tl]
        show z.length + 1 ≤ 64
        omega
      · rw [show nm (.str (z ++ "1")) = true from z1]
        exact iteF ⟨⟨_, rfl⟩, (e3.trans e4).trans e5⟩
    rintro σ' H3 ⟨⟨v2, rfl⟩, e3⟩
    have hd3 := e3 _ _ (e2 _ _ hd1)
    clear e3 hL hp e2
    -- the things
    refine ⟨6, rfl, by decide, by decide, fun D hD => ?_⟩
    refine lc_n (G := Th) (n := 6) ⟨by decide, by decide⟩ hD (fun _ _ _ => Th.mono) (fun H' xs ys v hl h => ?_) (fun _ => rfl) (fun i H' _ e Q' q => ⟨_, rfl, d, rfl, e _ _ hd3, fun v H2 e2 h2 => q v H2 e2 h2⟩) ?_
    · rcases h with h | h | h | h | ⟨a, xs, h, h1⟩ | ⟨a, kvs, h, h1⟩
      · exact .inl h
      · exact .inr (.inl h)
      · exact .inr (.inr (.inl h))
      · exact .inr (.inr (.inr (.inl h)))
      · by_cases e : a = D
        · exact .inr (.inr (.inr (.inr (.inl ⟨a, ys, h, .inl (by rw [e]; exact upd_same)⟩))))
        · exact .inr (.inr (.inr (.inr (.inl ⟨a, xs, h, by rw [upd_ne e]; exact h1⟩))))
      · exact .inr (.inr (.inr (.inr (.inr ⟨a, kvs, h, by rw [upd_ne (ne_of h1 hl (by intro z; cases z))]; exact h1⟩))))
    intro H4 xs e4 hL hl hx
    have get : ∀ i : Nat, (i : Int) < 6 → ∃ v, xs[i]? = some v ∧ Th H4 v := fun i hi => by
      have h : i < xs.length := by omega
      exact ⟨xs[i], List.getElem?_eq_getElem h, hx _ (List.getElem_mem h)⟩
    refine ⟨6, rfl, forR1 ⟨by decide, by decide⟩ (fun i σ H' => (∃ v2 v3, σ = [some (.ref a), some (.ref d), v2, v3, some (.ref D)]) ∧ Ex H4 H') ⟨⟨_, _, rfl⟩, Ex.refl _⟩ ?_ ?_⟩
    · rintro i σ' H' hi ⟨⟨v2, v3, rfl⟩, e⟩
      obtain ⟨v, hv, tv⟩ := get i hi
      refine ⟨_, rfl, _, rfl, D, xs, _, v, rfl, rfl, SqL.of (e _ _ hL), atI_nat hv, _, rfl, _, rfl, D, xs, _, v, rfl, rfl, SqL.of (e _ _ hL), atI_nat hv, v, rfl, tv.mono e, fun H5 e5 => ?_⟩
      refine ⟨v, nm v, rfl, (tv.mono e).mono e5, fun H6 e6 => ⟨_, rfl, ?_⟩⟩
      rw [decide_eq_true rfl]
      exact iteF ⟨⟨_, _, rfl⟩, (e.trans e5).trans e6⟩
    rintro σ' H5 ⟨⟨v2, v3, rfl⟩, e⟩
    refine ⟨6, rfl, forR1 ⟨by decide, by decide⟩ (fun i σ H' => (∃ v2 v3, σ = [some (.ref a), some (.ref d), v2, v3, some (.ref D)]) ∧ Ex H4 H') ⟨⟨_, _, rfl⟩, e⟩ ?_ ?_⟩
    · rintro i σ' H' hi ⟨⟨v2, v3, rfl⟩, e⟩
      obtain ⟨v, hv, tv⟩ := get (5 - i) (by omega)
      have hv' : atI xs (5 - (i : Int)) = some v := by
        rw [show (5 - (i : Int)) = ((5 - i : Nat) : Int) by omega]
        exact atI_nat hv
      refine ⟨_, rfl, _, rfl, 5, _, rfl, rfl, D, xs, _, v, rfl, rfl, SqL.of (e _ _ hL), hv', _, rfl, _, rfl, 5, _, rfl, rfl, D, xs, _, v, rfl, rfl, SqL.of (e _ _ hL), hv', v, rfl, tv.mono e, fun H5 e5 => ?_⟩
      refine ⟨v, nm v, rfl, (tv.mono e).mono e5, fun H6 e6 => ⟨_, rfl, ?_⟩⟩
      rw [decide_eq_true rfl]
      exact iteF ⟨⟨_, _, rfl⟩, (e.trans e5).trans e6⟩
    rintro σ' H6 _
    exact k _

end
theorem all_mk {l : PySem.W.OpenLaw} {w : World} {K : PySem.W.Frag} {h : Heap} {mg : Str → Option Value} {fa : Addr} (X : K.In h) (G : h.Ns mainGlobals mg) (hfa : mg "law" = some (.ref fa))
    {f0 f1 f2 f3 f4 f5 f6 f7 f8 f9 f10 : Addr}
    {od0 an0 od1 an1 od2 an2 od3 an3 od4 an4 od5 an5 od6 an6 od7 an7 od8 an8 od9 an9 od10 an10 : Option Addr}
    {sl0 sl1 sl2 sl3 sl4 sl5 sl6 sl7 sl8 sl9 sl10 : Array (Option Value)}
    {oc0 kV0 dc0 pm0 cd0 ct0 oc1 kV1 dc1 pm1 cd1 ct1 oc2 kV2 dc2 pm2 cd2 ct2 oc3 kV3 dc3 pm3 cd3 ct3 oc4 kV4 dc4 pm4 cd4 ct4 oc5 kV5 dc5 pm5 cd5 ct5 oc6 kV6 dc6 pm6 cd6 ct6 oc7 kV7 dc7 pm7 cd7 ct7 oc8 kV8 dc8 pm8 cd8 ct8 oc9 kV9 dc9 pm9 cd9 ct9 oc10 kV10 dc10 pm10 cd10 ct10 : Value}
    {tDIGITS : Nat}
    {tLETTERS : Nat}
    {tMOST_CHARACTERS : Nat}
    {xRESERVED : Addr} {vRESERVED : List Value} {odRESERVED : Option Addr} {nnRESERVED : Nat} {slRESERVED : Array (Option Value)}
    (a0 : PySem.W.nsIn K mainGlobals "is_name" = some (some (.ref f0)))
    (l0 : K.lookup f0 = some ⟨oc0, od0, .func (PySem.W.fnOf "is_name" "is_name" (defArgs s_is_name) (defBody s_is_name) (defScope s_is_name) .none kV0 dc0 pm0 an0 cd0 ct0), sl0⟩)
    (c0 : PySem.W.codeIn K cd0 "is_name" = true)
    (k0 : PySem.W.keepIn K (.ref f0) = true)
    (a1 : PySem.W.nsIn K mainGlobals "_law_draws" = some (some (.ref f1)))
    (l1 : K.lookup f1 = some ⟨oc1, od1, .func (PySem.W.fnOf "_law_draws" "_law_draws" (defArgs s_draws) (defBody s_draws) (defScope s_draws) .none kV1 dc1 pm1 an1 cd1 ct1), sl1⟩)
    (c1 : PySem.W.codeIn K cd1 "_law_draws" = true)
    (k1 : PySem.W.keepIn K (.ref f1) = true)
    (a2 : PySem.W.nsIn K mainGlobals "_law_take" = some (some (.ref f2)))
    (l2 : K.lookup f2 = some ⟨oc2, od2, .func (PySem.W.fnOf "_law_take" "_law_take" (defArgs s_take) (defBody s_take) (defScope s_take) .none kV2 dc2 pm2 an2 cd2 ct2), sl2⟩)
    (c2 : PySem.W.codeIn K cd2 "_law_take" = true)
    (k2 : PySem.W.keepIn K (.ref f2) = true)
    (a3 : PySem.W.nsIn K mainGlobals "_law_words" = some (some (.ref f3)))
    (l3 : K.lookup f3 = some ⟨oc3, od3, .func (PySem.W.fnOf "_law_words" "_law_words" (defArgs s_words) (defBody s_words) (defScope s_words) .none kV3 dc3 pm3 an3 cd3 ct3), sl3⟩)
    (c3 : PySem.W.codeIn K cd3 "_law_words" = true)
    (k3 : PySem.W.keepIn K (.ref f3) = true)
    (a4 : PySem.W.nsIn K mainGlobals "_law_sign" = some (some (.ref f4)))
    (l4 : K.lookup f4 = some ⟨oc4, od4, .func (PySem.W.fnOf "_law_sign" "_law_sign" (defArgs s_sign) (defBody s_sign) (defScope s_sign) .none kV4 dc4 pm4 an4 cd4 ct4), sl4⟩)
    (c4 : PySem.W.codeIn K cd4 "_law_sign" = true)
    (k4 : PySem.W.keepIn K (.ref f4) = true)
    (a5 : PySem.W.nsIn K mainGlobals "_law_letter" = some (some (.ref f5)))
    (l5 : K.lookup f5 = some ⟨oc5, od5, .func (PySem.W.fnOf "_law_letter" "_law_letter" (defArgs s_letter) (defBody s_letter) (defScope s_letter) .none kV5 dc5 pm5 an5 cd5 ct5), sl5⟩)
    (c5 : PySem.W.codeIn K cd5 "_law_letter" = true)
    (k5 : PySem.W.keepIn K (.ref f5) = true)
    (a6 : PySem.W.nsIn K mainGlobals "_law_letters" = some (some (.ref f6)))
    (l6 : K.lookup f6 = some ⟨oc6, od6, .func (PySem.W.fnOf "_law_letters" "_law_letters" (defArgs s_letters) (defBody s_letters) (defScope s_letters) .none kV6 dc6 pm6 an6 cd6 ct6), sl6⟩)
    (c6 : PySem.W.codeIn K cd6 "_law_letters" = true)
    (k6 : PySem.W.keepIn K (.ref f6) = true)
    (a7 : PySem.W.nsIn K mainGlobals "_law_thing" = some (some (.ref f7)))
    (l7 : K.lookup f7 = some ⟨oc7, od7, .func (PySem.W.fnOf "_law_thing" "_law_thing" (defArgs s_thing) (defBody s_thing) (defScope s_thing) .none kV7 dc7 pm7 an7 cd7 ct7), sl7⟩)
    (c7 : PySem.W.codeIn K cd7 "_law_thing" = true)
    (k7 : PySem.W.keepIn K (.ref f7) = true)
    (a8 : PySem.W.nsIn K mainGlobals "_law_is_name" = some (some (.ref f8)))
    (l8 : K.lookup f8 = some ⟨oc8, od8, .func (PySem.W.fnOf "_law_is_name" "_law_is_name" (defArgs s_lname) (defBody s_lname) (defScope s_lname) .none kV8 dc8 pm8 an8 cd8 ct8), sl8⟩)
    (c8 : PySem.W.codeIn K cd8 "_law_is_name" = true)
    (k8 : PySem.W.keepIn K (.ref f8) = true)
    (a9 : PySem.W.nsIn K mainGlobals "_law_right" = some (some (.ref f9)))
    (l9 : K.lookup f9 = some ⟨oc9, od9, .func (PySem.W.fnOf "_law_right" "_law_right" (defArgs s_right) (defBody s_right) (defScope s_right) .none kV9 dc9 pm9 an9 cd9 ct9), sl9⟩)
    (c9 : PySem.W.codeIn K cd9 "_law_right" = true)
    (k9 : PySem.W.keepIn K (.ref f9) = true)
    (a10 : PySem.W.nsIn K mainGlobals "law" = some (some (.ref f10)))
    (l10 : K.lookup f10 = some ⟨oc10, od10, .func (PySem.W.fnOf "law" "law" (defArgs s_law) (defBody s_law) (defScope s_law) .none kV10 dc10 pm10 an10 cd10 ct10), sl10⟩)
    (c10 : PySem.W.codeIn K cd10 "law" = true)
    (k10 : PySem.W.keepIn K (.ref f10) = true)
    (zabs : PySem.W.nsIn K mainGlobals "abs" = some none)
    (zall : PySem.W.nsIn K mainGlobals "all" = some none)
    (zbool : PySem.W.nsIn K mainGlobals "bool" = some none)
    (zint : PySem.W.nsIn K mainGlobals "int" = some none)
    (zisinstance : PySem.W.nsIn K mainGlobals "isinstance" = some none)
    (zlen : PySem.W.nsIn K mainGlobals "len" = some none)
    (zlist : PySem.W.nsIn K mainGlobals "list" = some none)
    (zmin : PySem.W.nsIn K mainGlobals "min" = some none)
    (zrange : PySem.W.nsIn K mainGlobals "range" = some none)
    (zstr : PySem.W.nsIn K mainGlobals "str" = some none)
    (ztuple : PySem.W.nsIn K mainGlobals "tuple" = some none)
    (eDIGITS : PySem.W.nsIn K mainGlobals "DIGITS" = some (some (.str "0123456789" tDIGITS)))
    (eLETTERS : PySem.W.nsIn K mainGlobals "LETTERS" = some (some (.str "abcdefghijklmnopqrstuvwxyz" tLETTERS)))
    (eMOST_CHARACTERS : PySem.W.nsIn K mainGlobals "MOST_CHARACTERS" = some (some (.int 8 tMOST_CHARACTERS)))
    (eRESERVED : PySem.W.nsIn K mainGlobals "RESERVED" = some (some (.ref xRESERVED)))
    (oRESERVED : K.lookup xRESERVED = some ⟨.type "tuple", odRESERVED, .seq vRESERVED.toArray nnRESERVED, slRESERVED⟩)
    (wRESERVED : Vals k_RESERVED vRESERVED)
    : ∃ fd : FuncData, (∀ (s : Shared) (v : Value), BindsTo s fd ⟨[v], []⟩ [("_law_script", v)]) ∧ ∀ base : Heap, K.In base → base.Ns mainGlobals mg → FnOk l.prog w K mg base CX0 5 fa fd ["_law_script"] (spLaw K) := by
  have e := hfa.symm.trans (PySem.W.mg_of X G a10)
  cases e
  have F0 := fun_mk (st := s_is_name) l0 c0 k0
  have b0 := F0.binds (ps := p_is_name) fun _ _ _ _ _ _ us hl => match us, hl with | [_], _ => rfl
  have F1 := fun_mk (st := s_draws) l1 c1 k1
  have b1 := F1.binds (ps := p_draws) fun _ _ _ _ _ _ us hl => match us, hl with | [_], _ => rfl
  have F2 := fun_mk (st := s_take) l2 c2 k2
  have b2 := F2.binds (ps := p_take) fun _ _ _ _ _ _ us hl => match us, hl with | [_, _], _ => rfl
  have F3 := fun_mk (st := s_words) l3 c3 k3
  have b3 := F3.binds (ps := p_words) fun _ _ _ _ _ _ us hl => match us, hl with | [], _ => rfl
  have F4 := fun_mk (st := s_sign) l4 c4 k4
  have b4 := F4.binds (ps := p_sign) fun _ _ _ _ _ _ us hl => match us, hl with | [_], _ => rfl
  have F5 := fun_mk (st := s_letter) l5 c5 k5
  have b5 := F5.binds (ps := p_letter) fun _ _ _ _ _ _ us hl => match us, hl with | [_], _ => rfl
  have F6 := fun_mk (st := s_letters) l6 c6 k6
  have b6 := F6.binds (ps := p_letters) fun _ _ _ _ _ _ us hl => match us, hl with | [_], _ => rfl
  have F7 := fun_mk (st := s_thing) l7 c7 k7
  have b7 := F7.binds (ps := p_thing) fun _ _ _ _ _ _ us hl => match us, hl with | [_], _ => rfl
  have F8 := fun_mk (st := s_lname) l8 c8 k8
  have b8 := F8.binds (ps := p_lname) fun _ _ _ _ _ _ us hl => match us, hl with | [_], _ => rfl
  have F9 := fun_mk (st := s_right) l9 c9 k9
  have b9 := F9.binds (ps := p_right) fun _ _ _ _ _ _ us hl => match us, hl with | [_, _], _ => rfl
  have F10 := fun_mk (st := s_law) l10 c10 k10
  have b10 := F10.binds (ps := p_law) fun _ _ _ _ _ _ us hl => match us, hl with | [_], _ => rfl
  let A : Adr := ⟨f0, (PySem.W.fnOf "is_name" "is_name" (defArgs s_is_name) (defBody s_is_name) (defScope s_is_name) .none kV0 dc0 pm0 an0 cd0 ct0), f1, (PySem.W.fnOf "_law_draws" "_law_draws" (defArgs s_draws) (defBody s_draws) (defScope s_draws) .none kV1 dc1 pm1 an1 cd1 ct1), f2, (PySem.W.fnOf "_law_take" "_law_take" (defArgs s_take) (defBody s_take) (defScope s_take) .none kV2 dc2 pm2 an2 cd2 ct2), f3, (PySem.W.fnOf "_law_words" "_law_words" (defArgs s_words) (defBody s_words) (defScope s_words) .none kV3 dc3 pm3 an3 cd3 ct3), f4, (PySem.W.fnOf "_law_sign" "_law_sign" (defArgs s_sign) (defBody s_sign) (defScope s_sign) .none kV4 dc4 pm4 an4 cd4 ct4), f5, (PySem.W.fnOf "_law_letter" "_law_letter" (defArgs s_letter) (defBody s_letter) (defScope s_letter) .none kV5 dc5 pm5 an5 cd5 ct5), f6, (PySem.W.fnOf "_law_letters" "_law_letters" (defArgs s_letters) (defBody s_letters) (defScope s_letters) .none kV6 dc6 pm6 an6 cd6 ct6), f7, (PySem.W.fnOf "_law_thing" "_law_thing" (defArgs s_thing) (defBody s_thing) (defScope s_thing) .none kV7 dc7 pm7 an7 cd7 ct7), f8, (PySem.W.fnOf "_law_is_name" "_law_is_name" (defArgs s_lname) (defBody s_lname) (defScope s_lname) .none kV8 dc8 pm8 an8 cd8 ct8), f9, (PySem.W.fnOf "_law_right" "_law_right" (defArgs s_right) (defBody s_right) (defScope s_right) .none kV9 dc9 pm9 an9 cd9 ct9), fa, (PySem.W.fnOf "law" "law" (defArgs s_law) (defBody s_law) (defScope s_law) .none kV10 dc10 pm10 an10 cd10 ct10), tDIGITS, tLETTERS, tMOST_CHARACTERS, xRESERVED⟩
  have T : Tx K mg A := {
    F_is_name := F0,
    b_is_name := b0,
    g_is_name := PySem.W.mg_of X G a0,
    F_draws := F1,
    b_draws := b1,
    g_draws := PySem.W.mg_of X G a1,
    F_take := F2,
    b_take := b2,
    g_take := PySem.W.mg_of X G a2,
    F_words := F3,
    b_words := b3,
    g_words := PySem.W.mg_of X G a3,
    F_sign := F4,
    b_sign := b4,
    g_sign := PySem.W.mg_of X G a4,
    F_letter := F5,
    b_letter := b5,
    g_letter := PySem.W.mg_of X G a5,
    F_letters := F6,
    b_letters := b6,
    g_letters := PySem.W.mg_of X G a6,
    F_thing := F7,
    b_thing := b7,
    g_thing := PySem.W.mg_of X G a7,
    F_lname := F8,
    b_lname := b8,
    g_lname := PySem.W.mg_of X G a8,
    F_right := F9,
    b_right := b9,
    g_right := PySem.W.mg_of X G a9,
    F_law := F10,
    b_law := b10,
    g_law := PySem.W.mg_of X G a10,
    m_abs := PySem.W.mg_none_of X G zabs,
    m_all := PySem.W.mg_none_of X G zall,
    m_bool := PySem.W.mg_none_of X G zbool,
    m_int := PySem.W.mg_none_of X G zint,
    m_isinstance := PySem.W.mg_none_of X G zisinstance,
    m_len := PySem.W.mg_none_of X G zlen,
    m_list := PySem.W.mg_none_of X G zlist,
    m_min := PySem.W.mg_none_of X G zmin,
    m_range := PySem.W.mg_none_of X G zrange,
    m_str := PySem.W.mg_none_of X G zstr,
    m_tuple := PySem.W.mg_none_of X G ztuple,
    c_DIGITS := PySem.W.mg_of X G eDIGITS,
    c_LETTERS := PySem.W.mg_of X G eLETTERS,
    c_MOST_CHARACTERS := PySem.W.mg_of X G eMOST_CHARACTERS,
    c_RESERVED := PySem.W.mg_of X G eRESERVED,
    q_RESERVED := fun H => .inr ⟨_, _, _, oRESERVED, rfl, rfl, (by rw [List.size_toArray, ← Paired.length wRESERVED]; decide), wRESERVED⟩,
    o_RESERVED := ⟨_, oRESERVED, rfl⟩ }
  exact ⟨_, fun s v => .of_eq rfl, fun base _ _ => ok_law T⟩
end K01
open PySem PySem.W PyProof.Rows
set_option maxHeartbeats 0 in
theorem PySem.Challenge.cw_unnamedlives_k01_names_holds : PySem.Challenge.rw_unnamedlives_k01_names.Holds := by
  w_on; o_law; k_head; (case hw => w_witness2)
  k_fill
  refine L2.walk_of (l := PySem.Challenge.rw_unnamedlives_k01_names) (n := 63) (k := 5) (x := "_law_script") (CX := fun _ => L2.CX0) (sp := fun w => K01.spLaw _) rfl (by decide) rfl ⟨rfl, by decide, by decide⟩ (fun w h Y => PySem.W.kIn_of Y) ?F (fun _ _ a ns hl _ hS => ⟨a, ns, rfl, hS, hl, fun _ => rfl⟩) (fun _ _ _ _ _ h => h)
  case F =>
    intro w mg fa h KX G hmg
    refine' K01.all_mk KX G hmg ?a0 ?l0 ?c0 ?k0 ?a1 ?l1 ?c1 ?k1 ?a2 ?l2 ?c2 ?k2 ?a3 ?l3 ?c3 ?k3 ?a4 ?l4 ?c4 ?k4 ?a5 ?l5 ?c5 ?k5 ?a6 ?l6 ?c6 ?k6 ?a7 ?l7 ?c7 ?k7 ?a8 ?l8 ?c8 ?k8 ?a9 ?l9 ?c9 ?k9 ?a10 ?l10 ?c10 ?k10 ?zabs ?zall ?zbool ?zint ?zisinstance ?zlen ?zlist ?zmin ?zrange ?zstr ?ztuple ?eDIGITS ?eLETTERS ?eMOST_CHARACTERS ?eRESERVED ?oRESERVED ?wRESERVED
    (case a0 => k_is)
    (case l0 => k_is)
    (case c0 => k_is)
    (case k0 => k_is)
    (case a1 => k_is)
    (case l1 => k_is)
    (case c1 => k_is)
    (case k1 => k_is)
    (case a2 => k_is)
    (case l2 => k_is)
    (case c2 => k_is)
    (case k2 => k_is)
    (case a3 => k_is)
    (case l3 => k_is)
    (case c3 => k_is)
    (case k3 => k_is)
    (case a4 => k_is)
    (case l4 => k_is)
    (case c4 => k_is)
    (case k4 => k_is)
    (case a5 => k_is)
    (case l5 => k_is)
    (case c5 => k_is)
    (case k5 => k_is)
    (case a6 => k_is)
    (case l6 => k_is)
    (case c6 => k_is)
    (case k6 => k_is)
    (case a7 => k_is)
    (case l7 => k_is)
    (case c7 => k_is)
    (case k7 => k_is)
    (case a8 => k_is)
    (case l8 => k_is)
    (case c8 => k_is)
    (case k8 => k_is)
    (case a9 => k_is)
    (case l9 => k_is)
    (case c9 => k_is)
    (case k9 => k_is)
    (case a10 => k_is)
    (case l10 => k_is)
    (case c10 => k_is)
    (case k10 => k_is)
    (case zabs => k_is)
    (case zall => k_is)
    (case zbool => k_is)
    (case zint => k_is)
    (case zisinstance => k_is)
    (case zlen => k_is)
    (case zlist => k_is)
    (case zmin => k_is)
    (case zrange => k_is)
    (case zstr => k_is)
    (case ztuple => k_is)
    (case eDIGITS => k_is)
    (case eLETTERS => k_is)
    (case eMOST_CHARACTERS => k_is)
    (case eRESERVED => k_is)
    (case oRESERVED => k_is)
    (case wRESERVED => exact UL.vals_of rfl)
