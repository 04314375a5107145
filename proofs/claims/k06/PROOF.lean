import PyProof.Rows.All
import Wide.All
import OpenK.AllK
import Wide.FinOn
import HandS.ForMost
import HandS.Walk
import HandS.Evl
import HandS.IsInst
import HandS.Exc
import HandS.TryOnly
import HandS.ExcOwn
import HandS.ExcInit
import HandS.ExcField
import HandS.WordsExc
import HandS.Defaults
import HandS.MakeKw
import HandS.MakeKwOnly
import HandS.Property
import KE.KExcIs
import HandS.ClsMeth
import HandS.Star
import KE.KSuper
import HandS.Nested
import PySem.Challenge.RW_unnamedlives_k06_errors
set_option Elab.async false
set_option linter.all false
set_option maxRecDepth 100000
/-! own: a list of draws as ONE unchanging thing of the abstract heap; small words -/
namespace UL
open PySem PySem.Spec PyProof.Rows L2 Evl TL

/-! ### draws -/
def Good (ns : List Int) : Prop := (∀ m ∈ ns, 0 ≤ m ∧ m < 1000003) ∧ ns.length ≤ 4000
def drObj (d : Addr) (h : Heap) : Prop := ∃ (ns : List Int) (its : List Value) (n : Nat), Good ns ∧ Vals (ns.map V.int) its ∧ h.get? d = some { cls := .type "list", data := .seq its.toArray n }
def DrO (d : Addr) : HO := .ext (drObj d)
theorem good_sz {ns : List Int} (g : Good ns) : (ns.map V.int).length ≤ sizeLine := by
  rw [List.length_map]
  exact Nat.le_trans g.2 (by decide)
section
variable {X : Cx} {pins : List (Addr × Obj)} {σ : L2.St} {H : Hp} {s : Shared} {d : Addr}
theorem inv_open (I : Inv X pins σ H s) (h : H d = some (DrO d)) : ∃ ns, Good ns ∧ Inv X pins σ (upd H d (.lst (ns.map V.int))) s := by
  obtain ⟨⟨ns, its, n, g, r, e⟩, _, _⟩ := I.hok d _ h
  exact ⟨ns, g, I.write (x := d) (e := d) (h' := s.heap) (t' := s.toks) (by rw [h]; trivial) (.inl rfl) (fun _ _ _ q => q) ⟨_, e⟩ ⟨good_sz g, its, n, r, e⟩⟩
theorem inv_close {ns : List Int} (I : Inv X pins σ H s) (h : H d = some (.lst (ns.map V.int))) (g : Good ns) : Inv X pins σ (upd H d (DrO d)) s := by
  obtain ⟨z, its, n, r, e⟩ := I.hok d _ h
  exact I.write (x := d) (e := d) (h' := s.heap) (t' := s.toks) (by rw [h]; trivial) (.inl rfl) (fun _ _ _ q => q) ⟨_, e⟩
    ⟨⟨ns, its, n, g, r, e⟩, ⟨_, e⟩, fun h1 h2 ⟨ns', its', n', g', r', e'⟩ k => ⟨ns', its', n', g', r', k _ e'⟩⟩
/-- the list of draws in slot i is opened ahead of the statements -/
def tOpen (i : Nat) (t : TS) : TS := fun D σ H => ∃ d, σ[i]? = some (some (.ref d)) ∧ H d = some (DrO d) ∧ ∀ ns, Good ns → t D σ (upd H d (.lst (ns.map V.int)))
theorem pss_open (i : Nat) {sts : List Stmt} {t : TS} (h : PSs X sts t) : PSs X sts (tOpen i t) := by
  refine ⟨fun pins s σ H D I q => ?_⟩
  obtain ⟨d, _, hd, k⟩ := q
  obtain ⟨ns, g, J⟩ := inv_open I hd
  exact h.run pins s σ _ D J (k ns g)
/-- .. and closed behind an expression -/
def tClose (t : TE) : TE := fun σ H Q => t σ H fun v H1 => ∃ d ns, H1 d = some (.lst (ns.map V.int)) ∧ Good ns ∧ Q v (upd H1 d (DrO d))
theorem pe_close {e : Expr} {t : TE} (h : PE X e t) : PE X e (tClose t) := by
  refine ⟨fun pins s σ H Q I q => ?_⟩
  refine thn (h.run pins s σ H _ I q) fun u s1 ⟨v, H1, I1, r, d, ns, hd, g, k⟩ => ?_
  exact ⟨v, _, inv_close I1 hd g, r, k⟩
end
theorem upd_back {H : Hp} {d : Addr} {o u : HO} (h : H d = some o) : upd (upd H d u) d o = H := by
  funext b
  unfold upd
  by_cases e : b = d
  · rw [if_pos e, e, h]
  · rw [if_neg e, if_neg e]
theorem upd_id {H : Hp} {d : Addr} {o : HO} (h : H d = some o) : upd H d o = H := by
  funext b
  unfold upd
  by_cases e : b = d
  · rw [if_pos e, e, h]
  · rw [if_neg e]
theorem same_upd {H : Hp} {p : Addr} {o : HO} (h : H p = none) : Same H (upd H p o) := fun b x e => by
  rw [upd_ne (ne_of_none e h)]
  exact e
theorem _root_.Evl.Ex.free' {H H' : Hp} {p : Addr} (e : Ex H H') (h : H' p = none) : H p = none := fresh_back e h
theorem good_tail {n : Int} {ns : List Int} (g : Good (n :: ns)) : 0 ≤ n ∧ n < 1000003 ∧ Good ns :=
  ⟨(g.1 n List.mem_cons_self).1, (g.1 n List.mem_cons_self).2, fun m hm => g.1 m (List.mem_cons_of_mem _ hm), Nat.le_trans (Nat.le_succ _) g.2⟩
theorem good_nil : Good [] := ⟨fun _ h => (nomatch h), by decide⟩
theorem good_add {ns : List Int} {n : Int} (g : ∀ m ∈ ns, 0 ≤ m ∧ m < 1000003) (h : 0 ≤ n ∧ n < 1000003) : ∀ m ∈ ns ++ [n], 0 ≤ m ∧ m < 1000003 := fun m hm => by
  rcases List.mem_append.mp hm with h1 | h1
  · exact g m h1
  · rw [List.mem_singleton.mp h1]
    exact h

/-! ### text * int -/
theorem op_mul_str {X : Cx} : OpR X (binaryOp .Mult) (fun x y H Q => ∃ (z : Str) (n : Int), x = .str z ∧ y = .int n ∧ MulOk z n ∧ Q (.str (Txt.mul z n)) H) := by
  intro pins s σ H x y v u Q I rx ry h
  obtain ⟨i, j, rfl, rfl, hz, q⟩ := h
  obtain ⟨t, rfl⟩ := rx
  obtain ⟨t', rfl⟩ := ry
  exact SB.mul hz (fun t' tk => ⟨.str (Txt.mul i j), H, I.tok _, ⟨_, rfl⟩, q⟩)
theorem mulOk_small {z : Str} {n : Int} (hz : z.length ≤ 64) (h0 : 0 ≤ n) (h1 : n ≤ 64) : MulOk z n := by
  refine ⟨?_, fun h2 _ => ?_, fun _ _ => ?_⟩
  · rw [decide_eq_false (by omega), decide_eq_false (by omega)]
    rfl
  · intro h
    have h3 : (64 : Int) ≤ (2 ^ 63 - 1) / n := (Int.le_ediv_iff_mul_le (by omega)).mpr (by omega)
    omega
  · unfold PySem.Builtin.Str.tooLong
    refine decide_eq_false ?_
    have h3 : z.length * n.toNat ≤ 64 * 64 := Nat.mul_le_mul hz (by omega)
    have h4 : (64 * 64 : Nat) ≤ sizeLine := by decide
    omega
theorem tl_reps (x : Array Nat) : ∀ (k : Nat) (a : Array Nat), ((List.replicate k x).foldl (· ++ ·) a).toList = a.toList ++ (List.replicate k x.toList).flatten
  | 0, a => by simp
  | k + 1, a => by
    rw [List.replicate_succ, List.foldl_cons, tl_reps x k (a ++ x), List.replicate_succ, List.flatten_cons, Array.toList_append, List.append_assoc]
theorem tl_mul (z : Str) (n : Int) : tl (Txt.mul z n) = (List.replicate n.toNat (tl z)).flatten := by
  unfold Txt.mul
  by_cases h1 : n < 1
  · rw [if_pos h1, show n.toNat = 0 by omega]
    rfl
  · rw [if_neg h1]
    by_cases h2 : (n == 1 || z.length == 0) = true
    · rw [if_pos h2]
      rcases Bool.or_eq_true _ _ ▸ h2 with h3 | h3
      · have : n = 1 := by simpa using h3
        subst this
        show tl z = (List.replicate 1 (tl z)).flatten
        simp
      · have h4 : (tl z) = [] := by
          have : z.length = 0 := by simpa using h3
          rw [len_tl] at this
          exact List.eq_nil_of_length_eq_zero this
        rw [h4]
        simp
    · rw [if_neg h2]
      show ((List.replicate n.toNat z.cps).foldl (· ++ ·) #[]).toList = _
      rw [tl_reps]
      rfl

theorem rel_of {x : V} {u : Value} (h : absV u = some x) : RelV x u := by
  cases u <;> first | (cases h; done) | (cases h; exact rfl) | (cases h; exact ⟨_, rfl⟩)
theorem vals_of : ∀ {xs : List V} {us : List Value}, us.map absV = xs.map some → Vals xs us
  | [], [], _ => .nil
  | [], _ :: _, h => (nomatch h)
  | _ :: _, [], h => (nomatch h)
  | x :: xs, u :: us, h => by
    rw [List.map_cons, List.map_cons] at h
    exact .cons (rel_of (List.cons.inj h).1) (vals_of (List.cons.inj h).2)
theorem dp_strs {K : PySem.W.Frag} {H : Hp} : ∀ zs : List Str, DpAll K H (zs.map V.str) (zs.map PyData.str)
  | [] => .nil
  | z :: r => .cons (.str z) (dp_strs r)
/-! ### loops -/
section
variable {D : Ends} {tb : TS} {j : Nat} {σ : L2.St} {H : Hp}
theorem forR1 {n : Int} (hn : -(2 ^ 62) ≤ n ∧ n < 2 ^ 62) (Pv : Nat → L2.St → Hp → Prop) (h0 : Pv 0 σ H)
    (hs : ∀ (i : Nat) σ' H', (i : Int) < n → Pv i σ' H' → tb { D with nx := Pv (i + 1), ct := Pv (i + 1), bk := D.nx } (σ'.set j (some (.int (i : Int)))) H') (hd : ∀ σ' H', Pv n.toNat σ' H' → D.nx σ' H') :
    -(2 ^ 62) ≤ n ∧ n < 2 ^ 62 ∧ ∃ W : Nat → Nat → L2.St → Hp → Prop, (∃ m, W 0 m σ H) ∧ ∀ i m σ H, W i m σ H →
      ((Itr 0 n.toNat).stop i H ∧ D.nx σ H) ∨ ((Itr 0 n.toNat).go i H ∧ ∃ N : L2.St → Hp → Prop, (∀ σ' H', N σ' H' → ∃ m', m' < m ∧ W (i + 1) m' σ' H') ∧ ∀ x H', (Itr 0 n.toNat).yld i H x H' → gName j x σ H' fun σ2 H2 => tb { D with nx := N, ct := N, bk := D.nx } σ2 H2) :=
  ⟨hn.1, hn.2, for_range (lo := 0) (n := n.toNat) Pv h0 (fun i σ' H' hi p => by
    have e0 : (0 : Int) + (i : Int) = (i : Int) := Int.zero_add _
    show tb { D with nx := Pv (i + 1), ct := Pv (i + 1), bk := D.nx } (σ'.set j (some (.int ((0 : Int) + (i : Int))))) H'
    rw [e0]
    exact hs i σ' H' (by omega) p) hd⟩
end
theorem seq0 (n : Nat) : seqIndex? 0 (n + 1) = some 0 := by
  unfold seqIndex?
  have h : (0 : Int) < ((n + 1 : Nat) : Int) := by omega
  have h2 : (0 ≤ (0 : Int) && decide ((0 : Int) < ((n + 1 : Nat) : Int))) = true := by
    rw [decide_eq_true h]
    rfl
  show (if (0 ≤ (0 : Int) && decide ((0 : Int) < ((n + 1 : Nat) : Int))) = true then some (0 : Int).toNat else none) = some 0
  rw [if_pos h2]
  rfl
theorem at_lt {α : Type} {xs : List α} {n : Int} (h0 : 0 ≤ n) (h1 : n < (xs.length : Int)) : ∃ c, atI xs n = some c := by
  obtain ⟨m, rfl⟩ := Int.eq_ofNat_of_zero_le h0
  have hm : m < xs.length := by omega
  exact ⟨xs[m], atI_nat (List.getElem?_eq_getElem hm)⟩
theorem at_in {α : Type} {xs : List α} {n : Int} (h0 : 0 ≤ n) (h1 : n < (xs.length : Int)) : ∃ c, atI xs n = some c ∧ c ∈ xs := by
  obtain ⟨m, rfl⟩ := Int.eq_ofNat_of_zero_le h0
  have hm : m < xs.length := by omega
  exact ⟨xs[m], atI_nat (List.getElem?_eq_getElem hm), List.getElem_mem hm⟩
theorem emod_in {a : Int} : 0 ≤ a % 1000003 ∧ a % 1000003 < 1000003 := ⟨Int.emod_nonneg _ (by decide), Int.emod_lt_of_pos _ (by decide)⟩
theorem int_get {ns : List Int} {i : Nat} (h : i < ns.length) : (ns.map V.int)[i]? = some (.int ns[i]) := by
  rw [List.getElem?_map, List.getElem?_eq_getElem h]
  rfl
/-! ### comprehensions over a text -/
theorem lc_str {z : Str} {f : Nat → V} {j : Nat} {te : TE} {vs : List Nat} {σ : L2.St} {H1 : Hp} {D : Addr} {Qd : Hp → Prop} (hz : z.length ≤ 100000) (hD : H1 D = none) (hw : ∀ x, wipe ((wipe σ vs).set j (some x)) vs = wipe σ vs)
    (he : ∀ (c : Nat) H', Ex H1 H' → ∀ Q : VK, Q (f c) H' → te ((wipe σ vs).set j (some (.str ⟨#[c]⟩))) H' Q) (hd : Qd (upd H1 D (.lst ((tl z).map f)))) :
    ∃ W : Nat → Nat → Hp → Prop, (∃ m, W 0 m (upd H1 D (.lst []))) ∧ ∀ i m H, W i m H →
      ((Its z).stop i H ∧ Qd H) ∨ ((Its z).go i H ∧ ∃ Nx : Hp → Prop, (∀ H', Nx H' → ∃ m', m' < m ∧ W (i + 1) m' H') ∧ ∀ x H', (Its z).yld i H x H' → gName j x (wipe σ vs) H' fun σ2 H2 => wipe σ2 vs = wipe σ vs ∧ tYes σ2 H2 fun b H3 =>
        if b = true then te σ2 H3 fun y H4 => ∃ acc, H4 D = some (.lst acc) ∧ acc.length < sizeLine ∧ Nx (upd H4 D (.lst (acc ++ [y]))) else Nx H3) := by
  refine lc_it walk_str (fun i H' => H' = upd H1 D (.lst (((tl z).take i).map f))) rfl (fun _ _ _ _ => trivial) ?_ ?_
  · rintro i x H H' hi rfl ⟨rfl, c, hc, rfl⟩
    refine ⟨hw _, ?_⟩
    show te _ _ _
    refine he c _ (Ex.new hD) _ ?_
    have hc' : (tl z)[i]? = some c := by rw [← hc]; exact Array.getElem?_toList
    refine ⟨_, upd_same, ?_, ?_⟩
    · rw [List.length_map, List.length_take]
      exact sz_lt (by have := len_tl z; have hs : i < z.length := hi; omega)
    · rw [upd_upd, List.take_add_one, hc', List.map_append]
      rfl
  · rintro H rfl
    have e : (tl z).take z.cps.size = tl z := List.take_of_length_le (by rw [← len_tl]; exact Nat.le_refl _)
    rw [e]
    exact hd
theorem for_str {z : Str} {j : Nat} {tb : TS} {D : Ends} {σ : L2.St} {H : Hp} (Pv : Nat → L2.St → Hp → Prop) (h0 : Pv 0 σ H)
    (hs : ∀ i c σ' H', (tl z)[i]? = some c → Pv i σ' H' → tb { D with nx := Pv (i + 1), ct := Pv (i + 1), bk := D.nx } (σ'.set j (some (.str ⟨#[c]⟩))) H') (hd : ∀ σ' H', Pv (tl z).length σ' H' → D.nx σ' H') :
    ∃ W : Nat → Nat → L2.St → Hp → Prop, (∃ m, W 0 m σ H) ∧ ∀ i m σ H, W i m σ H →
      ((Its z).stop i H ∧ D.nx σ H) ∨ ((Its z).go i H ∧ ∃ N : L2.St → Hp → Prop, (∀ σ' H', N σ' H' → ∃ m', m' < m ∧ W (i + 1) m' σ' H') ∧ ∀ x H', (Its z).yld i H x H' → gName j x σ H' fun σ2 H2 => tb { D with nx := N, ct := N, bk := D.nx } σ2 H2) := by
  refine for_it walk_str Pv h0 (fun _ _ _ _ _ => trivial) ?_ ?_
  · rintro i x σ' H1 H2 hi p ⟨rfl, c, hc, rfl⟩
    exact hs i c σ' _ (by rw [← hc]; exact Array.getElem?_toList) p
  · intro σ' H' p
    exact hd σ' H' p
/-- [te for _ in range(n)]: things of a kind that stays true, also when a list is written -/
theorem lc_n {G : Hp → V → Prop} {n : Int} {j : Nat} {te : TE} {vs : List Nat} {σ : L2.St} {H1 : Hp} {D : Addr} {Qd : Hp → Prop} (hn : 0 ≤ n ∧ n ≤ 100000) (hD : H1 D = none) (hG : ∀ H H' v, Ex H H' → G H v → G H' v)
    (hG2 : ∀ H xs ys v, H D = some (.lst xs) → G H v → G (upd H D (.lst ys)) v) (hw : ∀ x, wipe ((wipe σ vs).set j (some x)) vs = wipe σ vs)
    (he : ∀ (i : Nat) H', (i : Int) < n → Ex H1 H' → ∀ Q : VK, (∀ v H2, Ex H' H2 → G H2 v → Q v H2) → te ((wipe σ vs).set j (some (.int (i : Int)))) H' Q) (hd : ∀ H' xs, Ex H1 H' → H' D = some (.lst xs) → (xs.length : Int) = n → (∀ x ∈ xs, G H' x) → Qd H') :
    ∃ W : Nat → Nat → Hp → Prop, (∃ m, W 0 m (upd H1 D (.lst []))) ∧ ∀ i m H, W i m H →
      ((Itr 0 n.toNat).stop i H ∧ Qd H) ∨ ((Itr 0 n.toNat).go i H ∧ ∃ Nx : Hp → Prop, (∀ H', Nx H' → ∃ m', m' < m ∧ W (i + 1) m' H') ∧ ∀ x H', (Itr 0 n.toNat).yld i H x H' → gName j x (wipe σ vs) H' fun σ2 H2 => wipe σ2 vs = wipe σ vs ∧ tYes σ2 H2 fun b H3 =>
        if b = true then te σ2 H3 fun y H4 => ∃ acc, H4 D = some (.lst acc) ∧ acc.length < sizeLine ∧ Nx (upd H4 D (.lst (acc ++ [y]))) else Nx H3) := by
  refine lc_range (lo := 0) (n := n.toNat) (fun i H' => ∃ xs : List V, Ex H1 H' ∧ H' D = some (.lst xs) ∧ xs.length = i ∧ ∀ x ∈ xs, G H' x) ⟨[], Ex.new hD, upd_same, rfl, fun _ h => (nomatch h)⟩ ?_ ?_
  · rintro i H' hi ⟨xs, e1, hL, hl, hx⟩
    have e0 : (0 : Int) + (i : Int) = (i : Int) := Int.zero_add _
    show wipe ((wipe σ vs).set j (some (.int ((0 : Int) + (i : Int))))) vs = wipe σ vs ∧ _
    refine ⟨hw _, ?_⟩
    show te ((wipe σ vs).set j (some (.int ((0 : Int) + (i : Int))))) _ _
    rw [e0]
    refine he i H' (by omega) e1 _ fun v H2 e2 g => ⟨xs, e2 _ _ hL, sz_lt (by omega), xs ++ [v], (e1.trans e2).mut hD, upd_same, by rw [List.length_append, hl]; rfl, fun x hm => ?_⟩
    rcases List.mem_append.mp hm with h | h
    · exact hG2 _ _ _ _ (e2 _ _ hL) (hG _ _ _ e2 (hx x h))
    · rw [List.mem_singleton.mp h]
      exact hG2 _ _ _ _ (e2 _ _ hL) g
  · rintro H' ⟨xs, e1, hL, hl, hx⟩
    exact hd H' xs e1 hL (by omega) hx
end UL

set_option Elab.async false
set_option linter.all false
set_option maxRecDepth 100000
/-! own: one of two readings; objects made with keywords where an error may leave; own ==; isinstance of an error that has a dict -/
namespace UL
open PySem PySem.Spec PyProof.Rows L2 Evl TL

/-! ### one of two readings -/
section
variable {X : Cx} {e : Expr} {t1 t2 : TE} {op : CmpOp} {tg iter : Expr} {w1 w2 : TI}
def tAlt (t1 t2 : TE) : TE := fun σ H Q => t1 σ H Q ∨ t2 σ H Q
theorem pe_alt (h1 : PE X e t1) (h2 : PE X e t2) : PE X e (tAlt t1 t2) :=
  ⟨fun pins s σ H Q I h => h.elim (fun q => h1.run pins s σ H Q I q) (fun q => h2.run pins s σ H Q I q)⟩
def iAlt (w1 w2 : TI) : TI := fun σ H R => w1 σ H R ∨ w2 σ H R
theorem pi_alt (h1 : PI X tg iter w1) (h2 : PI X tg iter w2) : PI X tg iter (iAlt w1 w2) :=
  ⟨fun pins s σ H R I h => h.elim (fun q => h1.run pins s σ H R I q) (fun q => h2.run pins s σ H R I q)⟩
def rAlt (r1 r2 : R2) : R2 := fun x y H Q => r1 x y H Q ∨ r2 x y H Q
theorem op_alt {f : Value → Value → Sem Value} {r1 r2 : R2} (h1 : OpR X f r1) (h2 : OpR X f r2) : OpR X f (rAlt r1 r2) :=
  fun pins s σ H x y v u Q I rx ry h => h.elim (fun q => h1 pins s σ H x y v u Q I rx ry q) (fun q => h2 pins s σ H x y v u Q I rx ry q)
def cAlt (r1 r2 : List V → Hp → VK → Prop) : List V → Hp → VK → Prop := fun xs H Q => r1 xs H Q ∨ r2 xs H Q
theorem call_alt {f : Value} {r1 r2 : List V → Hp → VK → Prop} (h1 : CallR X f r1) (h2 : CallR X f r2) : CallR X f (cAlt r1 r2) :=
  fun pins s σ H xs us Q I r h => h.elim (fun q => h1 pins s σ H xs us Q I r q) (fun q => h2 pins s σ H xs us Q I r q)
end

/-! ### C(e, .., k = v, ..) where what is raised is wished for at the caller's slots -/
def tMakeS (C : Addr) (n m : Nat) (sp : Sp) (gV : List V → List V → List V) (E : L2.St → XK) (t tk : TA) : TE := fun σ H Q => t σ H fun vs H1 => tk σ H1 fun zs H2 => vs.length = n ∧ zs.length = m ∧
  ∀ x dx, H2 x = none → H2 dx = none → dx ≠ x → sp (gV (.ref x :: vs) zs) (upd (upd H2 dx (.own x)) x (.ins C dx [])) (fun v H3 => v = .non ∧ Q (.ref x) H3) (E σ)
section
variable {X : Cx} {CX : CXT} {k n : Nat} {f C : Addr} {fd : FuncData} {ps ks : List Str} {sp : Sp} {E : L2.St → XK} {x : Str} {p pos : Pos} {e : Expr} {es : List Expr} {kws : List Keyword} {t tk : TA} {g : List Value → List Value → List Value} {gV : List V → List V → List V}
theorem mk_run {pins : List (Addr × Obj)} {σ : L2.St} {H : Hp} {s : Shared} {Q : VK} {us ws : List Value} {vs zs : List V} (M : Mk X.K C f) (F : FnOk X.prog X.w X.K X.mg X.base CX k f fd ps sp) (hr : Room (k + 1) X.A)
    (hb : KBn X.K fd ps (n + 1) ks g gV) (hx : PassesAt CX X σ (E σ)) (I : Inv X pins σ H s) (r : Vals vs us) (rz : Vals zs ws) (l1 : vs.length = n) (l2 : zs.length = ks.length)
    (h : ∀ x dx, H x = none → H dx = none → dx ≠ x → sp (gV (.ref x :: vs) zs) (upd (upd H dx (.own x)) x (.ins C dx [])) (fun v H2 => v = .non ∧ Q (.ref x) H2) (E σ)) :
    wpAny (model X.prog X.w) X.A (call (.ref C) us (ks.zip ws)) (EP X pins σ Q) X.xe s := by
  let sz := s.heap.objs.size
  have J := Inv.made (C := C) I
  have q0 := h (sz + 1) sz (I.hok.fresh (Nat.le_succ _)) (I.hok.fresh (Nat.le_refl _)) (Nat.ne_of_lt (Nat.lt_succ_self _))
  have ra : Vals (V.ref (sz + 1) :: vs) (Value.ref (sz + 1) :: us) := .cons rfl r
  have na : (Value.ref (sz + 1) :: us).length = n + 1 := by rw [← ra.length, List.length_cons, l1]
  have run := F.run _ X.stack _ _ ⟨Value.ref (sz + 1) :: us, ks.zip ws⟩ (g (Value.ref (sz + 1) :: us) ws) _ _ (E σ) (hr.make C us (ks.zip ws)) (J.env0.make C us (ks.zip ws)) (hb.to _ (Value.ref (sz + 1) :: us) ws J.kIn na (rz.length.symm.trans l2)) (hb.rel ra rz) q0
  refine wpAny_call (make_map (f := f) I.kIn M.makes M.init (beq_iff_eq.mp M.fn) (codeAny_mono run fun rr s' z => ?_))
  match rr, z with
  | .error er, z => exact hx pins _ _ er s' J z
  | .ok (.ret u), z =>
    obtain ⟨v, H', J', rv, ev, q⟩ := J.after z
    subst ev
    exact ⟨rv, ⟨V.ref (sz + 1), H', J', rfl, q⟩⟩
  | .ok .next, z => exact False.elim z
  | .ok .brk, z => exact False.elim z
  | .ok .cont, z => exact False.elim z
theorem pe_makeS (M : Mk X.K C f) (F : FnOk X.prog X.w X.K X.mg X.base CX k f fd ps sp) (hr : Room (k + 1) X.A) (hg : Gl X x) (hm : X.mg x = some (.ref C)) (hb : KBn X.K fd ps (n + 1) ks g gV) (hx : ∀ σ, PassesAt CX X σ (E σ)) (ha : PA X (e :: es) t) (hkw : PK X kws tk)
    (a1 : (backToKw pos (keywordEach kws X.env)).all (·.1.isSome) = true := by rfl) (a2 : (backToKw pos (keywordEach kws X.env)).filterMap (·.1) = ks := by rfl) (a3 : (x == ("__debug__" : Str)) = false := by decide)
    (a4 : starEach (e :: es) X.env = (false, eval e X.env) :: starEach es X.env := by rfl) (a5 : ((backTo pos (starEach (e :: es) X.env)).any (·.1) || (backToKw pos (keywordEach kws X.env)).any (·.1.isNone)) = false := by rfl) :
    PE X (.Call (.Name x p) (e :: es) kws pos) (tMakeS C n ks.length sp gV E t tk) := by
  refine ⟨fun pins s σ H Q I h => wpAny_Call_Name_kw (ld_glob I hg hm ?_ a3)⟩
  refine PySem.W.callWith_KW (h₀ := X.base) I.ok.mod.kin M.kp a1 (thn (ha.run pos pins s σ H _ I h) fun us s1 hh => ?_) a5 a4
  obtain ⟨vs, H1, I1, r, q⟩ := hh
  refine thn (hkw.run pos pins s1 σ H1 _ I1 q) fun ws s2 hh => ?_
  obtain ⟨zs, H2, I2, rz, l1, l2, q2⟩ := hh
  exact ⟨I2.kIn, by rw [a2]; exact mk_run M F hr hb (hx σ) I2 r rz l1 l2 q2⟩
end
/-- what leaves a call is wished for wherever the slots stand -/
theorem passAny {X : Cx} {W : WX} (tk : Takes X W) : ∀ σ, PassesAt (L2.CX X.prog X.w) X σ (WE W σ) := fun σ => passAt tk σ
/-- .. in a def that lets it out: the wish E is the caller's -/
theorem passOut {X : Cx} {E : XK} (tk : Takes X fun cls d _ H => E cls d H) : ∀ σ, PassesAt (L2.CX X.prog X.w) X σ E := fun σ => passAt tk σ

/-! ### own == -/
/-- what may stand on the right of an own ==: of its class, or of a type beside it -/
def RSide (K : PySem.W.Frag) (C : Addr) (y : V) (H : Hp) : Prop := (∃ b dy gs, y = .ref b ∧ H b = some (.ins C dy gs)) ∨ (∃ z, y = .str z ∧ PySem.W.subIn K (.type "str") (.ref C) = some false) ∨ ∃ b ys, y = .ref b ∧ H b = some (.tup ys) ∧ PySem.W.subIn K (.type "tuple") (.ref C) = some false
def rOwnEq (K : PySem.W.Frag) (C : Addr) (sp : Sp) (E : XK) : R2 := fun x y H Q => ∃ a dx fs, x = .ref a ∧ H a = some (.ins C dx fs) ∧ RSide K C y H ∧ sp [.ref a, y] H (fun v H' => (∃ b, v = .bl b) ∧ Q v H') E
section
variable {X : Cx} {CX : CXT} {k : Nat} {f C : Addr} {fd : FuncData} {ps : List Str} {sp : Sp} {E : XK}
theorem op_ownEq (F : FnOk X.prog X.w X.K X.mg X.base CX k f fd ps sp) (hr : Room k X.A) (hs : PySem.W.findIn X.K (.ref C) "__eq__" = some (some (.ref f))) (hf : PySem.W.isFn X.K (.ref f) = true) (hb : L2.Binds X.K fd ps []) (hx : Passes CX X E) :
    OpR X (compareOp .Eq) (rOwnEq X.K C sp E) := by
  intro pins s σ H x y v u Q I rx ry h
  obtain ⟨a, dx, fs, rfl, ha, hy, q⟩ := h
  cases rx
  obtain ⟨mA, J, _⟩ := ins_get I.hok ha
  obtain ⟨od, J, _⟩ := J.look
  obtain ⟨m, hF⟩ := I.fr
  have side : ∃ tb, PySem.W.Looks (model X.prog X.w) s.heap (typeOf u) tb ∧ PySem.W.notFirst X.K C tb = true := by
    rcases hy with ⟨b, dy, gs, rfl, hb2⟩ | ⟨z, rfl, hn⟩ | ⟨b, ys, rfl, hb2, hn⟩
    · cases ry
      obtain ⟨mB, J', _⟩ := ins_get I.hok hb2
      obtain ⟨od', J', _⟩ := J'.look
      exact ⟨_, J'.type, by simp [PySem.W.notFirst]⟩
    · obtain ⟨t, rfl⟩ := ry
      exact ⟨.type "str", .now, by simp [PySem.W.notFirst, hn]⟩
    · cases ry
      obtain ⟨z, its, r, o, hg, hc, n, hd⟩ := I.hok b _ hb2
      exact ⟨.type "tuple", hc ▸ (PySem.W.Looks.ld hg).andThen .now, by simp [PySem.W.notFirst, hn]⟩
  obtain ⟨tb, ty, nf⟩ := side
  show wpAny _ _ (richCompare .Eq (.ref a) u) _ _ _
  refine PySem.W.cmp_K (op := .Eq) (tb := tb) hr.units0 hF I.ok.mod.kin J ty nf hs hf ?_
  have r2 : Vals [V.ref a, y] [Value.ref a, u] := .cons rfl (.cons ry .nil)
  have hl : [Value.ref a, u].length = ps.length := by rw [← r2.length]; exact F.len _ _ _ _ q
  have bd := hb s [Value.ref a, u] I.kIn (by rw [List.append_nil]; exact hl)
  rw [List.append_nil] at bd
  refine wpAny_call (codeAny_mono (F.run X.A X.stack s H ⟨[.ref a, u], []⟩ [.ref a, u] [.ref a, y] _ E hr I.env0 bd r2 q) fun rr s' z => ?_)
  match rr, z with
  | .error er, z => exact hx pins σ H s er s' I z
  | .ok (.ret w), z =>
    obtain ⟨v, H', I', rv, ⟨b, rfl⟩, q'⟩ := I.after z
    cases rv
    exact ⟨V.bl b, H', I', rfl, q'⟩
  | .ok .next, z => exact False.elim z
  | .ok .brk, z => exact False.elim z
  | .ok .cont, z => exact False.elim z
end

/-! ### isinstance of a caught error that has a dict -/
def rIsX (K : PySem.W.Frag) (D a : Addr) (cls : Value) (d : Option Addr) : List V → Hp → VK → Prop := fun xs H Q => ∃ (c : V) (cv : Value) (b : Bool) (dd : Addr) (fs : List (Str × V)), xs = [.ref a, c] ∧ cls = .ref D ∧ (∀ u, RelV c u → u = cv) ∧ d = some dd ∧ H dd = some (.xd fs) ∧ PySem.W.kitOne K (.ref D) cv = some b ∧ Q (.bl b) H
structure ExI (K : PySem.W.Frag) (D : Addr) : Prop where
  c1 : (PySem.W.clsIn K D).isSome = true
  c2 : PySem.W.findIn K (.ref D) "__getattribute__" = some (some (.builtin "BaseException.__getattribute__"))
  c3 : PySem.W.findIn K (.ref D) "__getattr__" = some none
  c4 : PySem.W.subIn K (.ref D) (.type "BaseException") = some true
  c5 : PySem.W.findIn K (.ref D) "__class__" = some (some (.builtin "object.__class__"))
  c6 : PySem.W.specialIn K (.builtin "object.__class__") "__get__" = some (some (.builtin "getset_descriptor.__get__"))
  c7 : PySem.W.takesIn K (.builtin "object.__class__") = some true
  c8 : PySem.W.mroIn K D (.type "object") = some true
theorem call_isX {X : Cx} {a D : Addr} {cls : Value} {d : Option Addr} {oe : Obj} {pn : List (Addr × Obj)} (T : ExI X.K D) (hz : Zc cls d oe) (hf : ∃ vs, oe.data = .fields vs) : CallR (X.suite a ((a, oe) :: pn)) (.builtin "isinstance") (rIsX X.K D a cls d) := by
  intro pins s σ H xs us Q I r h
  obtain ⟨c, cv, b, dd, fs, rfl, rfl, hcv, rfl, hd, ek, q⟩ := h
  obtain ⟨u1, w1, e1, r1, rr1⟩ : ∃ u1 w1, us = [u1, w1] ∧ RelV (.ref a) u1 ∧ RelV c w1 := by
    cases r with
    | cons q1 q2 =>
      cases q2 with
      | cons q3 q4 =>
        cases q4
        exact ⟨_, _, rfl, q1, q3⟩
  subst e1
  cases r1
  have e2 := hcv _ rr1
  subst e2
  obtain ⟨hget, _⟩ := I.pin (a, oe) (List.mem_append.mpr (.inl List.mem_cons_self))
  obtain ⟨vs, hv⟩ := hf
  have hx : ObjOk X.prog X.w H s.heap dd (.xd fs) := I.hok dd _ hd
  obtain ⟨mA, hns, _⟩ := hx
  obtain ⟨od, ho, _⟩ := lookIn_ns hns
  have J : PySem.W.InstAt s.heap a oe D (some od) := ⟨hget, hz.1, by unfold PySem.W.notCls; rw [hv] <;> rfl, by rw [hz.2]; exact ho⟩
  exact PySem.W.kia_one (PySem.W.kitx_exc T.c1 T.c2 T.c3 T.c4 T.c5 T.c6 T.c7 T.c8) I.kIn J ek (fun z => nomatch z) fun tk => ⟨.bl b, H, I.kept (t' := tk) fun _ _ z => z, rfl, q⟩
/-! ### what the written part says of a class -/
structure TyF (K : PySem.W.Frag) (C : Addr) : Prop where
  ha : PySem.W.findIn K (.ref C) "__class__" = some (some (.builtin "object.__class__"))
  hn : PySem.W.specialIn K (.builtin "object.__class__") "__get__" = some (some (.builtin "getset_descriptor.__get__"))
  ht : PySem.W.takesIn K (.builtin "object.__class__") = some true
  hm : PySem.W.mroIn K C (.type "object") = some true
theorem tyx_ins {K : PySem.W.Frag} {H : Hp} {a C dx : Addr} {fs : List (Str × V)} (e : H a = some (.ins C dx fs)) (c : Cls K C) (t : TyF K C) : TyX K H (.ref a) (.ref C) := .base (.ins e c t.ha t.hn t.ht t.hm)
structure ExF (K : PySem.W.Frag) (C I : Addr) : Prop where
  ox : OexC K C
  ii : PySem.W.findIn K (.ref C) "__init__" = some (some (.ref I))
  nw : PySem.W.findIn K (.ref C) "what" = some none
  xf : XfC K C

/-! ### errors that keep what they are made with -/
/-- the promise of the base class's __init__: self.what = what -/
def spWhat (K : PySem.W.Frag) : Sp := fun vs H Q _ => ∃ (a C : Addr) (v : V), vs = [.ref a, v] ∧ flatV v = true ∧ H a = some (exo a C none) ∧ OexC K C ∧ PySem.W.findIn K (.ref C) "what" = some none ∧
  ∀ dx, H dx = none → dx ≠ a → Q .non (upd (upd H dx (exd dx [("what", v)])) a (exo a C (some dx)))
theorem raise_what {K : PySem.W.Frag} {C I : Addr} {H : Hp} {v : V} {Q : XK} (F : ExF K C I) (hv : flatV v = true) (k : ∀ d H', Ex H H' → H' d = some (.xd [("what", v)]) → Q (.ref C) (some d) H') :
    ∀ a, H a = none → spWhat K [.ref a, v] (upd H a (exo a C none)) (fun u H2 => u = .non ∧ ∃ (d : Addr) (fs : List (Str × V)), H2 a = some (exo a C (some d)) ∧ H2 d = some (exd d fs) ∧ H d = none ∧ Q (.ref C) (some d) (upd (L2.del H2 a) d (.xd fs))) (fun _ _ _ => False) := by
  intro a ha
  refine ⟨a, C, v, rfl, hv, upd_same, F.ox, F.nw, fun dx hd hne => ⟨rfl, dx, [("what", v)], upd_same, ?_, ?_, ?_⟩⟩
  · rw [upd_ne hne, upd_same]
  · rw [upd_ne hne] at hd
    exact hd
  · have hd0 : H dx = none := by
      rw [upd_ne hne] at hd
      exact hd
    refine k dx _ (fun b o hb => ?_) upd_same
    have b1 : b ≠ a := ne_of_none hb ha
    have b2 : b ≠ dx := ne_of_none hb hd0
    rw [upd_ne b2]
    show (if b = a then none else _) = _
    rw [if_neg b1, upd_ne b1, upd_ne b2, upd_ne b1]
    exact hb
theorem flat_ty {K : PySem.W.Frag} {H : Hp} {v : V} (h : flatV v = true) : ∃ t, TyX K H v t ∧ PySem.W.kitOne K t (.type "list") = some false ∧ PySem.W.kitOne K t (.type "tuple") = some false ∧ PySem.W.kitOne K t (.type "dict") = some false := by
  cases v with
  | non => exact ⟨_, .base .non, kit_ty (r := false) (by decide +kernel), kit_ty (r := false) (by decide +kernel), kit_ty (r := false) (by decide +kernel)⟩
  | bl b => exact ⟨_, .base (.bl b), kit_ty (r := false) (by decide +kernel), kit_ty (r := false) (by decide +kernel), kit_ty (r := false) (by decide +kernel)⟩
  | int i => exact ⟨_, .base (.int i), kit_ty (r := false) (by decide +kernel), kit_ty (r := false) (by decide +kernel), kit_ty (r := false) (by decide +kernel)⟩
  | str z => exact ⟨_, .base (.str z), kit_ty (r := false) (by decide +kernel), kit_ty (r := false) (by decide +kernel), kit_ty (r := false) (by decide +kernel)⟩
  | _ => cases h

/-! ### sequences: a list or a tuple -/
section
variable {K : PySem.W.Frag} {H H' : Hp} {v : V} {xs : List V}
def SeqV (K : PySem.W.Frag) (H : Hp) (v : V) (xs : List V) : Prop := ∃ a, v = .ref a ∧ (H a = some (.lst xs) ∨ H a = some (.tup xs) ∨ (SqT K H a xs ∧ ∃ o, K.lookup a = some o ∧ o.cls = .type "tuple"))
theorem SeqV.mono (e : Ex H H') (h : SeqV K H v xs) : SeqV K H' v xs := by
  obtain ⟨a, rfl, h | h | ⟨h, o⟩⟩ := h
  · exact ⟨a, rfl, .inl (e _ _ h)⟩
  · exact ⟨a, rfl, .inr (.inl (e _ _ h))⟩
  · exact ⟨a, rfl, .inr (.inr ⟨ex_t e h, o⟩)⟩
theorem SeqV.ty (h : SeqV K H v xs) : ∃ t, TyX K H v t ∧ PySem.W.kitAny K t [.type "list", .type "tuple"] = some true := by
  obtain ⟨a, rfl, h | h | ⟨_, o, ho, hc⟩⟩ := h
  · exact ⟨_, .base (.lst h), rfl⟩
  · exact ⟨_, .base (.tup h), rfl⟩
  · exact ⟨_, .kTuple ho hc, rfl⟩
theorem SeqV.two (h : SeqV K H v xs) : ∃ a, v = .ref a ∧ (SqL K H a xs ∨ SqT K H a xs) := by
  obtain ⟨a, rfl, h | h | ⟨h, o⟩⟩ := h
  · exact ⟨a, rfl, .inl (SqL.of h)⟩
  · exact ⟨a, rfl, .inr (SqT.of h)⟩
  · exact ⟨a, rfl, .inr h⟩
def NSeq (H : Hp) (v : V) : Prop := v = .non ∨ (∃ b, v = .bl b) ∨ (∃ i, v = .int i) ∨ (∃ z, v = .str z) ∨ ∃ a kvs, v = .ref a ∧ H a = some (.dK kvs)
theorem NSeq.mono (e : Ex H H') (h : NSeq H v) : NSeq H' v := by
  rcases h with h | h | h | h | ⟨a, kvs, h, h1⟩
  · exact .inl h
  · exact .inr (.inl h)
  · exact .inr (.inr (.inl h))
  · exact .inr (.inr (.inr (.inl h)))
  · exact .inr (.inr (.inr (.inr ⟨a, kvs, h, e _ _ h1⟩)))
theorem NSeq.ty (h : NSeq H v) : ∃ t, TyX K H v t ∧ PySem.W.kitAny K t [.type "list", .type "tuple"] = some false := by
  rcases h with rfl | ⟨b, rfl⟩ | ⟨i, rfl⟩ | ⟨z, rfl⟩ | ⟨a, kvs, rfl, h⟩
  · exact ⟨_, .base .non, rfl⟩
  · exact ⟨_, .base (.bl b), rfl⟩
  · exact ⟨_, .base (.int i), rfl⟩
  · exact ⟨_, .base (.str z), rfl⟩
  · exact ⟨_, .base (.dK h), rfl⟩
theorem for_seq {a : Addr} {tl : TE} {g : TG} {tb : TS} {D : Ends} {σ : L2.St} (htl : ∀ Q : VK, Q (.ref a) H → tl σ H Q) (hx : SqL K H a xs ∨ SqT K H a xs) (Pv : Nat → L2.St → Hp → Prop) (h0 : Pv 0 σ H) (stay : ∀ i σ' H', Pv i σ' H' → Ex H H')
    (hs : ∀ i x σ' H', xs[i]? = some x → Pv i σ' H' → g x σ' H' fun σ2 H2 => tb { D with nx := Pv (i + 1), ct := Pv (i + 1), bk := D.nx } σ2 H2) (hd : ∀ σ' H', Pv xs.length σ' H' → D.nx σ' H') : tFor (iAlt (iList K tl) (iTup K tl)) g tb D σ H := by
  rcases hx with hx | hx
  · exact .inl (htl _ ⟨a, rfl, ⟨_, hx⟩, for_list Pv h0 (fun i σ' H' _ p => ex_l (stay i σ' H' p) hx) hs hd⟩)
  · exact .inr (htl _ ⟨a, rfl, ⟨_, hx⟩, for_tup Pv h0 (fun i σ' H' _ p => ex_t (stay i σ' H' p) hx) hs hd⟩)
end

theorem del_at {H : Hp} {x b : Addr} {o : HO} (h : H b = some o) (n : b ≠ x) : L2.del H x b = some o := by
  show (if b = x then none else H b) = _
  rw [if_neg n]
  exact h
theorem sqT_del {K : PySem.W.Frag} {H : Hp} {x a C dx : Addr} {fs : List (Str × V)} {xs : List V} (hx : H x = some (.ins C dx fs)) (h : SqT K H a xs) : SqT K (L2.del H x) a xs := by
  rcases h with (h | ⟨o, h⟩) | h
  · exact .inl (.inl (del_at h (ne_of h hx (by intro z; cases z))))
  · exact .inl (.inr ⟨o, del_at h (ne_of h hx (by intro z; cases z))⟩)
  · exact .inr h
/-- all but the object at x stands -/
theorem ex_del {H H1 H' : Hp} {x : Addr} (e : Ex H H1) (k : ∀ b o, b ≠ x → H1 b = some o → H' b = some o) : Ex (L2.del H x) H' := fun b o hb => by
  by_cases n : b = x
  · rw [show L2.del H x b = none from if_pos n] at hb
    cases hb
  · rw [show L2.del H x b = H b from if_neg n] at hb
    exact k b o n (e b o hb)

def rLen (K : PySem.W.Frag) : List V → Hp → VK → Prop := fun xs H Q => ∃ p ys, xs = [.ref p] ∧ (SqL K H p ys ∨ SqT K H p ys) ∧ Q (.int ys.length) H
theorem cutV_mem {xs : List V} {lo hi : Option Int} : (∀ x ∈ cutV xs lo hi, x ∈ xs) ∧ (cutV xs lo hi).length ≤ xs.length := by
  unfold cutV
  refine ⟨fun x hx => List.mem_of_mem_drop (List.mem_of_mem_take hx), ?_⟩
  rw [List.length_take, List.length_drop]
  omega

theorem made_in {H : Hp} {x dx C : Addr} (hx : H x = none) (hd : H dx = none) : Ex H (upd (upd H dx (.own x)) x (.ins C dx [])) := fun b o hb => by
  rw [upd_ne (ne_of_none hb hx), upd_ne (ne_of_none hb hd)]
  exact hb
theorem made_ex {H H' : Hp} {x dx C : Addr} (hx : H x = none) (hd : H dx = none) (e : Ex (L2.del (upd (upd H dx (.own x)) x (.ins C dx [])) x) H') : Ex H H' := fun b o hb =>
  e b o (del_at (made_in hx hd b o hb) (ne_of_none hb hx))
theorem sqT_ty {K : PySem.W.Frag} {H : Hp} {t : Addr} {xs : List V} (h : SqT K H t xs) : TyX K H (.ref t) (.type "tuple") := by
  rcases h with (h | ⟨o, h⟩) | ⟨o, its, n, ho, hc, _⟩
  · exact .base (.tup h)
  · exact .fTuple h
  · exact .kTuple ho hc

theorem SeqV.isl {K : PySem.W.Frag} {H : Hp} {v : V} {xs : List V} (h : SeqV K H v xs) : (∃ a, v = .ref a ∧ H a = some (.lst xs) ∧ TyX K H v (.type "list")) ∨ (∃ a, v = .ref a ∧ SqT K H a xs ∧ TyX K H v (.type "tuple")) := by
  obtain ⟨a, rfl, h | h | ⟨h, o, ho, hc⟩⟩ := h
  · exact .inl ⟨a, rfl, h, .base (.lst h)⟩
  · exact .inr ⟨a, rfl, SqT.of h, .base (.tup h)⟩
  · exact .inr ⟨a, rfl, h, .kTuple ho hc⟩

theorem cut_one (xs : List V) : cutV xs (some 1) none = xs.drop 1 := by
  unfold cutV
  rw [show HT.sIx xs.length 0 (some 1) = min 1 xs.length from HT.sIx_nat xs.length 0 1, HT.sIx_none]
  cases xs with
  | nil => rfl
  | cons x r =>
    rw [show min 1 (x :: r).length = 1 by rw [List.length_cons]; omega]
    exact List.take_of_length_le (by rw [List.length_drop]; omega)

section
variable {K : PySem.W.Frag} {C D : Addr} {T : String} {b : Bool}
theorem cls_some (h : PySem.W.hasDictIn K C = true) : (PySem.W.clsIn K C).isSome = true := by
  obtain ⟨cd, hc, _⟩ := PySem.W.any_some h
  rw [hc]
  rfl
theorem kit_own : PySem.W.kitOne K (.ref C) (.ref C) = some true := by
  unfold PySem.W.kitOne
  rw [if_pos (beq_self_eq_true _)]
theorem both_cls (h1 : PySem.W.hasDictIn K C = true) (h2 : PySem.W.typeIn K (.ref C) = some (.type "type")) : ((PySem.W.clsIn K C).isSome && PySem.W.typeIn K (.ref C) == some (.type "type")) = true := by
  rw [cls_some h1, h2] <;> rfl
theorem kit_type_ref (h1 : PySem.W.hasDictIn K C = true) (h2 : PySem.W.typeIn K (.ref C) = some (.type "type")) (h3 : PySem.W.subIn K (.type T) (.ref C) = some b) : PySem.W.kitOne K (.type T) (.ref C) = some b := by
  unfold PySem.W.kitOne
  rw [if_neg (by intro z; cases (beq_iff_eq.mp z))]
  exact (show PySem.W.kitCls K (.type T) (.ref C) = PySem.W.subIn K (.type T) (.ref C) from if_pos (both_cls h1 h2)).trans h3
theorem kit_ref_type (hm : PySem.W.kitMeta T = true) (h : PySem.W.subIn K (.ref D) (.type T) = some b) : PySem.W.kitOne K (.ref D) (.type T) = some b := by
  unfold PySem.W.kitOne
  rw [if_neg (by intro z; cases (beq_iff_eq.mp z))]
  exact (show PySem.W.kitCls K (.ref D) (.type T) = PySem.W.subIn K (.ref D) (.type T) from if_pos hm).trans h
theorem kit_ref_ref (ne : D ≠ C) (h1 : PySem.W.hasDictIn K C = true) (h2 : PySem.W.typeIn K (.ref C) = some (.type "type")) (h3 : PySem.W.subIn K (.ref D) (.ref C) = some b) : PySem.W.kitOne K (.ref D) (.ref C) = some b := by
  unfold PySem.W.kitOne
  rw [if_neg (by intro z; exact ne (Value.ref.inj (beq_iff_eq.mp z)))]
  exact (show PySem.W.kitCls K (.ref D) (.ref C) = PySem.W.subIn K (.ref D) (.ref C) from if_pos (both_cls h1 h2)).trans h3
theorem exm_cls (h0 : PySem.W.subIn K (.ref C) (.type "BaseException") = some true) (h1 : PySem.W.hasDictIn K C = true) (h2 : PySem.W.typeIn K (.ref C) = some (.type "type")) (h3 : PySem.W.subIn K (.ref D) (.ref C) = some b) : PySem.W.exmOne K (.ref D) (.ref C) = some b := by
  have e1 : (PySem.W.subIn K (.ref C) (.type "BaseException") == some true) = true := by rw [h0] <;> rfl
  show (if (PySem.W.subIn K (.ref C) (.type "BaseException") == some true) = true then (if ((PySem.W.clsIn K C).isSome && PySem.W.typeIn K (.ref C) == some (.type "type")) = true then PySem.W.subIn K (.ref D) (.ref C) else none) else none) = some b
  rw [if_pos e1, if_pos (both_cls h1 h2)]
  exact h3
end

theorem cut_from (xs : List V) (k : Nat) : cutV xs (some (k : Int)) none = xs.drop k := by
  unfold cutV
  rw [HT.sIx_nat, HT.sIx_none]
  by_cases h : k ≤ xs.length
  · rw [Nat.min_eq_left h]
    exact List.take_of_length_le (by rw [List.length_drop]; omega)
  · rw [Nat.min_eq_right (by omega), List.drop_length, List.drop_eq_nil_of_le (by omega), List.take_nil]
end UL

set_option Elab.async false
set_option linter.all false
set_option maxRecDepth 100000
/-! own: a static method called off its class -/
namespace UL
open PySem PySem.Spec PyProof.Rows L2 Evl TL

/-- C.m is a staticmethod: its record at p, its def at g -/
structure SMet (K : PySem.W.Frag) (C : Addr) (mc : Value) (m : Str) (p g : Addr) : Prop where
  rd : PySem.W.readsIn K C mc = true
  ga : PySem.W.specialIn K (.ref C) "__getattribute__" = some (some (.builtin "type.__getattribute__"))
  fc : PySem.W.findCls K (.ref C) mc m = some (.get (.builtin "staticmethod.__get__") (.ref p) .none (.ref C))
  rc : ∃ rest, PySem.W.recIn K p "staticmethod" = some (.ref g :: rest)
  kg : PySem.W.keepIn K (.ref g) = true
def tSm (C : Addr) (sp : Sp) (E : L2.St → XK) (ta : TE) (t : TA) : TE := fun σ H Q => ta σ H fun x H1 => x = .ref C ∧ t σ H1 fun vs H2 => sp vs H2 Q (E σ)
section
variable {X : Cx} {CX : CXT} {k : Nat} {C p g : Addr} {mc : Value} {fd : FuncData} {ps : List Str} {sp : Sp} {E : L2.St → XK} {o e : Expr} {es : List Expr} {m : Str} {pos apos : Pos} {ta : TE} {t : TA} {pl : Sem Bool}
theorem pe_smS (he : PE X o ta) (c : SMet X.K C mc m p g) (F : FnOk X.prog X.w X.K X.mg X.base CX k g fd ps sp) (hr : Room k X.A) (hb : L2.Binds X.K fd ps []) (hx : ∀ σ, PassesAt CX X σ (E σ)) (ha : PA X (e :: es) t)
    (h1 : starEach (e :: es) X.env = (false, eval e X.env) :: starEach es X.env := by rfl) (h2 : (backTo pos (starEach es X.env)).any (·.1) = false := by rfl)
    (h3 : eval (.Call (.Attribute o m apos) (e :: es) [] pos) X.env = (do
      let who ← eval o X.env
      standAt apos.atName
      let (fn, fst) ← holding [who] (getMethod who m pl)
      callWith pos fn fst (backTo pos (starEach (e :: es) X.env)) (backToKw pos (keywordEach [] X.env))) := by rfl) :
    PE X (.Call (.Attribute o m apos) (e :: es) [] pos) (tSm C sp E ta t) := by
  refine ⟨fun pins s σ H Q I h => PySem.W.methodCall_KW (pl := pl) (thn (he.run pins s σ H _ I h) fun u s1 hh => ?_) h3⟩
  obtain ⟨x, H1, I1, rx, rfl, q⟩ := hh
  obtain rfl : u = Value.ref C := rx
  obtain ⟨rest, hrc⟩ := c.rc
  refine PySem.W.method_cls I1.kIn c.ga (PySem.W.cls_bind I1.kIn c.rd c.fc (wpAny_call (PySem.W.sm_get (s := { s1 with toks := s1.toks + 1 }) I1.kIn hrc (PySem.W.handed_on rfl ?_))))
  have I2 : Inv X pins σ H1 { s1 with toks := s1.toks + 1 } := I1.tok _
  refine PySem.W.callWith_K (h₀ := X.base) I1.ok.mod.kin c.kg (thn (ha.run pos pins _ σ H1 _ I2 q) fun us s3 hh => ?_) h1 h2
  obtain ⟨vs, H2, I3, rv, q2⟩ := hh
  exact ⟨I3.kIn, run_fnS F hr hb (hx σ) I3 rv q2⟩
end

/-- [f x for x in a sequence]: any walk over fixed items, an element each, nothing else changed -/
theorem lc_map {K : PySem.W.Frag} {J : It} {xs : List V} {G : Hp → Prop} {f : V → V} {j : Nat} {te : TE} {vs : List Nat} {σ : L2.St} {H1 : Hp} {D : Addr} {Qd : Hp → Prop} (w : L2.Walk J xs.length G (YAt xs)) (hz : xs.length ≤ 100000) (hD : H1 D = none)
    (hG : ∀ H', Ex H1 H' → G H') (hw : ∀ x, wipe ((wipe σ vs).set j (some x)) vs = wipe σ vs) (he : ∀ x H', x ∈ xs → Ex H1 H' → ∀ Q : VK, Q (f x) H' → te ((wipe σ vs).set j (some x)) H' Q) (hd : Qd (upd H1 D (.lst (xs.map f)))) :
    ∃ W : Nat → Nat → Hp → Prop, (∃ m, W 0 m (upd H1 D (.lst []))) ∧ ∀ i m H, W i m H →
      (J.stop i H ∧ Qd H) ∨ (J.go i H ∧ ∃ Nx : Hp → Prop, (∀ H', Nx H' → ∃ m', m' < m ∧ W (i + 1) m' H') ∧ ∀ x H', J.yld i H x H' → gName j x (wipe σ vs) H' fun σ2 H2 => wipe σ2 vs = wipe σ vs ∧ tYes σ2 H2 fun b H3 =>
        if b = true then te σ2 H3 fun y H4 => ∃ acc, H4 D = some (.lst acc) ∧ acc.length < sizeLine ∧ Nx (upd H4 D (.lst (acc ++ [y]))) else Nx H3) := by
  refine lc_it w (fun i H' => H' = upd H1 D (.lst ((xs.take i).map f))) rfl (fun i H' _ h => by rw [h]; exact hG _ (Ex.new hD)) ?_ ?_
  · rintro i x H H' hi rfl ⟨rfl, hx⟩
    refine ⟨hw _, ?_⟩
    show te _ _ _
    refine he x _ (List.mem_of_getElem? hx) (Ex.new hD) _ ⟨_, upd_same, ?_, ?_⟩
    · rw [List.length_map, List.length_take]
      exact sz_lt (by omega)
    · rw [upd_upd, List.take_add_one, hx, List.map_append]
      rfl
  · rintro H rfl
    rw [List.take_length]
    exact hd
/-- [f x for x in a sequence if p x] -/
theorem lc_filter {K : PySem.W.Frag} {J : It} {xs : List V} {G : Hp → Prop} {p : V → Bool} {f : V → V} {j : Nat} {tt : TT} {te : TE} {vs : List Nat} {σ : L2.St} {H1 : Hp} {D : Addr} {Qd : Hp → Prop} (w : L2.Walk J xs.length G (YAt xs)) (hz : xs.length ≤ 100000) (hD : H1 D = none)
    (hG : ∀ H', Ex H1 H' → G H') (hw : ∀ x, wipe ((wipe σ vs).set j (some x)) vs = wipe σ vs) (ht : ∀ x H', x ∈ xs → Ex H1 H' → ∀ Q : Bool → Hp → Prop, Q (p x) H' → tt ((wipe σ vs).set j (some x)) H' Q)
    (he : ∀ x H', x ∈ xs → p x = true → Ex H1 H' → ∀ Q : VK, Q (f x) H' → te ((wipe σ vs).set j (some x)) H' Q) (hd : Qd (upd H1 D (.lst ((xs.filter p).map f)))) :
    ∃ W : Nat → Nat → Hp → Prop, (∃ m, W 0 m (upd H1 D (.lst []))) ∧ ∀ i m H, W i m H →
      (J.stop i H ∧ Qd H) ∨ (J.go i H ∧ ∃ Nx : Hp → Prop, (∀ H', Nx H' → ∃ m', m' < m ∧ W (i + 1) m' H') ∧ ∀ x H', J.yld i H x H' → gName j x (wipe σ vs) H' fun σ2 H2 => wipe σ2 vs = wipe σ vs ∧ tt σ2 H2 fun b H3 =>
        if b = true then te σ2 H3 fun y H4 => ∃ acc, H4 D = some (.lst acc) ∧ acc.length < sizeLine ∧ Nx (upd H4 D (.lst (acc ++ [y]))) else Nx H3) := by
  refine lc_it w (fun i H' => H' = upd H1 D (.lst (((xs.take i).filter p).map f))) rfl (fun i H' _ h => by rw [h]; exact hG _ (Ex.new hD)) ?_ ?_
  · rintro i x H H' hi rfl ⟨rfl, hx⟩
    refine ⟨hw _, ?_⟩
    refine ht x _ (List.mem_of_getElem? hx) (Ex.new hD) _ ?_
    have e1 : (xs.take (i + 1)).filter p = (xs.take i).filter p ++ [x].filter p := by
      rw [List.take_add_one, hx, List.filter_append]
      rfl
    cases hp : p x with
    | true =>
      refine iteT (he x _ (List.mem_of_getElem? hx) hp (Ex.new hD) _ ⟨_, upd_same, ?_, ?_⟩)
      · rw [List.length_map]
        refine sz_lt (Nat.lt_of_le_of_lt (List.length_filter_le _ _) ?_)
        rw [List.length_take]
        omega
      · rw [upd_upd, e1, List.map_append]
        simp [hp]
    | false =>
      refine iteF ?_
      rw [e1]
      simp [hp]
  · rintro H rfl
    rw [List.take_length]
    exact hd
end UL

set_option Elab.async false
set_option linter.all false
set_option maxRecDepth 100000
/-! own: a try with several clauses, each 'except C as n' with the same n -/
namespace UL
open PySem PySem.Spec PyProof.Rows L2 Evl TL

/-- the clauses, and what they wish together of an error of the body -/
inductive AsOk (X : Cx) (i : Nat) (n : Str) : List ExceptHandler → (WX → Ends → WX) → Prop
  | nil : AsOk X i n [] (fun W _ => W)
  | cons {y : Str} {k : Value} {su : Addr → Value → Option Addr → TS} {st : Stmt} {sts : List Stmt} {q q' : Pos} {rest : List ExceptHandler} {f : WX → Ends → WX} (cn : Names X y k)
      (run : ∀ (a : Addr) (ob : Obj) (cls : Value) (d : Option Addr) (ps : List (Addr × Obj)), Zc cls d ob → (∃ z, ob.data = .fields z) → PSs (X.suite a ((a, ob) :: ps)) (st :: sts) (su a cls d)) (tl : AsOk X i n rest f) :
      AsOk X i n (.ExceptHandler (some (.Name y q)) (some n) (st :: sts) q' :: rest) (fun W D => wAs X.K k i su (f W D) D)
section
variable {X : Cx} {n : Str} {i : Nat} {body : List Stmt} {c0 : ExceptHandler} {cs : List ExceptHandler} {f : WX → Ends → WX} {tb : WX → TS} {W0 : WX} {pos : Pos}
theorem ps_try_asMany (e1 : X.stack = X.env :: X.outer) (e2 : X.env.frame = some X.env.locals) (nd : X.N.Nodup) (at_ : X.N[i]? = some n) (lo : X.env.kindOf n = some .local) (tk : Takes X W0)
    (hb : ∀ (W : WX) (pn : List (Addr × Obj)) (xe : Value → Shared → Prop), Takes (X.tr pn xe) W → PassesOwn (model X.prog X.w) X.A X.env xe → PSs (X.tr pn xe) body (tb W)) (hc : AsOk X i n (c0 :: cs) f) :
    PS X (.Try body (c0 :: cs) [] [] pos) (fun D σ H => tb (f W0 D) D σ H) := by
  refine ⟨fun pins s σ H D I h => wpAny_Try_except ?_⟩
  have ok := I.ok
  have fr : X.A.frames = some (X.env :: X.outer) := ok.frames.trans (by rw [e1])
  refine wpAny_mono ((hb (f W0 D) (X.pn ++ pins) (fun e s₁ => wpAny (model X.prog X.w) X.A (noteFrame e X.env) (fun _ s₂ => wpAny (model X.prog X.w) X.A (setFlight e none) (fun _ s₃ =>
    wpAny (model X.prog X.w) X.A (handleBy e X.env (c0 :: cs)) (SP X pins D) X.xe s₃) X.xe s₂) X.xe s₁) (fun u t xx => ?_) PassesOwn.looking).run [] s σ H D (I.toTry _) h) (fun fl s1 q => ?_) (fun _ _ z => z)
  · obtain ⟨a, B, t0, pins1, σ1, H1, cls, d, rfl, J1, nb, up, sky, na, os, ag, wish⟩ := xx
    have J := J1.ofTry (pins := pins) ok
    show wpAny _ X.A (noteFrame (.ref a) X.env) _ _ _
    refine Sky.land Zc.steady fr e2 (by rw [← e1]; exact sky) fun h3 fl3 up3 => ?_
    have J3 := J.landed (s' := { t with heap := h3 }) nb fl3.1 (up.trans up3) os ag
    obtain ⟨o3, z3, g3, k3, d3⟩ := fl3.there
    have nfr : a ∉ frs (X.env :: X.outer) := fun hm => by
      obtain ⟨_, o4, g4, nf⟩ := fl3.2.2.1.mem hm
      rw [g3] at g4
      cases g4
      exact nf _ d3
    have nL : a ≠ X.env.locals := fun z => nfr (List.mem_filterMap.mpr ⟨X.env, List.mem_cons_self, by rw [e2, z]⟩)
    have nF : a ∉ X.fs := fun hm => by
      obtain ⟨v, hv, q⟩ := List.mem_filterMap.mp hm
      exact nfr (List.mem_filterMap.mpr ⟨v, List.mem_cons_of_mem _ hv, q⟩)
    have S3 := J3.suite g3 d3 na nL nF
    have down : ∀ {l : List ExceptHandler} {g : WX → Ends → WX}, AsOk X i n l g → g W0 D cls d σ1 H1 → wpAny (model X.prog X.w) X.A (handleBy (.ref a) X.env l) (SP X pins D) X.xe { t with heap := h3 } := by
      intro l g hl
      induction hl with
      | nil =>
        intro w
        refine wpAny_handleBy_nil ?_
        obtain ⟨_, _, _, _, _, T, _, _, gz, _, dz, slot, _⟩ := id fl3
        unfold PySem.passOn
        refine wpAny_bind (wpAny_field gz dz slot ?_)
        rw [if_neg (by simp)]
        have go : wpAny (model X.prog X.w) X.A (setFlight (.ref a) X.env.frame) (fun _ t4 => wpAny (model X.prog X.w) X.A (throw (.ref a) : Sem Flow) (SP X pins D) X.xe t4) X.xe { t with heap := h3 } := by
          rw [e2]
          exact HandSPX.setFlight_upZ fl3 fun h4 hh4 up4 => wpAny_throw (tk _ _ ⟨a, B, t0, pins, σ1, H1, cls, d, rfl, J, nb, (up.trans up3).trans up4, .inr (.inr (by rw [e1]; exact hh4)), na, os, ag, w⟩)
        first
          | exact wpAny_bind go
          | exact wpAny_bind (wpAny_pure (wpAny_bind go))
      | @cons y k su st sts q q' rest g cn run tl ih =>
        rintro ⟨b, hb1, yes, no⟩
        refine wpAny_handleBy_cons (codeAny_handlers_test ?_) (fun z => nomatch z)
        have ty : PySem.W.Looks (model X.prog X.w) h3 (typeOf (.ref a)) cls := fun A Q E s k q => wpAny_typeOf_ref (k _ _ g3) (by rw [k3.1]; exact q)
        have look := PySem.W.exm_one (M := model X.prog X.w) J3.kIn ty hb1
        have seen : ∀ {Q : Value → Shared → Prop} {E : Value → Shared → Prop}, Q k { t with heap := h3 } → wpAny (model X.prog X.w) (X.A.mark (some (.ref a))) (eval (.Name y q) X.env) Q E { t with heap := h3 } := fun {Q E} p => by
          obtain ⟨c1, c2, c3 | ⟨c3, c4, c5⟩⟩ := cn
          · exact ld_glob (X := X.suite a ((a, o3) :: (X.pn ++ pins))) S3 c1 c3 p c2
          · exact ld_blt (X := X.suite a ((a, o3) :: (X.pn ++ pins))) S3 c1 c3 c4 p c5 c2
        refine seen (look.here ?_)
        cases b with
        | false => exact ih (no rfl)
        | true =>
          refine codeAny_handlers_suite_as (HandSPX.lands_againZ fl3 fun h4 fl4 up4 => ?_)
          have J4 := J.landed (s' := { t with heap := h4 }) nb fl4.1 ((up.trans up3).trans up4) os ag
          obtain ⟨o4, z4, g4, k4, d4⟩ := fl4.there
          refine store_ok (X := X.suite a ((a, o4) :: (X.pn ++ pins))) (v := .ref a) (J4.suite g4 d4 na nL nF) nd at_ (.inl lo) rfl (fun t5 S5 => ?_) (.inr lo)
          refine wpAny_mono ((run a o4 cls d (X.pn ++ pins) k4 ⟨_, d4⟩).run [] t5 _ H1 _ S5 (yes rfl a na)) (fun fl t6 r => ?_) (fun _ _ z => z.elim)
          have fin : ∀ {σ6 : L2.St} {H6 : Hp} {Q : Shared → Prop}, Inv (X.suite a ((a, o4) :: (X.pn ++ pins))) [] σ6 H6 t6 → (∀ t7, Inv X pins (σ6.set i none) H6 t7 → Q t7) →
              wpAny (model X.prog X.w) X.A (do bindName X.env n .none; unbindBehindTheSuite X.env n q') (fun _ t7 => Q t7) X.xe t6 := fun {σ6 H6 Q} S6 p => gone_ok (S6.unsuite ok) nd at_ lo p
          cases fl with
          | ret u =>
            obtain ⟨v, σ6, H6, S6, rv, p⟩ := r
            exact fin S6 fun t7 J7 => ⟨v, _, _, J7, rv, p⟩
          | next =>
            obtain ⟨σ6, H6, S6, p⟩ := r
            exact fin S6 fun t7 J7 => ⟨_, _, J7, p⟩
          | brk =>
            obtain ⟨σ6, H6, S6, p⟩ := r
            exact fin S6 fun t7 J7 => ⟨_, _, J7, p⟩
          | cont =>
            obtain ⟨σ6, H6, S6, p⟩ := r
            exact fin S6 fun t7 J7 => ⟨_, _, J7, p⟩
    exact down hc wish
  · cases fl with
    | ret u =>
      obtain ⟨v, σ1, H1, J, rv, p⟩ := q
      exact ⟨v, _, _, J.ofTry ok, rv, p⟩
    | next =>
      obtain ⟨σ1, H1, J, p⟩ := q
      exact wpAny_execs_nil ⟨_, _, J.ofTry ok, p⟩
    | brk =>
      obtain ⟨σ1, H1, J, p⟩ := q
      exact ⟨_, _, J.ofTry ok, p⟩
    | cont =>
      obtain ⟨σ1, H1, J, p⟩ := q
      exact ⟨_, _, J.ofTry ok, p⟩
end
end UL

set_option Elab.async false
set_option linter.all false
set_option maxRecDepth 100000
/-! own: an error held as a value, of a class that writes its own __init__ -/
namespace UL
open PySem PySem.Spec PyProof.Rows L2 Evl TL

/-- an error of the class at C that has its dict -/
def ExV (H : Hp) (a C : Addr) (fs : List (Str × V)) : Prop := ∃ d, H a = some (exo a C (some d)) ∧ H d = some (exd d fs)
theorem ExV.mono {H H' : Hp} {a C : Addr} {fs : List (Str × V)} (e : Ex H H') (h : ExV H a C fs) : ExV H' a C fs := by
  obtain ⟨d, h1, h2⟩ := h
  exact ⟨d, e _ _ h1, e _ _ h2⟩
/-! ### C(e, ..) -/
def tMkV (C : Addr) (sp : Sp) (dvs : List V) (ta : TA) : TE := fun σ H Q => ta σ H fun vs H1 => vs.length ≤ 1000 ∧ ∀ a, H1 a = none → sp (.ref a :: (vs ++ dvs)) (upd H1 a (exo a C none)) (fun v H2 => v = .non ∧ Q (.ref a) H2) (fun _ _ _ => False)
section
variable {X : Cx} {e : Expr} {es : List Expr} {ta : TA} {p pos : Pos}
theorem pe_mkv {CX : CXT} {x : Str} {C fI : Addr} {k : Nat} {fd : FuncData} {ps : List Str} {sp : Sp} {ds : List Value} {dvs : List V} (T : OexC X.K C) (iC : PySem.W.findIn X.K (.ref C) "__init__" = some (some (.ref fI))) (tI : PySem.W.typeIn X.K (.ref fI) = some (.type "function"))
    (F1 : FnOk X.prog X.w X.K X.mg X.base CX k fI fd ps sp) (hr : Room (k + 1) X.A) (hb : L2.Binds X.K fd ps ds) (hd : Vals dvs ds) (hx : Passes CX X (fun _ _ _ => False)) (hg : Gl X x) (hm : X.mg x = some (.ref C)) (ha : PA X (e :: es) ta)
    (hdb : (x == ("__debug__" : Str)) = false := by decide) (he : starEach (e :: es) X.env = (false, eval e X.env) :: starEach es X.env := by rfl) (hpl : (backTo pos (starEach es X.env)).any (·.1) = false := by rfl) :
    PE X (.Call (.Name x p) (e :: es) [] pos) (tMkV C sp dvs ta) := by
  refine ⟨fun pins s σ H Q I h => ?_⟩
  obtain ⟨nm, q, N, bs, bm, sn, sub, ab, col, dd, k0, k1, k2, k3, k5, hC, hbm⟩ := T.cls
  refine wpAny_Call_Name_kw (ld_glob I hg hm ?_ hdb)
  refine PySem.W.callWith_K (h₀ := X.base) I.ok.mod.kin T.kC (thn (ha.run pos pins s σ H _ I h) fun us s1 ⟨vs, H1, I1, r1, hz, q1⟩ => ⟨I1.kIn, ?_⟩) he hpl
  show wpAny _ _ (call (.ref C) us) _ _ _
  obtain ⟨hp, g, dr, tk, os⟩ := s1
  have hsz : hp.objs.size ≤ hp.objs.size + 1 := Nat.le_succ _
  have hn : H1 (hp.objs.size + 1) = none := I1.hok.fresh hsz
  have hq := q1 (hp.objs.size + 1) hn
  have kk : ∀ b o, hp.get? b = some o → ((hp.push (PySem.W.kdv_tup us)).push (PySem.HandSPX.excO C hp.objs.size)).get? b = some o := fun b o e => Heap.get?_push_of_some _ (Heap.get?_push_of_some _ e)
  have hget : ((hp.push (PySem.W.kdv_tup us)).push (PySem.HandSPX.excO C hp.objs.size)).get? (hp.objs.size + 1) = some (PySem.HandSPX.excO C hp.objs.size) := by heap_get
  have I2 : Inv X pins σ (upd H1 (hp.objs.size + 1) (exo (hp.objs.size + 1) C none)) ⟨(hp.push (PySem.W.kdv_tup us)).push (PySem.HandSPX.excO C hp.objs.size), g, dr, tk, os⟩ :=
    I1.laid (t' := tk) (a := hp.objs.size + 1) (o := exo (hp.objs.size + 1) C none) (h' := (hp.push (PySem.W.kdv_tup us)).push (PySem.HandSPX.excO C hp.objs.size)) kk hsz (exo_ok hget)
  have r2 : Vals (V.ref (hp.objs.size + 1) :: (vs ++ dvs)) (Value.ref (hp.objs.size + 1) :: (us ++ ds)) := .cons rfl (r1.append hd)
  have hl : (Value.ref (hp.objs.size + 1) :: us ++ ds).length = ps.length := by
    have e := r2.length
    rw [F1.len _ _ _ _ hq] at e
    exact e.symm
  have hus : us.length ≤ sizeLine := by
    rw [← Paired.length r1, sizeLine_eq]
    omega
  refine wpAny_call (PySem.HandSPX.call_own F.excBase_ValueError (fun Y => PySem.HandSPX.refsVE_contains Y bm hbm) (I1.kIn _ _ hC) (PySem.W.looks_findIn I1.kIn iC) (fun self => PySem.W.bind_fn I1.kIn self tI) hus
    (codeAny_mono (F1.run _ X.stack _ _ ⟨Value.ref (hp.objs.size + 1) :: us, []⟩ (Value.ref (hp.objs.size + 1) :: (us ++ ds)) _ _ (fun _ _ _ => False) (hr.make C us []) (I2.env0.make C us []) (hb _ (Value.ref (hp.objs.size + 1) :: us) I2.kIn hl) r2 hq) fun r s' hq' => ?_))
  cases r with
  | error er => exact hx pins σ _ _ er s' I2 hq'
  | ok fl =>
    cases fl with
    | ret u =>
      obtain ⟨v, H2, I3, rv, ev, q2⟩ := I2.after hq'
      subst ev
      exact ⟨rv, .ref (hp.objs.size + 1), H2, I3, rfl, q2⟩
    | next => exact False.elim hq'
    | brk => exact False.elim hq'
    | cont => exact False.elim hq'
end

/-! ### e.f -/
def tXv (K : PySem.W.Frag) (f : Str) (te : TE) : TE := fun σ H Q => te σ H fun x H1 => ∃ (a C : Addr) (fs : List (Str × V)) (v : V), x = .ref a ∧ ExV H1 a C fs ∧ XfC K C ∧ PySem.W.findIn K (.ref C) f = some none ∧ fs.lookup f = some v ∧ Q v H1
theorem pe_xv {X : Cx} {e : Expr} {te : TE} {pos : Pos} {n : Str} (he : PE X e te) (hb : attributeBase e n X.env (eval e X.env) = eval e X.env := by rfl) : PE X (.Attribute e n pos) (tXv X.K n te) := by
  refine ⟨fun pins s σ H Q I h => ?_⟩
  refine attr_of hb (thn (he.run pins s σ H _ I h) fun u s1 hh => ?_)
  obtain ⟨x, H1, I1, rx, a, C, fs, v, ex, ⟨d, ea, ed⟩, T, hno, l, q⟩ := hh
  subst ex
  obtain rfl : u = Value.ref a := rx
  obtain ⟨t0, ho⟩ := exo_at I1.hok ea
  obtain ⟨mA, hns, hr⟩ := exd_at I1.hok ed
  obtain ⟨od, hod, hl⟩ := lookIn_ns hns
  obtain ⟨u, hu, ru⟩ := RelO.some_of (v := v) (o := mA n) (by rw [← l]; exact hr n)
  have J : PySem.W.InstAt s1.heap a { cls := .ref C, dict := some d, data := .fields #[.ref t0, .none, .none, .none, .bool false, .none] } C (some od) := ⟨ho, rfl, rfl, hod⟩
  exact HandSPX.exc_get I1.kIn J T.ga T.gg T.exC (PySem.W.findObj_own T.hdC hno rfl (by rw [hl, hu])) (handed_of ru) ⟨v, H1, I1.tok _, ru, q⟩

/-! ### isinstance(e, D) -/
def rIsV (K : PySem.W.Frag) : List V → Hp → VK → Prop := fun xs H Q => ∃ (a C : Addr) (fs : List (Str × V)) (c : V) (cv : Value) (b : Bool), xs = [.ref a, c] ∧ ExV H a C fs ∧ ExI K C ∧ (∀ u, RelV c u → u = cv) ∧ PySem.W.kitOne K (.ref C) cv = some b ∧ Q (.bl b) H
theorem call_isV {X : Cx} : CallR X (.builtin "isinstance") (rIsV X.K) := by
  intro pins s σ H xs us Q I r h
  obtain ⟨a, C, fs, c, cv, b, rfl, ⟨d, ea, ed⟩, T, hcv, ek, q⟩ := h
  obtain ⟨u1, w1, e1, r1, rr1⟩ : ∃ u1 w1, us = [u1, w1] ∧ RelV (.ref a) u1 ∧ RelV c w1 := by
    cases r with
    | cons q1 q2 =>
      cases q2 with
      | cons q3 q4 =>
        cases q4
        exact ⟨_, _, rfl, q1, q3⟩
  subst e1
  cases r1
  have e2 := hcv _ rr1
  subst e2
  obtain ⟨t0, ho⟩ := exo_at I.hok ea
  obtain ⟨mA, hns, hr⟩ := exd_at I.hok ed
  obtain ⟨od, hod, hl⟩ := lookIn_ns hns
  have J : PySem.W.InstAt s.heap a { cls := .ref C, dict := some d, data := .fields #[.ref t0, .none, .none, .none, .bool false, .none] } C (some od) := ⟨ho, rfl, rfl, hod⟩
  exact PySem.W.kia_one (PySem.W.kitx_exc T.c1 T.c2 T.c3 T.c4 T.c5 T.c6 T.c7 T.c8) I.kIn J ek (fun z => nomatch z) fun tk => ⟨.bl b, H, I.kept (t' := tk) fun _ _ z => z, rfl, q⟩
end UL

set_option Elab.async false
set_option linter.all false
set_option maxRecDepth 100000
/-! own: a def of an own error class whose body begins with super().__init__(..) -/
namespace UL
open PySem PySem.Spec PyProof.Rows L2 Evl TL

/-- what the written part says of such a def -/
structure SupF (P : Program) (K : PySem.W.Frag) (f cda cc D : Addr) (fd : FuncData) (ar : Str) : Prop where
  fn : ∃ oc od osl, K.lookup f = some ⟨oc, od, .func fd, osl⟩
  hp : ∃ a : Arg, (fd.params.posonlyargs ++ fd.params.args).head? = some a ∧ a.arg = ar
  code : ∃ ccl cdd ccs vs file tf, K.lookup cda = some ⟨ccl, cdd, .fields vs, ccs⟩ ∧ vs[2]? = some (.str file tf) ∧ ((P.main.file : Str) == file) = true
  cell : ∃ cl cld csl, K.lookup cc = some ⟨cl, cld, .cell (some (.ref D)), csl⟩
  cls : ∃ cdD, PySem.W.clsIn K D = some cdD
  top : (P.main.scope.names.lookup ("super" : Str)).isSome = false
  opq : PySem.W.nsIn K cStatics "thirdparty.any" = some none

section
variable {X : Cx} {pins : List (Addr × Obj)} {σ : L2.St} {H : Hp} {s : Shared} {body : List Stmt} {f cc D cda x C f2 : Addr} {fd fd2 : FuncData} {ar : Str} {i k : Nat} {CX : CXT} {ps2 : List Str} {sp2 : Sp} {E : XK} {Q : VK} {e : Expr} {es : List Expr} {ta : TA} {p0 p1 p2 pos : Pos}
theorem super_init {pl : Sem Bool} (S : SupF X.prog X.K f cda cc D fd ar) (hfu : X.env.func = some f) (hco : X.env.code = .ref cda) (hcells : X.env.cells.lookup ("__class__" : Str) = some cc) (hks : X.env.kindOf "super" = some .globalImplicit) (hkc : X.env.kindOf "__class__" = some .free)
    (hi : X.N[i]? = some ar) (lo : X.env.kindOf ar = some .local) (hg : Gl X "super") (hm : X.mg "super" = none)
    (I : Inv X pins σ H s) (hσ : σ[i]? = some (some (.ref x))) (hx : H x = some (exo x C none)) (T : OexC X.K C) (hsub : PySem.W.mroIn X.K C (.ref D) = some true) (hsi : PySem.W.ks_superIn X.K C D "__init__" = some (some (.ref f2)))
    (hft : PySem.W.typeIn X.K (.ref f2) = some (.type "function")) (hfi : PySem.W.fnIn X.K f2 = true) (F2 : FnOk X.prog X.w X.K X.mg X.base CX k f2 fd2 ps2 sp2) (hr : Room k X.A) (hb : L2.Binds X.K fd2 ps2 []) (hpass : Passes CX X E) (ha : PA X (e :: es) ta)
    (h : ta σ H fun vs H1 => sp2 (.ref x :: vs) H1 Q E)
    (he : starEach (e :: es) X.env = (false, eval e X.env) :: starEach es X.env := by rfl) (hpl : (backTo pos (starEach es X.env)).any (·.1) = false := by rfl)
    (hev : eval (.Call (.Attribute (.Call (.Name "super" p0) [] [] p1) "__init__" p2) (e :: es) [] pos) X.env = (do
      let ov ← attributeBase (.Call (.Name "super" p0) [] [] p1) "__init__" X.env (eval (.Call (.Name "super" p0) [] [] p1) X.env)
      standAt p2.atName
      let (f, first) ← holding [ov] (getMethod ov "__init__" pl)
      callWith pos f first (backTo pos (starEach (e :: es) X.env)) []) := by rfl) :
    _root_.PySem.wpAt (model X.prog X.w) X.A (.func body X.env) (eval (.Call (.Attribute (.Call (.Name "super" p0) [] [] p1) "__init__" p2) (e :: es) [] pos) X.env) (EP X pins σ Q) X.xe s := by
  obtain ⟨⟨oc, od, osl, hf⟩, ⟨arg, hp1, rfl⟩, ⟨ccl, cdd, ccs, vs, file, tf, hcode, hvs, hfile⟩, ⟨cl, cld, csl, hcell⟩, ⟨cdD, hD⟩, htop, hopq⟩ := S
  have XK : X.K.In s.heap := I.kIn
  obtain ⟨oD, hD1, hD2⟩ : ∃ oD, s.heap.get? D = some oD ∧ oD.data = .cls cdD := by
    unfold PySem.W.clsIn at hD
    split at hD
    · rename_i c d cd' sl ho
      cases hD
      exact ⟨_, XK _ _ ho, rfl⟩
    · cases hD
  obtain ⟨t0, hox⟩ := exo_at I.hok hx
  obtain ⟨m, hns, hlook⟩ := I.loc
  have hself : m arg.arg = some (.ref x) := by
    obtain ⟨u, ru, hl⟩ := hlook i arg.arg (.ref x) hi hσ (.inl lo)
    cases ru
    rcases hl with ⟨_, hl⟩ | ⟨hl, _⟩
    · exact hl
    · rcases hl with hl | hl
      · have lo2 := hl.symm.trans lo
        cases lo2
      · have lo2 := hl.symm.trans lo
        cases lo2
  refine PySem.ks_wpAt_MethodCall (pl := pl) ?_ hev
  refine PySem.ks_wpAt_super_base hks hkc (by decide) hfu (XK _ _ hf) rfl hp1 hco (XK _ _ hcode) rfl hvs hfile htop ?_
  refine PySem.W.ks_loadName_global I.ok.kind hks ?_
  obtain ⟨mb, h1, h2⟩ := I.mod.blt
  refine Calls.loadGlobal_builtin (by rw [I.ok.glob]; exact I.mod.glob.keeps I.bk) hm (by rw [I.ok.blt]; exact h1.keeps I.bk) ((h2 "super" (by decide)).trans (by rfl : bootBuiltins "super" = some (.type "super"))) ⟨rfl, ?_⟩
  refine wpAny_loadName_free I.ok.kind hkc hcells ⟨_, XK _ _ hcell, rfl⟩ ?_
  refine wpAny_loadName_local I.ok.kind lo hns hself ?_
  refine PySem.ks_wpAny_isType_cls hD1 hD2 ⟨rfl, ?_⟩
  obtain ⟨hp, g, d, t, os⟩ := s
  refine PySem.ks_wpAny_call_super hD1 hD2 hox rfl (fun c z => by cases z) (PySem.W.looks_mroIn XK hsub) (fun h1 e1 k1 => ?_)
  have I1 : Inv X ((hp.objs.size, PySem.W.ks_superObj D x C) :: pins) σ H ⟨h1, g, d, t, os⟩ := ClX.pin_new (t' := t) I k1 (Nat.le_refl _) e1 (fun v z => nomatch z)
  obtain ⟨of2, hof2, hofc⟩ : ∃ of, h1.get? f2 = some of ∧ of.cls = .type "function" := by
    have ht' : (X.K.lookup f2).map (·.cls) = some (.type "function") := hft
    cases z : X.K.lookup f2 with
    | none => rw [z] at ht'; cases ht'
    | some of => rw [z] at ht'; exact ⟨of, I1.kIn _ _ z, Option.some.inj ht'⟩
  have J : PySem.W.InstAt h1 x { cls := .ref C, dict := none, data := .fields #[.ref t0, .none, .none, .none, .bool false, .none] } C none := ⟨k1 _ _ hox, rfl, rfl, trivial⟩
  cases hc : PySem.W.clsIn X.K C with
  | none => unfold PySem.W.ks_superIn at hsi; rw [hc] at hsi; cases hsi
  | some cd =>
    unfold PySem.W.ks_superIn at hsi
    rw [hc] at hsi
    refine PySem.ks_wpAny_getMethod_super (ClX.pin_at I1) (PySem.W.looks_opaque I1.kIn hopq) (l₀ := cd.mro) (fun A Q E s k q => wpAny_bind ((PySem.W.looks_clsIn I1.kIn hc) A _ E s k (wpAny_pure q))) rfl I1.kIn hsi hof2 hofc (PySem.W.ks_ne I1.kIn J hc) (by decide) ?_
    have I2 : Inv X ((h1.objs.size, PySem.W.methodObj (.ref f2) (.ref x)) :: pins) σ H ⟨h1.push (PySem.W.methodObj (.ref f2) (.ref x)), g, d, t + 1, os⟩ :=
      ClX.pin_new (t' := t + 1) (ClX.unpin I1) (fun _ _ z => Heap.get?_push_of_some _ z) (Nat.le_refl _) (Heap.get?_push_size h1 rfl) (fun v z => nomatch z)
    have hq := ClX.pin_at I2
    have hL : h1.objs.size ≠ X.env.locals := (I2.pin (h1.objs.size, PySem.W.methodObj (.ref f2) (.ref x)) (List.mem_append_right _ List.mem_cons_self)).2.2.1
    have hbn := ClX.base_none I1 (Nat.le_refl _)
    refine PySem.W.callWith_M (K := X.K) (h₀ := X.base) (first := []) I.ok.mod.kin (news_at hL hbn hq) List.mem_cons_self hfi (thn (ha.run pos _ _ σ H _ I2 h) fun us s3 ⟨vs, H2, I3, rv, q2⟩ => ⟨⟨ClX.pin_at I3, I3.kIn⟩, ?_⟩) he hpl
    have r2 : Vals (.ref x :: vs) (.ref x :: us) := .cons rfl rv
    have hl : (Value.ref x :: us).length = ps2.length := by
      rw [← r2.length]
      exact F2.len _ _ _ _ q2
    have bd := hb s3 (.ref x :: us) I3.kIn (by rw [List.append_nil]; exact hl)
    rw [List.append_nil] at bd
    show wpAny _ _ (call (.ref h1.objs.size) us) _ _ _
    refine wpAny_call (PySem.W.method_call (ClX.pin_at I3) (codeAny_mono (F2.run X.A X.stack s3 H2 ⟨.ref x :: us, []⟩ (.ref x :: us) (.ref x :: vs) _ E hr I3.env0 bd r2 q2) fun rr s' z => ?_))
    match rr, z with
    | .error er, z => exact hpass _ _ H2 s3 er s' I3 z
    | .ok (.ret w), z => exact ClX.unpinE (I3.after z)
    | .ok .next, z => exact False.elim z
    | .ok .brk, z => exact False.elim z
    | .ok .cont, z => exact False.elim z
end

/-- such a def as it stands behind the top -/
structure FunSup (K : PySem.W.Frag) (x qual : Str) (st : Stmt) (f cda cc D : Addr) (file : Str) (fd : FuncData) : Prop where
  ex : ∃ (oc : Value) (od : Option Addr) (kV doc pm : Value) (an : Option Addr) (ct : Value) (osl : Array (Option Value)),
    fd = PySem.W.fnX x qual (defArgs st) (defBody st) (defScope st) [("__class__", cc)] .none kV doc pm an (.ref cda) ct ∧ K.lookup f = some ⟨oc, od, .func fd, osl⟩ ∧ PySem.W.codeIn K (.ref cda) qual = true
  code : ∃ ccl cdd ccs vs tf, K.lookup cda = some ⟨ccl, cdd, .fields vs, ccs⟩ ∧ vs[2]? = some (.str file tf)
  cell : ∃ cl cld csl, K.lookup cc = some ⟨cl, cld, .cell (some (.ref D)), csl⟩
  cls : ∃ cdD, PySem.W.clsIn K D = some cdD
  opq : PySem.W.nsIn K cStatics "thirdparty.any" = some none
  kp : PySem.W.keepIn K (.ref f) = true
/-- .. and what it wants of the program -/
structure SupP (P : Program) (file : Str) : Prop where
  fl : ((P.main.file : Str) == file) = true
  top : (P.main.scope.names.lookup ("super" : Str)).isSome = false
theorem funSup_mk {K : PySem.W.Frag} {x qual : Str} {st : Stmt} {f cda cc D : Addr} {file : Str} {oc : Value} {od an : Option Addr} {osl : Array (Option Value)} {kV doc pm ct : Value} {ccl : Value} {cdd : Option Addr} {ccs : Array (Option Value)} {vs : Array Value} {tf : Tok} {cl : Value} {cld : Option Addr} {csl : Array (Option Value)}
    (l : K.lookup f = some ⟨oc, od, .func (PySem.W.fnX x qual (defArgs st) (defBody st) (defScope st) [("__class__", cc)] .none kV doc pm an (.ref cda) ct), osl⟩) (c : PySem.W.codeIn K (.ref cda) qual = true) (cq : K.lookup cda = some ⟨ccl, cdd, .fields vs, ccs⟩) (cv : vs[2]? = some (.str file tf))
    (ce : K.lookup cc = some ⟨cl, cld, .cell (some (.ref D)), csl⟩) (cD : (PySem.W.clsIn K D).isSome = true) (co : PySem.W.nsIn K cStatics "thirdparty.any" = some none) (k : PySem.W.keepIn K (.ref f) = true) :
    FunSup K x qual st f cda cc D file (PySem.W.fnX x qual (defArgs st) (defBody st) (defScope st) [("__class__", cc)] .none kV doc pm an (.ref cda) ct) :=
  ⟨⟨oc, od, kV, doc, pm, an, ct, osl, rfl, l, c⟩, ⟨_, _, _, _, _, cq, cv⟩, ⟨_, _, _, ce⟩, Option.isSome_iff_exists.mp cD, co, k⟩
theorem FunSup.binds {K : PySem.W.Frag} {x qual : Str} {st : Stmt} {f cda cc D : Addr} {file : Str} {fd : FuncData} {ps : List Str} (F : FunSup K x qual st f cda cc D file fd)
    (h : ∀ (kV doc pm : Value) (an : Option Addr) (cdv ct : Value) (us : List Value), us.length = ps.length → bindArgs (PySem.W.fnX x qual (defArgs st) (defBody st) (defScope st) [("__class__", cc)] .none kV doc pm an cdv ct) ⟨us, []⟩ = pure (ps.zip us)) : L2.Binds K fd ps [] := by
  obtain ⟨oc, od, kV, doc, pm, an, ct, osl, rfl, lk, hcd⟩ := F.ex
  exact .all (h kV doc pm an (.ref cda) ct)
section
variable {P : Program} {w : World} {K : PySem.W.Frag} {mg : Str → Option Value} {base : Heap} {N ps ps2 : List Str} {f cda cc D f2 : Addr} {name qual : Str} {params : Arguments} {scope : Scope} {dV kV doc pm ct oc : Value} {an od : Option Addr} {osl : Array (Option Value)} {sp sp2 : Sp} {k k2 i : Nat} {fd2 : FuncData} {ar : Str}
  {e : Expr} {es : List Expr} {rest : List Stmt} {p0 p1 p2 pos pos' : Pos}
abbrev supBody (e : Expr) (es : List Expr) (rest : List Stmt) (p0 p1 p2 pos pos' : Pos) : List Stmt := .Expr (.Call (.Attribute (.Call (.Name "super" p0) [] [] p1) "__init__" p2) (e :: es) [] pos) pos' :: rest
abbrev supNF (name qual : Str) (params : Arguments) (body : List Stmt) (scope : Scope) (cc cda : Addr) : NdefX.NF := ⟨name, qual, params, body, scope, [("__class__", cc)], cda⟩
theorem sup_fn {pl : Sem Bool} (lk : K.lookup f = some ⟨oc, od, .func (PySem.W.fnX name qual params (supBody e es rest p0 p1 p2 pos pos') scope [("__class__", cc)] dV kV doc pm an (.ref cda) ct), osl⟩) (hcd : PySem.W.codeIn K (.ref cda) qual = true)
    (S : NdefX.NScope N ps ["__class__"] scope) (SF : SupF P K f cda cc D (PySem.W.fnX name qual params (supBody e es rest p0 p1 p2 pos pos') scope [("__class__", cc)] dV kV doc pm an (.ref cda) ct) ar)
    (hks : scope.names.lookup ("super" : Str) = some .globalImplicit) (hkc : scope.names.lookup ("__class__" : Str) = some .free) (hi : N[i]? = some ar) (lo : scope.names.lookup ar = some .local) (hm : mg "super" = none)
    (hft : PySem.W.typeIn K (.ref f2) = some (.type "function")) (hfi : PySem.W.fnIn K f2 = true) (F2 : FnOk P w K mg base CX0 k2 f2 fd2 ps2 sp2) (hk2 : k2 ≤ k) (hb2 : L2.Binds K fd2 ps2 [])
    (len : ∀ vs H Q E, sp vs H Q E → vs.length = ps.length)
    (he : ∀ env : Env, starEach (e :: es) env = (false, eval e env) :: starEach es env := by intro env; rfl) (hpl : ∀ env : Env, (backTo pos (starEach es env)).any (·.1) = false := by intro env; rfl)
    (hev : ∀ env : Env, eval (.Call (.Attribute (.Call (.Name "super" p0) [] [] p1) "__init__" p2) (e :: es) [] pos) env = (do
      let ov ← attributeBase (.Call (.Name "super" p0) [] [] p1) "__init__" env (eval (.Call (.Name "super" p0) [] [] p1) env)
      standAt p2.atName
      let (f, first) ← holding [ov] (getMethod ov "__init__" pl)
      callWith pos f first (backTo pos (starEach (e :: es) env)) []))
    (hbody : ∀ (A : Around) (outer : List Env) (s : Shared) (H : Hp) (vs : List V) (Q : VK) (E : XK), Room k (A.deeper (NdefX.envF (supNF name qual params (supBody e es rest p0 p1 p2 pos pos') scope cc cda) f s.heap.objs.size)) → sp vs H Q E →
      ∃ x C ta t, PA (NdefX.ncx CX0 P w K mg base N (supNF name qual params (supBody e es rest p0 p1 p2 pos pos') scope cc cda) f A outer s H E) (e :: es) ta ∧
        PSs (NdefX.ncx CX0 P w K mg base N (supNF name qual params (supBody e es rest p0 p1 p2 pos pos') scope cc cda) f A outer s H E) rest t ∧ (NdefX.startF N vs [none])[i]? = some (some (.ref x)) ∧ H x = some (exo x C none) ∧ OexC K C ∧
        PySem.W.mroIn K C (.ref D) = some true ∧ PySem.W.ks_superIn K C D "__init__" = some (some (.ref f2)) ∧
        ta (NdefX.startF N vs [none]) H fun ws H1 => sp2 (.ref x :: ws) H1 (fun _ H2 => t { nx := fun _ H' => Q .non H', rt := Q } (NdefX.startF N vs [none]) H2) E0) :
    FnOk P w K mg base CX0 (k + 1) f (PySem.W.fnX name qual params (supBody e es rest p0 p1 p2 pos pos') scope [("__class__", cc)] dV kV doc pm an (.ref cda) ct) ps sp := by
  refine ⟨len, fun A outer s H args us vs Q E hr e0 hb r hsp => ?_⟩
  have hl := len _ _ _ _ hsp
  have KX : K.In s.heap := e0.mod.kin.keeps fun b o e => (e0.bs b o e).1
  have lim : s.heap.NoLimit := e0.mod.nolimit.keeps fun b o e => (e0.bs b o e).1
  refine codeAny_call_function hr.depth (KX _ _ lk) rfl S.co S.gen rfl (PySem.W.codeRec_of KX hcd) (hb _ _ _ _ ?_)
  refine wpAny_newFunctionEnv S.nocell (fun ⟨n, _⟩ hy => S.par n (List.of_mem_zip hy).1) (fun h₁ hns hsb => ⟨lim.fresh _ hsb, ?_⟩) S.kind
  show codeAny _ _ (.func (supNF name qual params (supBody e es rest p0 p1 p2 pos pos') scope cc cda).body (NdefX.envF (supNF name qual params (supBody e es rest p0 p1 p2 pos pos') scope cc cda) f s.heap.objs.size)) _ _
  refine PySem.ks_codeAny_funcAt ?_
  have kp : ∀ b o, s.heap.get? b = some o → h₁.get? b = some o := fun b o e => hsb.extBut b o (Nat.ne_of_lt (Heap.lt_size e)) (Heap.get?_push_of_some _ e)
  obtain ⟨cl, cld, csl, hcell⟩ := SF.cell
  have hccb : base.get? cc = some ⟨cl, cld, .cell (some (.ref D)), csl⟩ := e0.mod.kin _ _ hcell
  have C : NdefX.CellsAt [(("__class__" : Str), cc)] ["__class__"] [none] s.heap H := {
    len := rfl
    all := fun y c hy => by
      have ec : c = cc := by
        by_cases hyc : y = ("__class__" : Str)
        · subst hyc
          have hy : some cc = some c := hy
          exact (Option.some.inj hy).symm
        · have : ([(("__class__" : Str), cc)] : List (Str × Addr)).lookup y = none := by
            show (match y == ("__class__" : Str) with | true => some cc | false => none) = none
            rw [show (y == ("__class__" : Str)) = false by simpa using hyc]
          rw [this] at hy
          cases hy
      subst ec
      exact ⟨(e0.bs _ _ hccb).2, _, _, (e0.bs _ _ hccb).1, rfl⟩
    inj := fun x y c hx hy => by
      have key : ∀ z c', ([(("__class__" : Str), cc)] : List (Str × Addr)).lookup z = some c' → z = ("__class__" : Str) := fun z c' hz => by
        by_cases hyc : z = ("__class__" : Str)
        · exact hyc
        · have : ([(("__class__" : Str), cc)] : List (Str × Addr)).lookup z = none := by
            show (match z == ("__class__" : Str) with | true => some cc | false => none) = none
            rw [show (z == ("__class__" : Str)) = false by simpa using hyc]
          rw [this] at hz
          cases hz
      rw [key x c hx, key y c hy]
    has := fun i y hy => by
      match i, hy with
      | 0, hy =>
        have hy : some ("__class__" : Str) = some y := hy
        cases hy
        exact ⟨cc, rfl, fun v z => by simp at z⟩
      | n + 1, hy => simp at hy }
  have I : Inv (NdefX.ncx CX0 P w K mg base N (supNF name qual params (supBody e es rest p0 p1 p2 pos pos') scope cc cda) f A outer s H E) [] (NdefX.startF N vs [none]) H { s with heap := h₁, toks := s.toks + (ps.zip us).length } := NdefX.inv_startN S hr.hd e0 hl r C hns kp
  obtain ⟨x, C1, ta, t, hpa, hps, hσ, hx, hox, hsub, hsi, hq⟩ := hbody A outer s H vs Q E (hr.deeper _) hsp
  have fin : ∀ {σ' : L2.St} {H' : Hp} {v : V} {u : Value} {s' : Shared}, Inv (NdefX.ncx CX0 P w K mg base N (supNF name qual params (supBody e es rest p0 p1 p2 pos pos') scope cc cda) f A outer s H E) [] σ' H' s' → L2.RelV v u → Q v H' → CE outer P w H s Q u s' :=
    fun {σ' H' v u s'} J rv q => ⟨v, H', J.os, J.bare, J.base, J.hok, rv, q⟩
  refine PySem.ks_wpAt_execs_cons (PySem.ks_wpAt_Expr_any ?_ (by unfold interactive; rw [show (NdefX.envF (supNF name qual params (supBody e es rest p0 p1 p2 pos pos') scope cc cda) f s.heap.objs.size).scope.kind = .function from S.kind]; rfl))
  refine PySem.ks_wpAt_mono (super_init (X := NdefX.ncx CX0 P w K mg base N (supNF name qual params (supBody e es rest p0 p1 p2 pos pos') scope cc cda) f A outer s H E) (pl := pl) (body := supBody e es rest p0 p1 p2 pos pos') SF rfl rfl rfl hks hkc hi lo hks hm I hσ hx hox hsub hsi hft hfi F2 ((hr.deeper _).mono hk2) hb2 pass0 hpa hq (he _) (hpl _) (hev _)) (fun u s1 hu => ?_) (fun e s' z => z)
  obtain ⟨v, H2, I2, _, q2⟩ := hu
  refine PySem.wpAt_of_wpAny (wpAny_mono (hps.run [] _ _ _ _ I2 q2) (fun fl s' hs => ?_) fun e s' hs => hs)
  cases fl with
  | ret u =>
    obtain ⟨v, σ', H', J, rv, q⟩ := hs
    exact fin J rv q
  | next =>
    obtain ⟨σ', H', J, q⟩ := hs
    exact fin (v := V.non) (u := Value.none) J rfl q
  | brk =>
    obtain ⟨_, _, _, q⟩ := hs
    exact False.elim q
  | cont =>
    obtain ⟨_, _, _, q⟩ := hs
    exact False.elim q
/-- THE RULE: a def of a class, super().__init__(..) ahead -/
theorem FunSup.ok {st : Stmt} {file x : Str} {fd : FuncData} {pl : Sem Bool} (F : FunSup K x qual st f cda cc D file fd) (Z : SupP P file) (S : NdefX.NScope N ps ["__class__"] (defScope st))
    (har : ∃ a : Arg, ((defArgs st).posonlyargs ++ (defArgs st).args).head? = some a ∧ a.arg = ar) (hst : defBody st = supBody e es rest p0 p1 p2 pos pos')
    (hks : (defScope st).names.lookup ("super" : Str) = some .globalImplicit) (hkc : (defScope st).names.lookup ("__class__" : Str) = some .free) (hi : N[i]? = some ar) (lo : (defScope st).names.lookup ar = some .local) (hm : mg "super" = none)
    (hft : PySem.W.typeIn K (.ref f2) = some (.type "function")) (hfi : PySem.W.fnIn K f2 = true) (F2 : FnOk P w K mg base CX0 k2 f2 fd2 ps2 sp2) (hk2 : k2 ≤ k) (hb2 : L2.Binds K fd2 ps2 [])
    (len : ∀ vs H Q E, sp vs H Q E → vs.length = ps.length)
    (hev : ∀ env : Env, eval (.Call (.Attribute (.Call (.Name "super" p0) [] [] p1) "__init__" p2) (e :: es) [] pos) env = (do
      let ov ← attributeBase (.Call (.Name "super" p0) [] [] p1) "__init__" env (eval (.Call (.Name "super" p0) [] [] p1) env)
      standAt p2.atName
      let (f, first) ← holding [ov] (getMethod ov "__init__" pl)
      callWith pos f first (backTo pos (starEach (e :: es) env)) []))
    (he : ∀ env : Env, starEach (e :: es) env = (false, eval e env) :: starEach es env) (hpl : ∀ env : Env, (backTo pos (starEach es env)).any (·.1) = false)
    (hbody : ∀ (A : Around) (outer : List Env) (s : Shared) (H : Hp) (vs : List V) (Q : VK) (E : XK), Room k (A.deeper (NdefX.envF (supNF x qual (defArgs st) (defBody st) (defScope st) cc cda) f s.heap.objs.size)) → sp vs H Q E →
      ∃ o C ta t, PA (NdefX.ncx CX0 P w K mg base N (supNF x qual (defArgs st) (defBody st) (defScope st) cc cda) f A outer s H E) (e :: es) ta ∧
        PSs (NdefX.ncx CX0 P w K mg base N (supNF x qual (defArgs st) (defBody st) (defScope st) cc cda) f A outer s H E) rest t ∧ (NdefX.startF N vs [none])[i]? = some (some (.ref o)) ∧ H o = some (exo o C none) ∧ OexC K C ∧
        PySem.W.mroIn K C (.ref D) = some true ∧ PySem.W.ks_superIn K C D "__init__" = some (some (.ref f2)) ∧
        ta (NdefX.startF N vs [none]) H fun ws H1 => sp2 (.ref o :: ws) H1 (fun _ H2 => t { nx := fun _ H' => Q .non H', rt := Q } (NdefX.startF N vs [none]) H2) E0) :
    FnOk P w K mg base CX0 (k + 1) f fd ps sp := by
  obtain ⟨oc, od, kV, doc, pm, an, ct, osl, rfl, lk, hcd⟩ := F.ex
  obtain ⟨ccl, cdd, ccs, vs, tf, hcode, hvs⟩ := F.code
  have SF : SupF P K f cda cc D (PySem.W.fnX x qual (defArgs st) (defBody st) (defScope st) [("__class__", cc)] .none kV doc pm an (.ref cda) ct) ar := ⟨⟨_, _, _, lk⟩, har, ⟨_, _, _, _, _, _, hcode, hvs, Z.fl⟩, F.cell, F.cls, Z.top, F.opq⟩
  rw [hst] at lk SF hbody ⊢
  exact sup_fn (pl := pl) lk hcd S SF hks hkc hi lo hm hft hfi F2 hk2 hb2 len he hpl hev hbody
end

/-! ### classes beside one another -/
/-- what the i-th of cs and the j-th of ds have to do with each other: nothing, but if i = j -/
def apartB (K : PySem.W.Frag) (cs ds : List Addr) : Bool := cs.zipIdx.all fun p => ds.zipIdx.all fun q => PySem.W.subIn K (.ref p.1) (.ref q.1) == some (decide (p.2 = q.2))
def beneathB (K : PySem.W.Frag) (cs : List Addr) (L : Addr) : Bool := cs.all fun c => PySem.W.subIn K (.ref c) (.ref L) == some true && PySem.W.subIn K (.ref c) (.type "ValueError") == some true && PySem.W.subIn K (.ref c) (.ref c) == some true
theorem apart_at {K : PySem.W.Frag} {cs ds : List Addr} (h : apartB K cs ds = true) {i j : Nat} {c d : Addr} (hc : cs[i]? = some c) (hd : ds[j]? = some d) : PySem.W.subIn K (.ref c) (.ref d) = some (decide (i = j)) := by
  unfold apartB at h
  rw [List.all_eq_true] at h
  have h1 := h (c, i) (by rw [List.mem_zipIdx_iff_getElem?]; exact hc)
  rw [List.all_eq_true] at h1
  have h2 := h1 (d, j) (by rw [List.mem_zipIdx_iff_getElem?]; exact hd)
  simpa using h2
theorem beneath_at {K : PySem.W.Frag} {cs : List Addr} {L c : Addr} (h : beneathB K cs L = true) (hc : c ∈ cs) : PySem.W.subIn K (.ref c) (.ref L) = some true ∧ PySem.W.subIn K (.ref c) (.type "ValueError") = some true ∧ PySem.W.subIn K (.ref c) (.ref c) = some true := by
  unfold beneathB at h
  rw [List.all_eq_true] at h
  have h1 := h c hc
  rw [Bool.and_eq_true, Bool.and_eq_true] at h1
  exact ⟨by simpa using h1.1.1, by simpa using h1.1.2, by simpa using h1.2⟩
theorem kit_pair {K : PySem.W.Frag} {C D : Addr} {b : Bool} (h0 : PySem.W.subIn K (.ref C) (.ref C) = some true) (h1 : PySem.W.hasDictIn K D = true) (h2 : PySem.W.typeIn K (.ref D) = some (.type "type")) (h3 : PySem.W.subIn K (.ref C) (.ref D) = some b) : PySem.W.kitOne K (.ref C) (.ref D) = some b := by
  by_cases e : C = D
  · subst e
    rw [kit_own, h0.symm.trans h3]
  · exact kit_ref_ref e h1 h2 h3
end UL

set_option Elab.async false
set_option linter.all false
set_option maxRecDepth 100000
namespace K06
open PySem PySem.Spec PyProof.Rows L2 Evl TL UL StX
/-! ### the text -/
def topS (i : Nat) : Stmt := PySem.Challenge.pw_unnamedlives_k06_errors.main.body.getD i (.Pass ⟨0, 0, 0, 0⟩)
abbrev s_copied : Stmt := topS 1
abbrev n_copied : List Str := ["thing", "levels", "part"]
abbrev p_copied : List Str := ["thing", "levels"]
theorem sc_copied : FnScope n_copied p_copied (defScope s_copied) := ⟨rfl, rfl, rfl, by decide +kernel, rfl, by decide +kernel, by decide +kernel⟩
abbrev s_lives_init : Stmt := inClass (topS 2) 0
abbrev n_lives_init : List Str := ["self", "what"]
abbrev p_lives_init : List Str := ["self", "what"]
theorem sc_lives_init : FnScope n_lives_init p_lives_init (defScope s_lives_init) := ⟨rfl, rfl, rfl, by decide +kernel, rfl, by decide +kernel, by decide +kernel⟩
abbrev s_dead_init : Stmt := inClass (topS 25) 0
abbrev n_dead_init : List Str := ["self", "row", "what", "__class__"]
abbrev p_dead_init : List Str := ["self", "row", "what"]
theorem sc_dead_init : NdefX.NScope n_dead_init p_dead_init ["__class__"] (defScope s_dead_init) := NdefX.nscope_by (by decide +kernel)
abbrev s_draws : Stmt := topS 27
abbrev n_draws : List Str := ["_law_script", "_law_draws_here", "_law_place", "_law_cell", "_law_rest", "_law_turn", "_law_mixed"]
abbrev p_draws : List Str := ["_law_script"]
theorem sc_draws : FnScope n_draws p_draws (defScope s_draws) := ⟨rfl, rfl, rfl, by decide +kernel, rfl, by decide +kernel, by decide +kernel⟩
abbrev s_take : Stmt := topS 28
abbrev n_take : List Str := ["_law_draws_here", "_law_many"]
abbrev p_take : List Str := ["_law_draws_here", "_law_many"]
theorem sc_take : FnScope n_take p_take (defScope s_take) := ⟨rfl, rfl, rfl, by decide +kernel, rfl, by decide +kernel, by decide +kernel⟩
abbrev s_name : Stmt := topS 29
abbrev n_name : List Str := ["_law_draws_here", "_law_k", "_law_letters", "_law_plain", "_law_shape", "_law_word"]
abbrev p_name : List Str := ["_law_draws_here", "_law_k"]
theorem sc_name : FnScope n_name p_name (defScope s_name) := ⟨rfl, rfl, rfl, by decide +kernel, rfl, by decide +kernel, by decide +kernel⟩
abbrev s_number : Stmt := topS 30
abbrev n_number : List Str := ["_law_draws_here", "_law_number_here", "_law_k"]
abbrev p_number : List Str := ["_law_draws_here"]
theorem sc_number : FnScope n_number p_number (defScope s_number) := ⟨rfl, rfl, rfl, by decide +kernel, rfl, by decide +kernel, by decide +kernel⟩
abbrev s_what : Stmt := topS 31
abbrev n_what : List Str := ["_law_draws_here", "_law_shape", "_law_k"]
abbrev p_what : List Str := ["_law_draws_here"]
theorem sc_what : FnScope n_what p_what (defScope s_what) := ⟨rfl, rfl, rfl, by decide +kernel, rfl, by decide +kernel, by decide +kernel⟩
abbrev s_early : Stmt := topS 32
abbrev n_early : List Str := ["_law_k", "_law_what_here"]
abbrev p_early : List Str := ["_law_k", "_law_what_here"]
theorem sc_early : FnScope n_early p_early (defScope s_early) := ⟨rfl, rfl, rfl, by decide +kernel, rfl, by decide +kernel, by decide +kernel⟩
abbrev s_error : Stmt := topS 33
abbrev n_error : List Str := ["_law_k", "_law_what_here"]
abbrev p_error : List Str := ["_law_k", "_law_what_here"]
theorem sc_error : FnScope n_error p_error (defScope s_error) := ⟨rfl, rfl, rfl, by decide +kernel, rfl, by decide +kernel, by decide +kernel⟩
abbrev s_kinds : Stmt := topS 34
abbrev n_kinds : List Str := ["_law_e", "_law_early_here"]
abbrev p_kinds : List Str := ["_law_e"]
theorem sc_kinds : FnScope n_kinds p_kinds (defScope s_kinds) := ⟨rfl, rfl, rfl, by decide +kernel, rfl, by decide +kernel, by decide +kernel⟩
abbrev s_same : Stmt := topS 35
abbrev n_same : List Str := ["_law_one", "_law_other"]
abbrev p_same : List Str := ["_law_one", "_law_other"]
theorem sc_same : FnScope n_same p_same (defScope s_same) := ⟨rfl, rfl, rfl, by decide +kernel, rfl, by decide +kernel, by decide +kernel⟩
abbrev s_base_of : Stmt := topS 36
abbrev n_base_of : List Str := ["_law_e"]
abbrev p_base_of : List Str := ["_law_e"]
theorem sc_base_of : FnScope n_base_of p_base_of (defScope s_base_of) := ⟨rfl, rfl, rfl, by decide +kernel, rfl, by decide +kernel, by decide +kernel⟩
abbrev s_law : Stmt := topS 37
abbrev n_law : List Str := ["_law_script", "_law_draws_here", "_law_k", "_law_what_here", "_law_e", "_law_other", "_law_row", "_law_plain", "_law_j"]
abbrev p_law : List Str := ["_law_script"]
theorem sc_law : FnScope n_law p_law (defScope s_law) := ⟨rfl, rfl, rfl, by decide +kernel, rfl, by decide +kernel, by decide +kernel⟩
structure Adr where
  copied : Addr
  d_copied : FuncData
  lives_init : Addr
  d_lives_init : FuncData
  dead_init : Addr
  d_dead_init : FuncData
  draws : Addr
  d_draws : FuncData
  take : Addr
  d_take : FuncData
  name : Addr
  d_name : FuncData
  number : Addr
  d_number : FuncData
  what : Addr
  d_what : FuncData
  early : Addr
  d_early : FuncData
  error : Addr
  d_error : FuncData
  kinds : Addr
  d_kinds : FuncData
  same : Addr
  d_same : FuncData
  base_of : Addr
  d_base_of : FuncData
  law : Addr
  d_law : FuncData
  cda_dead_init : Addr
  cc_dead_init : Addr
  file_dead_init : Str
  InvalidSignature : Addr
  DuplicateFunction : Addr
  UnknownFunction : Addr
  InvalidExpression : Addr
  InvalidRow : Addr
  InvalidLine : Addr
  UnknownName : Addr
  DuplicateName : Addr
  NotReference : Addr
  WrongCount : Addr
  Unbalanced : Addr
  TooLarge : Addr
  BadChoice : Addr
  Ended : Addr
  NoPlace : Addr
  NoValue : Addr
  NeverTogether : Addr
  NoFact : Addr
  NoWay : Addr
  NotLoose : Addr
  NoMend : Addr
  OtherOuts : Addr
  DeadLook : Addr
  LivesError : Addr
structure Tx (K : PySem.W.Frag) (mg : Str → Option Value) (A : Adr) : Prop where
  F_copied : FunD K "copied" "copied" (defArgs s_copied) (defBody s_copied) (defScope s_copied) [.int 4] [] A.copied A.d_copied
  g_copied : mg "copied" = some (.ref A.copied)
  F_lives_init : Fun K "__init__" "LivesError.__init__" s_lives_init A.lives_init A.d_lives_init
  b_lives_init : L2.Binds K A.d_lives_init p_lives_init []
  ti_lives_init : PySem.W.typeIn K (.ref A.lives_init) = some (.type "function")
  F_dead_init : UL.FunSup K "__init__" "DeadLook.__init__" s_dead_init A.dead_init A.cda_dead_init A.cc_dead_init A.DeadLook A.file_dead_init A.d_dead_init
  b_dead_init : L2.Binds K A.d_dead_init p_dead_init []
  ti_dead_init : PySem.W.typeIn K (.ref A.dead_init) = some (.type "function")
  F_draws : Fun K "_law_draws" "_law_draws" s_draws A.draws A.d_draws
  b_draws : L2.Binds K A.d_draws p_draws []
  g_draws : mg "_law_draws" = some (.ref A.draws)
  F_take : Fun K "_law_take" "_law_take" s_take A.take A.d_take
  b_take : L2.Binds K A.d_take p_take []
  g_take : mg "_law_take" = some (.ref A.take)
  F_name : Fun K "_law_name" "_law_name" s_name A.name A.d_name
  b_name : L2.Binds K A.d_name p_name []
  g_name : mg "_law_name" = some (.ref A.name)
  F_number : Fun K "_law_number" "_law_number" s_number A.number A.d_number
  b_number : L2.Binds K A.d_number p_number []
  g_number : mg "_law_number" = some (.ref A.number)
  F_what : Fun K "_law_what" "_law_what" s_what A.what A.d_what
  b_what : L2.Binds K A.d_what p_what []
  g_what : mg "_law_what" = some (.ref A.what)
  F_early : Fun K "_law_early" "_law_early" s_early A.early A.d_early
  b_early : L2.Binds K A.d_early p_early []
  g_early : mg "_law_early" = some (.ref A.early)
  F_error : Fun K "_law_error" "_law_error" s_error A.error A.d_error
  b_error : L2.Binds K A.d_error p_error []
  g_error : mg "_law_error" = some (.ref A.error)
  F_kinds : Fun K "_law_kinds" "_law_kinds" s_kinds A.kinds A.d_kinds
  b_kinds : L2.Binds K A.d_kinds p_kinds []
  g_kinds : mg "_law_kinds" = some (.ref A.kinds)
  F_same : Fun K "_law_same_thing" "_law_same_thing" s_same A.same A.d_same
  b_same : L2.Binds K A.d_same p_same []
  g_same : mg "_law_same_thing" = some (.ref A.same)
  F_base_of : Fun K "_law_base" "_law_base" s_base_of A.base_of A.d_base_of
  b_base_of : L2.Binds K A.d_base_of p_base_of []
  g_base_of : mg "_law_base" = some (.ref A.base_of)
  F_law : Fun K "law" "law" s_law A.law A.d_law
  b_law : L2.Binds K A.d_law p_law []
  g_law : mg "law" = some (.ref A.law)
  m_ValueError : mg "ValueError" = none
  m_abs : mg "abs" = none
  m_dict : mg "dict" = none
  m_int : mg "int" = none
  m_isinstance : mg "isinstance" = none
  m_len : mg "len" = none
  m_list : mg "list" = none
  m_min : mg "min" = none
  m_range : mg "range" = none
  m_str : mg "str" = none
  m_super : mg "super" = none
  m_tuple : mg "tuple" = none
  g_InvalidSignature : mg "InvalidSignature" = some (.ref A.InvalidSignature)
  ex_InvalidSignature : UL.ExF K A.InvalidSignature A.lives_init
  xi_InvalidSignature : UL.ExI K A.InvalidSignature
  g_DuplicateFunction : mg "DuplicateFunction" = some (.ref A.DuplicateFunction)
  ex_DuplicateFunction : UL.ExF K A.DuplicateFunction A.lives_init
  xi_DuplicateFunction : UL.ExI K A.DuplicateFunction
  g_UnknownFunction : mg "UnknownFunction" = some (.ref A.UnknownFunction)
  ex_UnknownFunction : UL.ExF K A.UnknownFunction A.lives_init
  xi_UnknownFunction : UL.ExI K A.UnknownFunction
  g_InvalidExpression : mg "InvalidExpression" = some (.ref A.InvalidExpression)
  ex_InvalidExpression : UL.ExF K A.InvalidExpression A.lives_init
  xi_InvalidExpression : UL.ExI K A.InvalidExpression
  g_InvalidRow : mg "InvalidRow" = some (.ref A.InvalidRow)
  ex_InvalidRow : UL.ExF K A.InvalidRow A.lives_init
  xi_InvalidRow : UL.ExI K A.InvalidRow
  g_InvalidLine : mg "InvalidLine" = some (.ref A.InvalidLine)
  ex_InvalidLine : UL.ExF K A.InvalidLine A.lives_init
  xi_InvalidLine : UL.ExI K A.InvalidLine
  g_UnknownName : mg "UnknownName" = some (.ref A.UnknownName)
  ex_UnknownName : UL.ExF K A.UnknownName A.lives_init
  xi_UnknownName : UL.ExI K A.UnknownName
  g_DuplicateName : mg "DuplicateName" = some (.ref A.DuplicateName)
  ex_DuplicateName : UL.ExF K A.DuplicateName A.lives_init
  xi_DuplicateName : UL.ExI K A.DuplicateName
  g_NotReference : mg "NotReference" = some (.ref A.NotReference)
  ex_NotReference : UL.ExF K A.NotReference A.lives_init
  xi_NotReference : UL.ExI K A.NotReference
  g_WrongCount : mg "WrongCount" = some (.ref A.WrongCount)
  ex_WrongCount : UL.ExF K A.WrongCount A.lives_init
  xi_WrongCount : UL.ExI K A.WrongCount
  g_Unbalanced : mg "Unbalanced" = some (.ref A.Unbalanced)
  ex_Unbalanced : UL.ExF K A.Unbalanced A.lives_init
  xi_Unbalanced : UL.ExI K A.Unbalanced
  g_TooLarge : mg "TooLarge" = some (.ref A.TooLarge)
  ex_TooLarge : UL.ExF K A.TooLarge A.lives_init
  xi_TooLarge : UL.ExI K A.TooLarge
  g_BadChoice : mg "BadChoice" = some (.ref A.BadChoice)
  ex_BadChoice : UL.ExF K A.BadChoice A.lives_init
  xi_BadChoice : UL.ExI K A.BadChoice
  g_Ended : mg "Ended" = some (.ref A.Ended)
  ex_Ended : UL.ExF K A.Ended A.lives_init
  xi_Ended : UL.ExI K A.Ended
  g_NoPlace : mg "NoPlace" = some (.ref A.NoPlace)
  ex_NoPlace : UL.ExF K A.NoPlace A.lives_init
  xi_NoPlace : UL.ExI K A.NoPlace
  g_NoValue : mg "NoValue" = some (.ref A.NoValue)
  ex_NoValue : UL.ExF K A.NoValue A.lives_init
  xi_NoValue : UL.ExI K A.NoValue
  g_NeverTogether : mg "NeverTogether" = some (.ref A.NeverTogether)
  ex_NeverTogether : UL.ExF K A.NeverTogether A.lives_init
  xi_NeverTogether : UL.ExI K A.NeverTogether
  g_NoFact : mg "NoFact" = some (.ref A.NoFact)
  ex_NoFact : UL.ExF K A.NoFact A.lives_init
  xi_NoFact : UL.ExI K A.NoFact
  g_NoWay : mg "NoWay" = some (.ref A.NoWay)
  ex_NoWay : UL.ExF K A.NoWay A.lives_init
  xi_NoWay : UL.ExI K A.NoWay
  g_NotLoose : mg "NotLoose" = some (.ref A.NotLoose)
  ex_NotLoose : UL.ExF K A.NotLoose A.lives_init
  xi_NotLoose : UL.ExI K A.NotLoose
  g_NoMend : mg "NoMend" = some (.ref A.NoMend)
  ex_NoMend : UL.ExF K A.NoMend A.lives_init
  xi_NoMend : UL.ExI K A.NoMend
  g_OtherOuts : mg "OtherOuts" = some (.ref A.OtherOuts)
  ex_OtherOuts : UL.ExF K A.OtherOuts A.lives_init
  xi_OtherOuts : UL.ExI K A.OtherOuts
  g_DeadLook : mg "DeadLook" = some (.ref A.DeadLook)
  ex_DeadLook : UL.ExF K A.DeadLook A.dead_init
  xi_DeadLook : UL.ExI K A.DeadLook
  g_LivesError : mg "LivesError" = some (.ref A.LivesError)
  ex_LivesError : UL.ExF K A.LivesError A.lives_init
  xi_LivesError : UL.ExI K A.LivesError
  kk : UL.apartB K [A.InvalidSignature, A.DuplicateFunction, A.UnknownFunction, A.InvalidExpression, A.InvalidRow, A.InvalidLine, A.UnknownName, A.DuplicateName, A.NotReference, A.WrongCount, A.Unbalanced, A.TooLarge, A.BadChoice, A.Ended, A.NoPlace, A.NoValue, A.NeverTogether, A.NoFact, A.NoWay, A.NotLoose, A.NoMend, A.OtherOuts, A.DeadLook, A.LivesError] [A.InvalidSignature, A.DuplicateFunction, A.UnknownFunction, A.InvalidExpression, A.InvalidRow, A.InvalidLine, A.UnknownName, A.DuplicateName, A.NotReference, A.WrongCount, A.Unbalanced, A.TooLarge, A.BadChoice, A.Ended, A.NoPlace, A.NoValue, A.NeverTogether, A.NoFact, A.NoWay, A.NotLoose, A.NoMend, A.OtherOuts, A.DeadLook] = true
  kl : UL.beneathB K [A.InvalidSignature, A.DuplicateFunction, A.UnknownFunction, A.InvalidExpression, A.InvalidRow, A.InvalidLine, A.UnknownName, A.DuplicateName, A.NotReference, A.WrongCount, A.Unbalanced, A.TooLarge, A.BadChoice, A.Ended, A.NoPlace, A.NoValue, A.NeverTogether, A.NoFact, A.NoWay, A.NotLoose, A.NoMend, A.OtherOuts, A.DeadLook, A.LivesError] A.LivesError = true
  nr : PySem.W.findIn K (.ref A.DeadLook) "row" = some none
  mD : PySem.W.mroIn K A.DeadLook (.ref A.DeadLook) = some true
  sD : PySem.W.ks_superIn K A.DeadLook A.DeadLook "__init__" = some (some (.ref A.lives_init))
  fL : PySem.W.fnIn K A.lives_init = true
section
variable {P : Program} {w : World} {K : PySem.W.Frag} {mg : Str → Option Value} {base : Heap} {A : Adr}
def spTake : Sp := fun vs H Q _ => ∃ d m, vs = [.ref d, .int m] ∧ H d = some (DrO d) ∧ 0 < m ∧ ∀ n : Int, 0 ≤ n → n < m → Q (.int n) H
theorem ok_take (T : Tx K mg A) : FnOk P w K mg base CX0 1 A.take A.d_take p_take spTake := by
  refine T.F_take.ok sc_take (fun vs H Q E h => ?_) (fun cdv Ar outer s H vs Q E hr h => ?_)
  · obtain ⟨d, m, rfl, _⟩ := h
    rfl
  · obtain ⟨d, m, rfl, hd, hm, k⟩ := h
    refine ⟨_, (UL.pss_open 0 (pss_cons (ps_if (pt_cmpR op_eq (pe_callB call_len_seq (by rfl) T.m_len PySem.boot_len (pa_cons (pv 0) pa_nil)) pe_int (nomark _)) (pss_one (ps_ret (UL.pe_close pe_int))) pss_nil)
      (pss_one (ps_ret (UL.pe_close (pe_op op_mod (pe_callTy call_int1 (by rfl) T.m_int (by decide +kernel) (pa_cons (pe_bm PySem.F.plainAttrs_list PySem.F.slot_list_pop PySem.F.type_list_pop mt_popAt (pv 0) (pa_cons pe_int pa_nil)) pa_nil)) (pv 1))))))), ?_⟩
    refine ⟨d, rfl, hd, fun ns g => ?_⟩
    refine ⟨.ref d, rfl, d, _, rfl, .inl (SqL.of upd_same), rfl, _, rfl, ite2 (fun e => ?_) (fun e => ?_)⟩
    · refine ⟨d, ns, upd_same, g, ?_⟩
      show Q _ (upd (upd H d _) d _)
      rw [upd_back hd]
      exact k 0 (Int.le_refl 0) hm
    · obtain ⟨n, r, rfl⟩ : ∃ n r, ns = n :: r := by
        cases ns with
        | nil => exact absurd (decide_eq_true rfl) e
        | cons n r => exact ⟨n, r, rfl⟩
      obtain ⟨n0, n1, gr⟩ := good_tail g
      refine ⟨.ref d, rfl, .inl ⟨rfl, _, SqL.of upd_same⟩, d, _, 0, 0, .int n, rfl, rfl, upd_same, by decide, by decide, (by rw [List.length_map]; exact seq0 _), rfl, .inl ⟨n, rfl, .int m, rfl, n, m, rfl, rfl, hm, d, r, upd_same, gr, ?_⟩⟩
      rw [upd_upd, upd_upd, upd_id hd]
      exact k _ (Int.emod_nonneg _ (by omega)) (Int.emod_lt_of_pos _ hm)
def spDraws (K : PySem.W.Frag) : Sp := fun vs H Q _ => ∃ (a : Addr) (ns : List Int), vs = [.ref a] ∧ SqL K H a (ns.map V.int) ∧ ns.length ≤ 63 ∧ ∀ p, H p = none → Q (.ref p) (upd H p (DrO p))
def DrawsAt (H : Hp) (p : Addr) (i : Nat) (H' : Hp) : Prop := ∃ ms : List Int, H' = upd H p (.lst (ms.map V.int)) ∧ (∀ m ∈ ms, 0 ≤ m ∧ m < 1000003) ∧ ms.length ≤ i
theorem draws_add {H H' : Hp} {p : Addr} {i : Nat} (h : DrawsAt H p i H') (hi : i < 4000) {P : Prop} (k : ∀ ms : List V, H' p = some (.lst ms) → ms.length < sizeLine → (∀ x : Int, DrawsAt H p (i + 1) (upd H' p (.lst (ms ++ [.int (x % 1000003)])))) → P) : P := by
  obtain ⟨ms, rfl, g, hl⟩ := h
  refine k (ms.map V.int) upd_same (by rw [List.length_map]; exact Nat.lt_of_le_of_lt hl (Nat.lt_trans hi (by decide))) fun x => ⟨ms ++ [x % 1000003], ?_, good_add g emod_in, ?_⟩
  · rw [upd_upd, List.map_append]
    rfl
  · rw [List.length_append, List.length_singleton]
    omega
theorem ok_draws (T : Tx K mg A) : FnOk P w K mg base CX0 1 A.draws A.d_draws p_draws (spDraws K) := by
  refine T.F_draws.ok sc_draws (fun vs H Q E h => ?_) (fun cdv Ar outer s H vs Q E hr h => ?_)
  · obtain ⟨a, ns, rfl, _⟩ := h
    rfl
  · obtain ⟨a, ns, rfl, hS, hlen, k⟩ := h
    refine ⟨_, (pss_cons (ps_set (i := 1) sc_draws.nd rfl (Or.inl rfl) (pe_lst pa_nil))
      (pss_cons (ps_for PassesOwn.never rfl (pi_range1 (by rfl) T.m_range (pa_cons (pe_callB (call_min2 rfl) (by rfl) T.m_min (by decide +kernel) (pa_cons pe_int (pa_cons (pe_callB call_len_seq (by rfl) T.m_len PySem.boot_len (pa_cons (pv 0) pa_nil)) pa_nil))) pa_nil)) (pg_name (i := 2) sc_draws.nd rfl (Or.inl rfl)) (pss_cons (ps_set (i := 3) sc_draws.nd rfl (Or.inl rfl) (pe_callTy call_int1 (by rfl) T.m_int (by decide +kernel) (pa_cons (pe_ix ix_list (pv 0) (pv 2) (fun _ _ => rfl)) pa_nil)))
        (pss_cons (ps_set (i := 4) sc_draws.nd rfl (Or.inl rfl) (pe_op op_mul pe_int (pe_callB call_abs (by rfl) T.m_abs (by decide +kernel) (pa_cons (pv 3) pa_nil))))
        (Evl.pss_cut (ps_if (pt_cmpR op_lt (pv 3) pe_int (nomark _)) (pss_one (ps_set (i := 4) sc_draws.nd rfl (Or.inl rfl) (pe_op op_add (pv 4) pe_int))) pss_nil)
        (pss_one (ps_if (pt_cmpR op_lt (pv 4) (pe_op op_mul pe_int (pe_op op_pow pe_int pe_int)) (nomark _)) (pss_one (ps_for PassesOwn.never rfl (pi_range1 (by rfl) T.m_range (pa_cons pe_int pa_nil)) (pg_name (i := 5) sc_draws.nd rfl (Or.inl rfl)) (pss_cons (ps_set (i := 6) sc_draws.nd rfl (Or.inl rfl) (pe_op op_mod (pe_callTy call_int1 (by rfl) T.m_int (by decide +kernel) (pa_cons (pe_op op_add (pe_op op_mul (pe_op op_add (pv 4) pe_int) (pe_op op_add pe_int (pe_op op_mul pe_int (pv 2)))) (pe_op op_mul pe_int (pv 5))) pa_nil)) pe_int))
            (pss_cons (ps_set (i := 6) sc_draws.nd rfl (Or.inl rfl) (pe_op op_mod (pe_callTy call_int1 (by rfl) T.m_int (by decide +kernel) (pa_cons (pe_op op_mul (pv 6) (pv 6)) pa_nil)) pe_int))
            (pss_one (ps_expr (pe_bm PySem.F.plainAttrs_list PySem.F.slot_list_append PySem.F.type_list_append mt_append (pv 1) (pa_cons (pe_op op_mod (pe_callTy call_int1 (by rfl) T.m_int (by decide +kernel) (pa_cons (pv 6) pa_nil)) pe_int) pa_nil)))))))) (pss_one (ps_for PassesOwn.never rfl (pi_range1 (by rfl) T.m_range (pa_cons pe_int pa_nil)) (pg_name (i := 5) sc_draws.nd rfl (Or.inl rfl)) (pss_one (ps_if (pt_cmpR op_gt (pv 4) pe_int (nomark _)) (pss_cons (ps_expr (pe_bm PySem.F.plainAttrs_list PySem.F.slot_list_append PySem.F.type_list_append mt_append (pv 1) (pa_cons (pe_op op_mod (pe_callTy call_int1 (by rfl) T.m_int (by decide +kernel) (pa_cons (pv 4) pa_nil)) pe_int) pa_nil)))
              (pss_one (ps_set (i := 4) sc_draws.nd rfl (Or.inl rfl) (pe_op op_fdiv (pv 4) pe_int)))) pss_nil))))))))))
      (pss_one (ps_ret (UL.pe_close (pv 1)))))), ?_⟩
    refine ⟨Nat.zero_le _, fun p hp => ?_⟩
    have eL : ∀ {j H'}, DrawsAt H p j H' → SqL K H' a (ns.map V.int) := fun ⟨ms, e, _⟩ => by
      rw [e]
      exact (same_upd hp).seq hS
    refine ⟨.ref a, rfl, a, _, rfl, .inl ((same_upd hp).seq hS), 63, _, rfl, ?_⟩
    have hm : (if (((ns.map V.int).length : Nat) : Int) < 63 then (((ns.map V.int).length : Nat) : Int) else 63) = (ns.length : Int) := by
      rw [List.length_map]
      split <;> omega
    rw [hm]
    refine ⟨(ns.length : Int), rfl, forR1 ⟨by omega, by omega⟩ (fun i σ H' => ∃ v2 v3 v4 v5 v6, σ = [some (.ref a), some (.ref p), v2, v3, v4, v5, v6] ∧ DrawsAt H p (60 * i) H') ⟨none, none, none, none, none, rfl, [], rfl, fun _ h => (nomatch h), Nat.le_refl _⟩ ?_ ?_⟩
    · rintro i σ' H' hi ⟨v2, v3, v4, v5, v6, rfl, hD⟩
      have hi' : i < ns.length := by omega
      -- cell, rest
      refine ⟨.ref a, rfl, .int (i : Int), rfl, a, _, _, .int ns[i], rfl, rfl, eL hD, atI_nat (int_get hi'), .inl ⟨ns[i], rfl, ?_⟩⟩
      refine ⟨.int ns[i], rfl, ns[i], rfl, 2, _, rfl, rfl, .inl ⟨by decide, by decide⟩, ?_⟩
      have h0 : 0 ≤ 2 * (if ns[i] < 0 then -ns[i] else ns[i]) := by split <;> omega
      refine ⟨fun σ2 H2 => ∃ r : Int, 0 ≤ r ∧ σ2 = [some (.ref a), some (.ref p), some (.int (i : Int)), some (.int ns[i]), some (.int r), v5, v6] ∧ H2 = H', ?_, ?_⟩
      · refine ⟨_, rfl, _, 0, rfl, rfl, _, rfl, ite2 (fun _ => ?_) (fun _ => ?_)⟩
        · exact ⟨_, rfl, _, 1, rfl, rfl, _, Int.le_add_one h0, rfl, rfl⟩
        · exact ⟨_, h0, rfl, rfl⟩
      · generalize ns[i] = c
        rintro σ2 H2 ⟨r, h0, rfl, rfl⟩
        refine ⟨.int r, rfl, 10, 18, rfl, rfl, ⟨by decide, by decide, by decide⟩, 2, _, rfl, rfl, .inl ⟨by decide, by decide⟩, r, _, rfl, rfl, _, rfl, ite2 (fun e => ?_) (fun e => ?_)⟩
        · have hr1 : r < 2 * 10 ^ 18 := of_decide_eq_true e
          refine ⟨4, rfl, forR1 ⟨by decide, by decide⟩ (fun t σ H' => ∃ v5 v6, σ = [some (.ref a), some (.ref p), some (.int (i : Int)), some (.int c), some (.int r), v5, v6] ∧ DrawsAt H p (60 * i + t) H') ⟨_, _, rfl, hD⟩ ?_ ?_⟩
          · rintro t σ' H' ht ⟨v5, v6, rfl, hD⟩
            have hi63 : (i : Int) < 63 := by omega
            refine ⟨_, rfl, r, 1, rfl, rfl, _, rfl, 2, _, rfl, rfl, .inl ⟨by decide, by decide⟩, 48271, _, rfl, rfl, _, _, rfl, rfl, .inr ⟨by omega, by omega⟩, _, rfl, 69621, _, rfl, rfl, .inl ⟨by decide, by decide⟩, _, _, rfl, rfl, .inl ⟨_, rfl, _, 2147483647, rfl, rfl, (show (0 : Int) < 2147483647 by decide), ?_⟩⟩
            have hx0 : 0 ≤ ((r + 1) * (48271 + 2 * (i : Int)) + 69621 * (t : Int)) % 2147483647 := Int.emod_nonneg _ (by decide)
            have hx1 : ((r + 1) * (48271 + 2 * (i : Int)) + 69621 * (t : Int)) % 2147483647 < 2147483647 := Int.emod_lt_of_pos _ (by decide)
            refine ⟨_, rfl, _, rfl, _, _, rfl, rfl, .inl ⟨Int.lt_of_lt_of_le (by decide) hx0, Int.lt_trans hx1 (by decide)⟩, .inl ⟨_, rfl, _, 2147483629, rfl, rfl, (show (0 : Int) < 2147483629 by decide), ?_⟩⟩
            refine draws_add hD (by omega) fun ms h1 h2 h3 => ?_
            refine ⟨.ref p, rfl, .inl ⟨rfl, _, SqL.of h1⟩, _, rfl, .inl ⟨_, rfl, _, 1000003, rfl, rfl, (show (0 : Int) < 1000003 by decide), p, ms, _, rfl, rfl, h1, h2, ?_⟩⟩
            exact ⟨_, _, rfl, h3 _⟩
          · rintro σ' H' ⟨v5, v6, rfl, ms, e, g, hl⟩
            exact ⟨_, _, _, _, _, rfl, ms, e, g, Nat.le_trans hl (by show 60 * i + 4 ≤ 60 * (i + 1); omega)⟩
        · refine ⟨60, rfl, forR1 ⟨by decide, by decide⟩ (fun t σ H' => ∃ r v5 v6, σ = [some (.ref a), some (.ref p), some (.int (i : Int)), some (.int c), some (.int r), v5, v6] ∧ DrawsAt H p (60 * i + t) H') ⟨_, _, _, rfl, hD⟩ ?_ ?_⟩
          · rintro t σ' H' ht ⟨r, v5, v6, rfl, hD⟩
            refine ⟨.int r, rfl, r, 0, rfl, rfl, _, rfl, ite2 (fun _ => ?_) (fun _ => ?_)⟩
            · refine draws_add hD (by omega) fun ms h1 h2 h3 => ?_
              refine ⟨.ref p, rfl, .inl ⟨rfl, _, SqL.of h1⟩, .int r, rfl, .inl ⟨r, rfl, r, 1000003, rfl, rfl, (show (0 : Int) < 1000003 by decide), p, ms, _, rfl, rfl, h1, h2, ?_⟩⟩
              refine ⟨.int r, rfl, r, 1000003, rfl, rfl, ⟨by decide, by decide⟩, ?_⟩
              exact ⟨_, _, _, rfl, h3 _⟩
            · obtain ⟨ms, e, g, hl⟩ := hD
              exact ⟨_, _, _, rfl, ms, e, g, Nat.le_succ_of_le hl⟩
          · rintro σ' H' ⟨r, v5, v6, rfl, ms, e, g, hl⟩
            exact ⟨_, _, _, _, _, rfl, ms, e, g, Nat.le_trans hl (by show 60 * i + 60 ≤ 60 * (i + 1); omega)⟩
    · rintro σ' H' ⟨v2, v3, v4, v5, v6, rfl, ms, rfl, g, hl⟩
      refine ⟨.ref p, rfl, p, ms, upd_same, ⟨g, Nat.le_trans hl (by omega)⟩, ?_⟩
      rw [upd_upd]
      exact k p hp
def kWords : List V := [V.str "fun", V.str "out", V.str "use", V.str "val", V.str "ref", V.str "set", V.str "block", V.str "if", V.str "else", V.str "loop", V.str "end", V.str "part", V.str "pick", V.str "then", V.str "dead"]
def NoStr (H : Hp) (v : V) : Prop := v = .non ∨ (∃ b, v = .bl b) ∨ (∃ i, v = .int i) ∨ (∃ a xs, v = .ref a ∧ (H a = some (.lst xs) ∨ H a = some (.tup xs))) ∨ ∃ a kvs, v = .ref a ∧ H a = some (.dK kvs)
def Th (H : Hp) (v : V) : Prop := (∃ z, v = .str z ∧ z.length ≤ 64) ∨ NoStr H v
theorem Th.mono {H H' : Hp} {v : V} (e : Ex H H') (h : Th H v) : Th H' v := by
  rcases h with h | h | h | h | ⟨a, xs, h, h1 | h1⟩ | ⟨a, kvs, h, h1⟩
  · exact .inl h
  · exact .inr (.inl h)
  · exact .inr (.inr (.inl h))
  · exact .inr (.inr (.inr (.inl h)))
  · exact .inr (.inr (.inr (.inr (.inl ⟨a, xs, h, .inl (e _ _ h1)⟩))))
  · exact .inr (.inr (.inr (.inr (.inl ⟨a, xs, h, .inr (e _ _ h1)⟩))))
  · exact .inr (.inr (.inr (.inr (.inr ⟨a, kvs, h, e _ _ h1⟩))))
def isS : V → Bool
  | .str _ => true
  | _ => false
theorem Th.isi {K : PySem.W.Frag} {H : Hp} {v : V} (h : Th H v) : ∃ t, TyX K H v t ∧ PySem.W.kitOne K t (.type "str") = some (isS v) := by
  rcases h with ⟨z, rfl, _⟩ | rfl | ⟨b, rfl⟩ | ⟨i, rfl⟩ | ⟨a, xs, rfl, h1 | h1⟩ | ⟨a, kvs, rfl, h1⟩
  · exact ⟨_, .base (.str z), kit_ty (r := true) (by decide +kernel)⟩
  · exact ⟨_, .base .non, kit_ty (r := false) (by decide +kernel)⟩
  · exact ⟨_, .base (.bl b), kit_ty (r := false) (by decide +kernel)⟩
  · exact ⟨_, .base (.int i), kit_ty (r := false) (by decide +kernel)⟩
  · exact ⟨_, .base (.lst h1), kit_ty (r := false) (by decide +kernel)⟩
  · exact ⟨_, .base (.tup h1), kit_ty (r := false) (by decide +kernel)⟩
  · exact ⟨_, .base (.dK h1), kit_ty (r := false) (by decide +kernel)⟩
def wordsS : List Str := ["fun", "out", "use", "val", "ref", "set", "block", "if", "else", "loop", "end", "part", "pick", "then", "dead"]
theorem kWords_eq : kWords = wordsS.map V.str := rfl
def alnum (c : Nat) : Bool := decide (c ∈ tl "abcdefghijklmnopqrstuvwxyz") || decide (c ∈ tl "0123456789")
def okS (z : Str) : Bool := decide (1 ≤ z.length) && decide (z.length ≤ 8) && (match tl z with | c :: _ => decide (c ∈ tl "abcdefghijklmnopqrstuvwxyz") | [] => false) && !inV (.str z) kWords && (tl z).all alnum
def tl36 : List Nat := tl "abcdefghijklmnopqrstuvwxyz0123456789"
theorem tl36_eq : tl36 = tl "abcdefghijklmnopqrstuvwxyz" ++ tl "0123456789" := by decide +kernel
theorem alnum36 (c : Nat) : alnum c = decide (c ∈ tl36) := by
  unfold alnum
  rw [tl36_eq]
  by_cases h1 : c ∈ tl "abcdefghijklmnopqrstuvwxyz" <;> by_cases h2 : c ∈ tl "0123456789" <;> simp [h1, h2]
theorem apart : ∀ c ∈ tl "abcdefghijklmnopqrstuvwxyz", c ∉ tl "0123456789" := by decide +kernel
/-! ### drawn names -/
def tlL : List Nat := tl "abcdefghijklmnopqrstuvwxyz"
def tlD : List Nat := tl "0123456789"
structure Wd (z : Str) : Prop where
  first : ∃ c r, tl z = c :: r ∧ c ∈ tlL
  all : ∀ c ∈ tl z, alnum c = true
  len : 2 ≤ z.length ∧ z.length ≤ 8
  dig : ∃ c ∈ tl z, c ∈ tlD
theorem alL {c : Nat} (h : c ∈ tlL) : alnum c = true := by
  unfold alnum
  rw [show decide (c ∈ tl "abcdefghijklmnopqrstuvwxyz") = true from decide_eq_true h, Bool.true_or]
theorem alD {c : Nat} (h : c ∈ tlD) : alnum c = true := by
  unfold alnum
  rw [show decide (c ∈ tl "0123456789") = true from decide_eq_true h, Bool.or_true]
theorem nodig : ∀ w ∈ wordsS, ∀ c ∈ tl w, c ∉ tlD := by decide +kernel
theorem Wd.ok {z : Str} (h : Wd z) : okS z = true := by
  obtain ⟨⟨c, r, hcr, hc⟩, h2, ⟨h3, h4⟩, d, hd, hdd⟩ := h
  have hi : inV (.str z) kWords = false := by
    unfold inV
    rw [List.any_eq_false]
    intro y hy
    rw [kWords_eq] at hy
    obtain ⟨w, hw, rfl⟩ := List.mem_map.mp hy
    intro e
    have e1 : w = z := by
      have : (w == z) = true := e
      simpa using this
    subst e1
    exact nodig w hw d hd hdd
  unfold okS
  rw [hi, List.all_eq_true.mpr h2, hcr, decide_eq_true (show 1 ≤ z.length by omega), decide_eq_true h4]
  show (true && true && decide (c ∈ tl "abcdefghijklmnopqrstuvwxyz") && !false && true) = true
  rw [show decide (c ∈ tl "abcdefghijklmnopqrstuvwxyz") = true from decide_eq_true hc]
  rfl
theorem dig_mem {c : Nat} (h : 48 ≤ c ∧ c ≤ 57) : c ∈ tlD := by
  have : c = 48 ∨ c = 49 ∨ c = 50 ∨ c = 51 ∨ c = 52 ∨ c = 53 ∨ c = 54 ∨ c = 55 ∨ c = 56 ∨ c = 57 := by omega
  rcases this with h | h | h | h | h | h | h | h | h | h <;> (subst h; decide +kernel)
theorem num_ok {k : Int} (h0 : 0 ≤ k) (h1 : k < 100) : (∀ c ∈ tl (Str.ofString (toString k)), c ∈ tlD) ∧ 1 ≤ (tl (Str.ofString (toString k))).length ∧ (tl (Str.ofString (toString k))).length ≤ 2 := by
  obtain ⟨n, rfl⟩ := Int.eq_ofNat_of_zero_le h0
  rw [tl_num]
  refine ⟨fun c hc => dig_mem (numL_digits n c hc), ?_, numL_len (by decide) (by omega)⟩
  have := numL_ne n
  cases e : numL n with
  | nil => exact absurd e this
  | cons a r => show 1 ≤ r.length + 1; omega
theorem wd_num {c : Nat} {k : Int} (hc : c ∈ tlL) (h0 : 0 ≤ k) (h1 : k < 100) : Wd ((⟨#[c]⟩ : Str) ++ Str.ofString (toString k)) ∧ ((⟨#[c]⟩ : Str) ++ Str.ofString (toString k)).length ≤ 3 := by
  obtain ⟨n1, n2, n3⟩ := num_ok h0 h1
  have e : tl ((⟨#[c]⟩ : Str) ++ Str.ofString (toString k)) = c :: tl (Str.ofString (toString k)) := by rw [tl_append]; rfl
  have el : ((⟨#[c]⟩ : Str) ++ Str.ofString (toString k)).length = (tl (Str.ofString (toString k))).length + 1 := by rw [len_tl, e]; rfl
  refine ⟨⟨⟨c, _, e, hc⟩, fun d hd => ?_, by omega, ?_⟩, by omega⟩
  · rw [e] at hd
    rcases List.mem_cons.mp hd with rfl | hd
    · exact alL hc
    · exact alD (n1 d hd)
  · cases q : tl (Str.ofString (toString k)) with
    | nil =>
      rw [q] at n2
      exact absurd n2 (by decide)
    | cons a r =>
      exact ⟨a, by rw [e, q]; exact List.mem_cons_of_mem _ List.mem_cons_self, n1 a (by rw [q]; exact List.mem_cons_self)⟩
theorem wd_back {z y : Str} (h : Wd z) (hy : ∀ c ∈ tl y, c ∈ tlL) (hl : z.length + y.length ≤ 8) : Wd (z ++ y) := by
  obtain ⟨⟨c, r, hcr, hc⟩, h2, h3, d, hd, hdd⟩ := h
  have el : (z ++ y).length = z.length + y.length := by rw [len_tl, tl_append, List.length_append, ← len_tl, ← len_tl]
  refine ⟨⟨c, r ++ tl y, by rw [tl_append, hcr]; rfl, hc⟩, fun q hq => ?_, by omega, d, by rw [tl_append]; exact List.mem_append_left _ hd, hdd⟩
  rw [tl_append] at hq
  rcases List.mem_append.mp hq with hq | hq
  · exact h2 q hq
  · exact alL (hy q hq)
theorem wd_front {z : Str} {c : Nat} (h : Wd z) (hc : c ∈ tlL) (hl : z.length ≤ 7) : Wd ((⟨#[c]⟩ : Str) ++ z) := by
  obtain ⟨_, h2, h3, d, hd, hdd⟩ := h
  have e : tl ((⟨#[c]⟩ : Str) ++ z) = c :: tl z := by rw [tl_append]; rfl
  have el : ((⟨#[c]⟩ : Str) ++ z).length = z.length + 1 := by rw [len_tl, e, List.length_cons, ← len_tl]
  refine ⟨⟨c, _, e, hc⟩, fun q hq => ?_, by omega, d, by rw [e]; exact List.mem_cons_of_mem _ hd, hdd⟩
  rw [e] at hq
  rcases List.mem_cons.mp hq with rfl | hq
  · exact alL hc
  · exact h2 q hq
theorem cut_q {z : Str} (h : z.length ≤ 8) : (∀ c ∈ tl (cutS "qqqqqqqq" (some (z.length : Int)) none), c ∈ tlL) ∧ (cutS "qqqqqqqq" (some (z.length : Int)) none).length = 8 - z.length := by
  have : ∀ n : Nat, n ≤ 8 → (∀ c ∈ tl (cutS "qqqqqqqq" (some (n : Int)) none), c ∈ tlL) ∧ (cutS "qqqqqqqq" (some (n : Int)) none).length = 8 - n := by
    intro n hn
    have hn : n = 0 ∨ n = 1 ∨ n = 2 ∨ n = 3 ∨ n = 4 ∨ n = 5 ∨ n = 6 ∨ n = 7 ∨ n = 8 := by omega
    rcases hn with h | h | h | h | h | h | h | h | h <;> (subst h; decide +kernel)
  exact this _ h
def plainS : List Str := ["a", "x", "new", "b", "user", "copy", "ends", "z", "elses", "n", "dea", "deads", "pic", "thens", "funs", "y"]
theorem plain_ok : ∀ z ∈ plainS, okS z = true := by decide +kernel
theorem okS_len {z : Str} (h : okS z = true) : z.length ≤ 8 := by
  unfold okS at h
  rw [Bool.and_eq_true, Bool.and_eq_true, Bool.and_eq_true, Bool.and_eq_true] at h
  exact of_decide_eq_true h.1.1.1.2
def spName : Sp := fun vs H Q _ => ∃ d k, vs = [.ref d, .int k] ∧ H d = some (DrO d) ∧ 0 ≤ k ∧ k < 100 ∧ ∀ z H', okS z = true → Ex H H' → Q (.str z) H'
theorem ok_name (T : Tx K mg A) : FnOk P w K mg base CX0 2 A.name A.d_name p_name spName := by
  refine T.F_name.ok sc_name (fun vs H Q E h => ?_) (fun cdv Ar outer s H vs Q E hr h => ?_)
  · obtain ⟨d, k, rfl, _⟩ := h
    rfl
  · obtain ⟨d, k, rfl, hd, k0, k1, q⟩ := h
    refine ⟨_, (pss_cons (ps_set (i := 2) sc_name.nd rfl (Or.inl rfl) pe_str)
      (pss_cons (ps_set (i := 3) sc_name.nd rfl (Or.inl rfl) (pe_lst (pa_cons pe_str (pa_cons pe_str (pa_cons pe_str (pa_cons pe_str (pa_cons pe_str (pa_cons pe_str (pa_cons pe_str (pa_cons pe_str (pa_cons pe_str (pa_cons pe_str (pa_cons pe_str (pa_cons pe_str (pa_cons pe_str (pa_cons pe_str (pa_cons pe_str (pa_cons pe_str pa_nil))))))))))))))))))
      (pss_cons (ps_set (i := 4) sc_name.nd rfl (Or.inl rfl) (pe_call (ok_take T) (hr.mono (by decide)) (by rfl) T.g_take T.F_take.kp T.b_take .nil pass0 (pa_cons (pv 0) (pa_cons pe_int pa_nil))))
      (Evl.pss_cut (ps_if (PW.pt (pw_and (pt_cmpR op_eq (pv 4) pe_int (nomark _)) (pw_and1 (pt_cmpR op_lt (pv 1) pe_int (nomark _))))) (pss_one (ps_ret (pe_ix ix_list (pv 3) (pv 1) (fun _ _ => rfl)))) pss_nil)
      (pss_cons (ps_set (i := 5) sc_name.nd rfl (Or.inl rfl) (pe_op op_add_str (pe_ix ix_str (pv 2) (pe_call (ok_take T) (hr.mono (by decide)) (by rfl) T.g_take T.F_take.kp T.b_take .nil pass0 (pa_cons (pv 0) (pa_cons pe_int pa_nil))) (fun _ _ => rfl)) (pe_callTy call_str_int (by rfl) T.m_str (by decide +kernel) (pa_cons (pv 1) pa_nil))))
      (Evl.pss_cut (ps_if (pt_cmpR op_eq (pv 4) pe_int (nomark _)) (pss_one (ps_set (i := 5) sc_name.nd rfl (Or.inl rfl) (pe_op op_add_str pe_str (pe_callTy call_str_int (by rfl) T.m_str (by decide +kernel) (pa_cons (pv 1) pa_nil))))) pss_nil)
      (Evl.pss_cut (ps_if (pt_cmpR op_eq (pv 4) pe_int (nomark _)) (pss_one (ps_set (i := 5) sc_name.nd rfl (Or.inl rfl) (pe_op op_add_str (pv 5) (pe_ix ix_str (pv 2) (pe_call (ok_take T) (hr.mono (by decide)) (by rfl) T.g_take T.F_take.kp T.b_take .nil pass0 (pa_cons (pv 0) (pa_cons pe_int pa_nil))) (fun _ _ => rfl))))) pss_nil)
      (Evl.pss_cut (ps_if (pt_cmpR op_eq (pv 4) pe_int (nomark _)) (pss_one (ps_set (i := 5) sc_name.nd rfl (Or.inl rfl) (pe_op op_add_str (pe_ix ix_str (pv 2) (pe_call (ok_take T) (hr.mono (by decide)) (by rfl) T.g_take T.F_take.kp T.b_take .nil pass0 (pa_cons (pv 0) (pa_cons pe_int pa_nil))) (fun _ _ => rfl)) (pv 5)))) pss_nil)
      (Evl.pss_cut (ps_if (pt_cmpR op_eq (pv 4) pe_int (nomark _)) (pss_one (ps_set (i := 5) sc_name.nd rfl (Or.inl rfl) (pe_op op_add_str (pv 5) (pe_slice sl_str pe_str (po_some (pe_callB call_len_str (by rfl) T.m_len PySem.boot_len (pa_cons (pv 5) pa_nil))) po_none)))) pss_nil)
      (pss_one (ps_ret (pv 5)))))))))))), ?_⟩
    refine ⟨sz_of (by show 16 ≤ 100000; decide), fun p hp => ?_⟩
    have e1 := Ex.new (o := .lst (plainS.map V.str)) hp
    have hd1 := e1 _ _ hd
    refine ⟨_, rfl, d, _, rfl, hd1, by decide, fun s s0 s1 => ?_⟩
    have hp1 : upd H p (.lst (plainS.map V.str)) p = some (.lst (plainS.map V.str)) := upd_same
    revert hp1 e1 hd1
    show Ex H (upd H p (.lst (plainS.map V.str))) → upd H p (.lst (plainS.map V.str)) d = some (DrO d) → upd H p (.lst (plainS.map V.str)) p = some (.lst (plainS.map V.str)) → tCut _ _ _ _ (upd H p (.lst (plainS.map V.str)))
    generalize upd H p (.lst (plainS.map V.str)) = H1
    intro e1 hd1 hp1
    let S0 : Option V → L2.St := fun v5 => [some (.ref d), some (.int k), some (.str "abcdefghijklmnopqrstuvwxyz"), some (.ref p), some (.int s), v5]
    refine ⟨fun σ' H' => σ' = S0 none ∧ H' = H1, ?_, ?_⟩
    · refine ⟨_, rfl, rfl, _, rfl, ite2 (fun _ => ?_) (fun _ => iteF ⟨rfl, rfl⟩)⟩
      refine ⟨_, rfl, k, 16, rfl, rfl, _, rfl, ite2 (fun h => ?_) (fun _ => ⟨rfl, rfl⟩)⟩
      have hk : k < 16 := of_decide_eq_true h
      obtain ⟨z, hz, hm⟩ := at_in (xs := plainS) k0 (show k < 16 from hk)
      refine ⟨_, rfl, _, rfl, p, _, k, .str z, rfl, rfl, SqL.of hp1, ?_, q z H1 (plain_ok z hm) e1⟩
      obtain ⟨m, rfl⟩ := Int.eq_ofNat_of_zero_le k0
      have hm2 : m < plainS.length := by show m < 16; omega
      rw [atI_nat (List.getElem?_eq_getElem hm2)] at hz
      rw [← Option.some.inj hz]
      refine atI_nat ?_
      rw [List.getElem?_map, List.getElem?_eq_getElem hm2]
      rfl
    rintro σ' H' ⟨rfl, rfl⟩
    have one : ∀ c : Nat, (⟨#[c]⟩ : Str).length = 1 := fun _ => rfl
    have lg : k.natAbs.log2 < 1920 := by
      have h1 : k.natAbs < 2 ^ 1920 := Nat.lt_of_lt_of_le (show k.natAbs < 128 by omega) (by decide +kernel)
      by_cases hz : k.natAbs = 0
      · rw [hz]
        decide
      · exact (Nat.log2_lt hz).mpr h1
    have szn : ∀ c : Nat, (⟨#[c]⟩ : Str).length + (Str.ofString (toString k)).length ≤ sizeLine := fun c => sz_of (by have := (num_ok k0 k1).2.2; rw [one, len_tl]; omega)
    -- word = letter + str(k)
    refine ⟨_, rfl, _, rfl, d, _, rfl, hd1, by decide, fun n n0 n1 => ?_⟩
    obtain ⟨c, hc, hm⟩ := at_in (xs := tl "abcdefghijklmnopqrstuvwxyz") n0 (show n < 26 from n1)
    refine ⟨_, n, c, rfl, rfl, by decide, hc, _, rfl, k, rfl, lg, _, _, rfl, rfl, szn c, ?_⟩
    obtain ⟨w0, l0⟩ := wd_num (c := c) hm k0 k1
    generalize ((⟨#[c]⟩ : Str) ++ Str.ofString (toString k)) = z0 at w0 l0
    -- shape 1
    refine ⟨fun σ' Hn => ∃ z, Wd z ∧ z.length ≤ 3 ∧ σ' = S0 (some (.str z)) ∧ Hn = H', ?_, ?_⟩
    · refine ⟨_, rfl, rfl, _, rfl, ite2 (fun _ => ?_) (fun _ => ⟨z0, w0, l0, rfl, rfl⟩)⟩
      obtain ⟨w1, l1⟩ := wd_num (c := 110) (by decide +kernel) k0 k1
      exact ⟨_, rfl, k, rfl, lg, _, _, rfl, rfl, szn 110, _, w1, l1, rfl, rfl⟩
    rintro σ' Hb ⟨z1, w1, l1, rfl, rfl⟩
    -- shape 2
    refine ⟨fun σ' H2 => ∃ z, Wd z ∧ z.length ≤ 4 ∧ σ' = S0 (some (.str z)) ∧ H2 = Hb, ?_, ?_⟩
    · refine ⟨_, rfl, rfl, _, rfl, ite2 (fun _ => ?_) (fun _ => ⟨z1, w1, by omega, rfl, rfl⟩)⟩
      refine ⟨_, rfl, _, rfl, _, rfl, d, _, rfl, hd1, by decide, fun n n0 n1 => ?_⟩
      obtain ⟨c, hc, hm⟩ := at_in (xs := tl "abcdefghijklmnopqrstuvwxyz") n0 (show n < 26 from n1)
      refine ⟨_, n, c, rfl, rfl, by decide, hc, _, _, rfl, rfl, sz_of (by rw [one]; omega), _, wd_back w1 (y := ⟨#[c]⟩) (fun q hq => ?_) (by rw [one]; omega), ?_, rfl, rfl⟩
      · rw [List.mem_singleton.mp (show q ∈ [c] from hq)]
        exact hm
      · rw [len_tl, tl_append, List.length_append, ← len_tl, ← len_tl, one]
        omega
    rintro σ' H2 ⟨z2, w2, l2, rfl, rfl⟩
    -- shape 3
    refine ⟨fun σ' H3 => ∃ z, Wd z ∧ z.length ≤ 5 ∧ σ' = S0 (some (.str z)) ∧ H3 = H2, ?_, ?_⟩
    · refine ⟨_, rfl, rfl, _, rfl, ite2 (fun _ => ?_) (fun _ => ⟨z2, w2, by omega, rfl, rfl⟩)⟩
      refine ⟨_, rfl, _, rfl, d, _, rfl, hd1, by decide, fun n n0 n1 => ?_⟩
      obtain ⟨c, hc, hm⟩ := at_in (xs := tl "abcdefghijklmnopqrstuvwxyz") n0 (show n < 26 from n1)
      refine ⟨_, n, c, rfl, rfl, by decide, hc, _, rfl, _, _, rfl, rfl, sz_of (by rw [one]; omega), _, wd_front w2 hm (by omega), ?_, rfl, rfl⟩
      rw [len_tl, tl_append, List.length_append, ← len_tl, ← len_tl, one]
      omega
    rintro σ' H3 ⟨z3, w3, l3, rfl, rfl⟩
    -- shape 4
    refine ⟨fun σ' H4 => ∃ z, Wd z ∧ σ' = S0 (some (.str z)) ∧ H4 = H3, ?_, ?_⟩
    · refine ⟨_, rfl, rfl, _, rfl, ite2 (fun _ => ?_) (fun _ => ⟨z3, w3, rfl, rfl⟩)⟩
      obtain ⟨q1, q2⟩ := cut_q (z := z3) (by omega)
      refine ⟨_, rfl, _, rfl, z3, rfl, sz_of (by omega), _, rfl, _, rfl, by decide, _, _, rfl, rfl, sz_of (by omega), _, wd_back w3 q1 (by omega), rfl, rfl⟩
    rintro σ' H4 ⟨z4, w4, rfl, rfl⟩
    exact ⟨_, rfl, q z4 _ w4.ok e1⟩
end
end K06

set_option Elab.async false
set_option linter.all false
set_option maxRecDepth 100000
namespace K06
open PySem PySem.Spec PyProof.Rows L2 Evl TL UL StX
section
variable {P : Program} {w : World} {K : PySem.W.Frag} {mg : Str → Option Value} {base : Heap} {A : Adr}
theorem dp_ints {K : PySem.W.Frag} {H : Hp} : ∀ ns : List Int, DpAll K H (ns.map V.int) (ns.map PyData.int)
  | [] => .nil
  | n :: r => .cons (.int n) (dp_ints r)
theorem lay_ints : ∀ ns : List Int, PyData.canLayAll0 (ns.map PyData.int) = true ∧ PyData.depthAll (ns.map PyData.int) ≤ 1
  | [] => ⟨rfl, by simp [PyData.depthAll]⟩
  | n :: r => by
    obtain ⟨h1, h2⟩ := lay_ints r
    refine ⟨?_, ?_⟩
    · show (PyData.canLay0 (.int n) && PyData.canLayAll0 (r.map PyData.int)) = true
      rw [h1]
      rfl
    · simp only [List.map_cons, PyData.depthAll, PyData.depth]
      omega
theorem shaped_ints (ns : List Int) : SeqAt.shaped (.tuple (ns.map PyData.int)) = true ∧ SeqAt.shaped (.list (ns.map PyData.int)) = true := by
  obtain ⟨h1, h2⟩ := lay_ints ns
  refine ⟨?_, ?_⟩
  · unfold SeqAt.shaped
    rw [show PyData.canLay0 (.tuple (ns.map PyData.int)) = true by unfold PyData.canLay0; exact h1, Bool.true_and]
    refine decide_eq_true ?_
    simp only [PyData.depth]
    omega
  · unfold SeqAt.shaped
    rw [show PyData.canLay0 (.list (ns.map PyData.int)) = true by unfold PyData.canLay0; exact h1, Bool.true_and]
    refine decide_eq_true ?_
    simp only [PyData.depth]
    omega
/-! ### what an error is made with -/
theorem alnum_lt : ∀ c : Nat, alnum c = true → c < 0x110000 := fun c h => by
  rw [alnum36] at h
  have h1 : c ∈ tl36 := of_decide_eq_true h
  have h2 : ∀ c ∈ tl36, c < 0x110000 := by decide +kernel
  exact h2 c h1
theorem okS_str {z : Str} (h : okS z = true) : PyData.strOk z = true := by
  unfold okS at h
  rw [Bool.and_eq_true] at h
  unfold PyData.strOk
  rw [← Array.all_toList, List.all_eq_true]
  exact fun c hc => decide_eq_true (alnum_lt c (List.all_eq_true.mp h.2 c hc))
def flatOk : V → Bool
  | .str z => PyData.strOk z
  | .int _ => true
  | .non => true
  | _ => false
def What (H : Hp) (v : V) : Prop := flatOk v = true ∨ (∃ a, ∃ ns : List Int, v = .ref a ∧ H a = some (.lst (ns.map V.int)) ∧ ns.length ≤ 3) ∨ ∃ a i z, v = .ref a ∧ H a = some (.tup [.int i, .str z, .str "dead"]) ∧ PyData.strOk z = true
/-- the same thing -/
def SameW (H : Hp) (v w : V) : Prop := (flatOk v = true ∧ w = v) ∨ (∃ a b, ∃ ns : List Int, v = .ref a ∧ w = .ref b ∧ H a = some (.lst (ns.map V.int)) ∧ H b = some (.lst (ns.map V.int)) ∧ ns.length ≤ 3) ∨ ∃ a b i z, v = .ref a ∧ w = .ref b ∧ H a = some (.tup [.int i, .str z, .str "dead"]) ∧ H b = some (.tup [.int i, .str z, .str "dead"]) ∧ PyData.strOk z = true
theorem What.mono {H H' : Hp} {v : V} (e : Ex H H') (h : What H v) : What H' v := by
  rcases h with h | ⟨a, ns, rfl, h1, h2⟩ | ⟨a, i, z, rfl, h1, h2⟩
  · exact .inl h
  · exact .inr (.inl ⟨a, ns, rfl, e _ _ h1, h2⟩)
  · exact .inr (.inr ⟨a, i, z, rfl, e _ _ h1, h2⟩)
theorem SameW.mono {H H' : Hp} {v w : V} (e : Ex H H') (h : SameW H v w) : SameW H' v w := by
  rcases h with h | ⟨a, b, ns, rfl, rfl, h1, h2, h3⟩ | ⟨a, b, i, z, rfl, rfl, h1, h2, h3⟩
  · exact .inl h
  · exact .inr (.inl ⟨a, b, ns, rfl, rfl, e _ _ h1, e _ _ h2, h3⟩)
  · exact .inr (.inr ⟨a, b, i, z, rfl, rfl, e _ _ h1, e _ _ h2, h3⟩)
theorem flatOk_flat {v : V} (h : flatOk v = true) : flatV v = true := by
  cases v <;> first | rfl | cases h
/-! ### copied -/
def spCopiedF : Sp := fun vs H Q _ => ∃ v n, vs = [v, .int n] ∧ 1 ≤ n ∧ flatV v = true ∧ Q v H
theorem ok_copiedF (T : Tx K mg A) : FnOk P w K mg base CX0 1 A.copied A.d_copied p_copied spCopiedF := by
  refine T.F_copied.ok sc_copied (fun vs H Q E h => ?_) (fun cdv Ar outer s H vs Q E hr h => ?_)
  · obtain ⟨v, n, rfl, _⟩ := h
    rfl
  · obtain ⟨v, n, rfl, hn, hv, k⟩ := h
    refine ⟨_, (pss_cons (ps_if (pt_cmpR op_eq (pv 1) pe_int (nomark _)) (pss_one (ps_ret (pv 0))) pss_nil)
      (pss_cons (ps_if (pt_val (pe_callB call_isi (by rfl) T.m_isinstance (by decide +kernel) (pa_cons (pv 0) (pa_cons (pe_bltn (v := .ty "list") (u := .type "list") (by rfl) T.m_list (by decide +kernel) rfl) pa_nil)))) (pss_one ps_never) pss_nil)
      (pss_cons (ps_if (pt_val (pe_callB call_isi (by rfl) T.m_isinstance (by decide +kernel) (pa_cons (pv 0) (pa_cons (pe_bltn (v := .ty "tuple") (u := .type "tuple") (by rfl) T.m_tuple (by decide +kernel) rfl) pa_nil)))) (pss_one ps_never) pss_nil)
      (pss_cons (ps_if (pt_val (pe_callB call_isi (by rfl) T.m_isinstance (by decide +kernel) (pa_cons (pv 0) (pa_cons (pe_bltn (v := .ty "dict") (u := .type "dict") (by rfl) T.m_dict (by decide +kernel) rfl) pa_nil)))) (pss_one ps_never) pss_nil)
      (pss_one (ps_ret (pv 0))))))), ?_⟩
    obtain ⟨t, ht, h1, h2, h3⟩ := flat_ty (K := K) (H := H) hv
    refine ⟨_, rfl, rfl, _, rfl, ?_⟩
    rw [show decide (V.int n = V.int 0) = false from decide_eq_false fun z => by cases z; omega]
    refine iteF ?_
    refine ⟨_, rfl, v, _, t, _, _, rfl, .ty "list", ht, h1, _, rfl, iteF ?_⟩
    refine ⟨_, rfl, v, _, t, _, _, rfl, .ty "tuple", ht, h2, _, rfl, iteF ?_⟩
    refine ⟨_, rfl, v, _, t, _, _, rfl, .ty "dict", ht, h3, _, rfl, iteF ?_⟩
    exact ⟨v, rfl, k⟩
def spCopied : Sp := fun vs H Q _ => ∃ v, vs = [v, .int 4] ∧ What H v ∧ ∀ v' H', Ex H H' → SameW H' v v' → Q v' H'
theorem ok_copied (T : Tx K mg A) : FnOk P w K mg base CX0 2 A.copied A.d_copied p_copied spCopied := by
  refine T.F_copied.ok sc_copied (fun vs H Q E h => ?_) (fun cdv Ar outer s H vs Q E hr h => ?_)
  · obtain ⟨v, rfl, _⟩ := h
    rfl
  · obtain ⟨v, rfl, hv, k⟩ := h
    obtain ⟨ds2, hv2, hb2⟩ := T.F_copied.binds1 (ps := p_copied) 2 1 (by simp) rfl (fun T' kV doc pm an cdv ct us its h1 h2 => by
      match us, h1, its, h2 with
      | [_, _], _, [_], _ => exact ⟨_, rfl, rfl⟩)
    refine ⟨_, (pss_cons (ps_if (pt_cmpR op_eq (pv 1) pe_int (nomark _)) (pss_one (ps_ret (pv 0))) pss_nil)
      (pss_cons (ps_if (pt_val (pe_callB call_isi (by rfl) T.m_isinstance (by decide +kernel) (pa_cons (pv 0) (pa_cons (pe_bltn (v := .ty "list") (u := .type "list") (by rfl) T.m_list (by decide +kernel) rfl) pa_nil)))) (pss_one (ps_ret (pe_lc (own := [("part", 2)]) (g := gName 2) (tt := tYes) rfl sc_copied.nd (UL.pi_alt (pi_list (pv 0)) (pi_tup (pv 0))) (blkOk_by (N := n_copied) (sc := defScope s_copied) (by decide +kernel)) (fun _ _ _ _ _ => pg_name (i := 2) sc_copied.nd rfl (Or.inl rfl)) (fun _ _ _ _ _ => pts_nil) (fun _ _ _ _ _ => (pe_call (ok_copiedF T) (hr.mono (by decide)) (by rfl) T.g_copied T.F_copied.kp hb2 hv2 pass0 (pa_cons (pv 2) (pa_cons (pe_op op_sub (pv 1) pe_int) pa_nil))))))) pss_nil)
      (pss_cons (ps_if (pt_val (pe_callB call_isi (by rfl) T.m_isinstance (by decide +kernel) (pa_cons (pv 0) (pa_cons (pe_bltn (v := .ty "tuple") (u := .type "tuple") (by rfl) T.m_tuple (by decide +kernel) rfl) pa_nil)))) (pss_one (ps_ret (pe_callTy call_tuple_of (by rfl) T.m_tuple (by decide +kernel) (pa_cons (pe_lc (own := [("part", 2)]) (g := gName 2) (tt := tYes) rfl sc_copied.nd (UL.pi_alt (pi_list (pv 0)) (pi_tup (pv 0))) (blkOk_by (N := n_copied) (sc := defScope s_copied) (by decide +kernel)) (fun _ _ _ _ _ => pg_name (i := 2) sc_copied.nd rfl (Or.inl rfl)) (fun _ _ _ _ _ => pts_nil) (fun _ _ _ _ _ => (pe_call (ok_copiedF T) (hr.mono (by decide)) (by rfl) T.g_copied T.F_copied.kp hb2 hv2 pass0 (pa_cons (pv 2) (pa_cons (pe_op op_sub (pv 1) pe_int) pa_nil))))) pa_nil)))) pss_nil)
      (pss_cons (ps_if (pt_val (pe_callB call_isi (by rfl) T.m_isinstance (by decide +kernel) (pa_cons (pv 0) (pa_cons (pe_bltn (v := .ty "dict") (u := .type "dict") (by rfl) T.m_dict (by decide +kernel) rfl) pa_nil)))) (pss_one ps_never) pss_nil)
      (pss_one (ps_ret (pv 0))))))), ?_⟩
    refine ⟨_, rfl, rfl, _, rfl, iteF ?_⟩
    rcases hv with hv | ⟨a, ns, rfl, ha, hl⟩ | ⟨a, i, z, rfl, ha, hz⟩
    · obtain ⟨t, ht, h1, h2, h3⟩ := flat_ty (K := K) (H := H) (flatOk_flat hv)
      refine ⟨_, rfl, v, _, t, _, _, rfl, .ty "list", ht, h1, _, rfl, iteF ?_⟩
      refine ⟨_, rfl, v, _, t, _, _, rfl, .ty "tuple", ht, h2, _, rfl, iteF ?_⟩
      refine ⟨_, rfl, v, _, t, _, _, rfl, .ty "dict", ht, h3, _, rfl, iteF ?_⟩
      exact ⟨v, rfl, k v H (Ex.refl H) (.inl ⟨hv, rfl⟩)⟩
    · refine ⟨_, rfl, .ref a, _, _, _, true, rfl, .ty "list", .base (.lst ha), kit_ty (r := true) (by decide +kernel), _, rfl, iteT ?_⟩
      refine .inl ⟨_, rfl, a, rfl, ⟨_, SqL.of ha⟩, fun D hD => ?_⟩
      refine lc_map (K := K) (xs := ns.map V.int) (f := fun v => v) walk_list (by rw [List.length_map]; omega) hD (fun H' e => SqL.of (e _ _ ha)) (fun _ => rfl) (fun x H' hx e Q' q => ?_) ?_
      · obtain ⟨m, hm, rfl⟩ := List.mem_map.mp hx
        exact ⟨_, rfl, _, rfl, _, _, rfl, rfl, _, _, rfl, by decide, rfl, q⟩
      · rw [List.map_id']
        exact k _ _ (Ex.new hD) (.inr (.inl ⟨a, D, ns, rfl, rfl, (Ex.new hD) _ _ ha, upd_same, hl⟩))
    · refine ⟨_, rfl, .ref a, _, _, _, false, rfl, .ty "list", .base (.tup ha), kit_ty (r := false) (by decide +kernel), _, rfl, iteF ?_⟩
      refine ⟨_, rfl, .ref a, _, _, _, true, rfl, .ty "tuple", .base (.tup ha), kit_ty (r := true) (by decide +kernel), _, rfl, iteT ?_⟩
      refine .inr ⟨_, rfl, a, rfl, ⟨_, SqT.of ha⟩, fun D hD => ?_⟩
      refine lc_map (K := K) (xs := [.int i, .str z, .str "dead"]) (f := fun v => v) walk_tup (by show 3 ≤ 100000; decide) hD (fun H' e => SqT.of (e _ _ ha)) (fun _ => rfl) (fun x H' hx e Q' q => ?_) ?_
      · have hf : flatV x = true := by
          simp only [List.mem_cons, List.not_mem_nil, or_false] at hx
          rcases hx with rfl | rfl | rfl <;> rfl
        exact ⟨_, rfl, _, rfl, _, _, rfl, rfl, _, _, rfl, by decide, hf, q⟩
      · refine ⟨D, _, rfl, .inl ⟨SqL.of upd_same, fun l hl => ?_⟩⟩
        have e1 := Ex.new (o := .lst [.int i, .str z, .str "dead"]) hD
        have e2 := Ex.new (o := .tup [.int i, .str z, .str "dead"]) hl
        exact k _ _ (e1.trans e2) (.inr (.inr ⟨a, l, i, z, rfl, rfl, e2 _ _ (e1 _ _ ha), upd_same, hz⟩))
/-! ### the errors' __init__ -/
theorem exo_lst {e C : Addr} {d : Option Addr} {xs : List V} : exo e C d ≠ .lst xs := fun z => by
  have z' : HO.ext _ = HO.lst xs := z
  cases z'
theorem SameW.put {H : Hp} {v w : V} {a C dx : Addr} {u u' : HO} (h : SameW H v w) (hd : H dx = none) (ha : H a = some (exo a C none)) : SameW (upd (upd H dx u) a u') v w := by
  have kl : ∀ {b : Addr} {xs : List V}, H b = some (.lst xs) → upd (upd H dx u) a u' b = some (.lst xs) := fun {b xs} e => by
    rw [upd_ne (fun z => by subst z; rw [ha] at e; exact exo_lst (Option.some.inj e)), upd_ne (ne_of_none e hd)]
    exact e
  have kt : ∀ {b : Addr} {xs : List V}, H b = some (.tup xs) → upd (upd H dx u) a u' b = some (.tup xs) := fun {b xs} e => by
    rw [upd_ne (fun z => by subst z; rw [ha] at e; exact exo_tup (Option.some.inj e)), upd_ne (ne_of_none e hd)]
    exact e
  rcases h with h | ⟨a, b, ns, rfl, rfl, h1, h2, h3⟩ | ⟨a, b, i, z, rfl, rfl, h1, h2, h3⟩
  · exact .inl h
  · exact .inr (.inl ⟨a, b, ns, rfl, rfl, kl h1, kl h2, h3⟩)
  · exact .inr (.inr ⟨a, b, i, z, rfl, rfl, kt h1, kt h2, h3⟩)
theorem ex_put {H H1 : Hp} {a dx : Addr} {u0 u u' : HO} (ha : H a = none) (e : Ex (upd H a u0) H1) (hd : H1 dx = none) : Ex H (upd (upd H1 dx u) a u') := fun b o hb => by
  have e1 := e _ _ ((Ex.new ha) _ _ hb)
  rw [upd_ne (ne_of_none hb ha), upd_ne (ne_of_none e1 hd)]
  exact e1
def spInit (K : PySem.W.Frag) : Sp := fun vs H Q _ => ∃ (a C : Addr) (v : V), vs = [.ref a, v] ∧ What H v ∧ H a = some (exo a C none) ∧ OexC K C ∧ PySem.W.findIn K (.ref C) "what" = some none ∧
  ∀ v' H1 dx, Ex H H1 → SameW H1 v v' → H1 dx = none → dx ≠ a → Q .non (upd (upd H1 dx (exd dx [("what", v')])) a (exo a C (some dx)))
theorem ok_lives_init (T : Tx K mg A) : FnOk P w K mg base CX0 3 A.lives_init A.d_lives_init p_lives_init (spInit K) := by
  refine T.F_lives_init.ok sc_lives_init (fun vs H Q E h => ?_) (fun cdv Ar outer s H vs Q E hr h => ?_)
  · obtain ⟨a, C, v, rfl, _⟩ := h
    rfl
  · obtain ⟨a, C, v, rfl, hw, ha, hC, hno, k⟩ := h
    obtain ⟨ds, hvc, hbc⟩ := T.F_copied.binds1 (ps := p_copied) 1 0 (by simp) rfl (fun T' kV doc pm an cdv ct us its h1 h2 => by
      match us, h1, its, h2 with
      | [u], _, [d], _ => exact ⟨_, rfl, rfl⟩)
    refine ⟨_, (pss_one (ps_ost (pv 0) (pe_call (ok_copied T) (hr.mono (by decide)) (by rfl) T.g_copied T.F_copied.kp hbc hvc pass0 (pa_cons (pv 1) pa_nil)))), ?_⟩
    refine ⟨v, rfl, v, rfl, hw, fun v' H1 e1 q1 => ?_⟩
    refine ⟨_, rfl, a, C, rfl, hC, hno, .inl ⟨e1 _ _ ha, fun dx hd hne => ?_⟩⟩
    exact k v' H1 dx e1 q1 hd hne
theorem mk_what {K : PySem.W.Frag} {C I : Addr} {H : Hp} {v : V} {R : Addr → Hp → Prop} (F : UL.ExF K C I) (hw : What H v) (k : ∀ a v' H2, Ex H H2 → UL.ExV H2 a C [("what", v')] → SameW H2 v v' → R a H2) :
    ∀ a, H a = none → spInit K [.ref a, v] (upd H a (exo a C none)) (fun u H2 => u = .non ∧ R a H2) (fun _ _ _ => False) := by
  intro a ha
  refine ⟨a, C, v, rfl, hw.mono (Ex.new ha), upd_same, F.ox, F.nw, fun v' H1 dx e1 q1 hd hne => ⟨rfl, ?_⟩⟩
  have ea := e1 _ _ upd_same
  refine k a v' _ (ex_put ha e1 hd) ⟨dx, upd_same, ?_⟩ (q1.put hd ea)
  rw [upd_ne hne, upd_same]
def spDead (K : PySem.W.Frag) (D I : Addr) : Sp := fun vs H Q _ => ∃ (a C : Addr) (r : Int) (v : V), vs = [.ref a, .int r, v] ∧ What H v ∧ H a = some (exo a C none) ∧ OexC K C ∧ PySem.W.findIn K (.ref C) "what" = some none ∧ PySem.W.findIn K (.ref C) "row" = some none ∧
  PySem.W.mroIn K C (.ref D) = some true ∧ PySem.W.ks_superIn K C D "__init__" = some (some (.ref I)) ∧
  ∀ v' H1 dx, Ex H H1 → SameW H1 v v' → H1 dx = none → dx ≠ a → Q .non (upd (upd (upd H1 dx (exd dx [("what", v')])) a (exo a C (some dx))) dx (exd dx [("row", .int r), ("what", v')]))
theorem ok_dead_init (T : Tx K mg A) (Z : UL.SupP P A.file_dead_init) : FnOk P w K mg base CX0 4 A.dead_init A.d_dead_init p_dead_init (spDead K A.DeadLook A.lives_init) := by
  refine UL.FunSup.ok (i := 0) T.F_dead_init Z sc_dead_init ⟨_, rfl, rfl⟩ rfl rfl rfl rfl rfl T.m_super T.ti_lives_init T.fL (ok_lives_init T) (by decide) T.b_lives_init (fun vs H Q E h => ?_) (fun env => by rfl) (fun env => by rfl) (fun env => by rfl) (fun Ar outer s H vs Q E hr h => ?_)
  · obtain ⟨a, C, r, v, rfl, _⟩ := h
    rfl
  · obtain ⟨a, C, r, v, rfl, hw, ha, hC, hno, hno2, hm, hs, k⟩ := h
    refine ⟨a, C, _, _, pa_cons (pv 2) pa_nil, pss_one (ps_ost (pv 0) (pv 1)), rfl, ha, hC, hm, hs, ?_⟩
    refine ⟨v, rfl, a, C, v, rfl, hw, ha, hC, hno, fun v' H1 dx e1 q1 hd hne => ?_⟩
    refine ⟨_, rfl, _, rfl, a, C, rfl, hC, hno2, .inr ⟨dx, _, upd_same, (by rw [upd_ne hne, upd_same]), (by show 1 ≤ 900; decide), ?_⟩⟩
    exact k v' H1 dx e1 q1 hd hne
theorem mk_dead {K : PySem.W.Frag} {C I L : Addr} {H : Hp} {r : Int} {v : V} {R : Addr → Hp → Prop} (F : UL.ExF K C I) (hno : PySem.W.findIn K (.ref C) "row" = some none) (hm : PySem.W.mroIn K C (.ref C) = some true) (hs : PySem.W.ks_superIn K C C "__init__" = some (some (.ref L))) (hw : What H v)
    (k : ∀ a v' H2, Ex H H2 → UL.ExV H2 a C [("row", .int r), ("what", v')] → SameW H2 v v' → R a H2) :
    ∀ a, H a = none → spDead K C L [.ref a, .int r, v] (upd H a (exo a C none)) (fun u H2 => u = .non ∧ R a H2) (fun _ _ _ => False) := by
  intro a ha
  refine ⟨a, C, r, v, rfl, hw.mono (Ex.new ha), upd_same, F.ox, F.nw, hno, hm, hs, fun v' H1 dx e1 q1 hd hne => ⟨rfl, ?_⟩⟩
  have ea := e1 _ _ upd_same
  have e2 : upd (upd (upd H1 dx (exd dx [("what", v')])) a (exo a C (some dx))) dx (exd dx [("row", V.int r), ("what", v')]) = upd (upd H1 dx (exd dx [("row", V.int r), ("what", v')])) a (exo a C (some dx)) := by
    funext b
    by_cases hb : b = dx
    · subst hb
      rw [upd_same, upd_ne hne, upd_same]
    · rw [upd_ne hb]
      by_cases hc : b = a
      · subst hc
        rw [upd_same, upd_same]
      · rw [upd_ne hc, upd_ne hc, upd_ne hb, upd_ne hb]
  rw [e2]
  refine k a v' _ (ex_put ha e1 hd) ⟨dx, upd_same, ?_⟩ (q1.put hd ea)
  rw [upd_ne hne, upd_same]
/-! ### drawn things -/
def spNumber : Sp := fun vs H Q _ => ∃ d, vs = [.ref d] ∧ H d = some (DrO d) ∧ ∀ n : Int, Q (.int n) H
theorem ok_number (T : Tx K mg A) : FnOk P w K mg base CX0 2 A.number A.d_number p_number spNumber := by
  refine T.F_number.ok sc_number (fun vs H Q E h => ?_) (fun cdv Ar outer s H vs Q E hr h => ?_)
  · obtain ⟨d, rfl, _⟩ := h
    rfl
  · obtain ⟨d, rfl, hd, k⟩ := h
    refine ⟨_, (pss_cons (ps_set (i := 1) sc_number.nd rfl (Or.inl rfl) pe_int)
      (pss_cons (ps_for PassesOwn.never rfl (pi_range1 (by rfl) T.m_range (pa_cons (pe_op op_add pe_int (pe_call (ok_take T) (hr.mono (by decide)) (by rfl) T.g_take T.F_take.kp T.b_take .nil pass0 (pa_cons (pv 0) (pa_cons pe_int pa_nil)))) pa_nil)) (pg_name (i := 2) sc_number.nd rfl (Or.inl rfl)) (pss_one (ps_set (i := 1) sc_number.nd rfl (Or.inl rfl) (pe_op op_add (pe_op op_mul pe_int (pv 1)) (pe_call (ok_take T) (hr.mono (by decide)) (by rfl) T.g_take T.F_take.kp T.b_take .nil pass0 (pa_cons (pv 0) (pa_cons pe_int pa_nil)))))))
      (pss_cons (ps_if (pt_cmpR op_eq (pe_call (ok_take T) (hr.mono (by decide)) (by rfl) T.g_take T.F_take.kp T.b_take .nil pass0 (pa_cons (pv 0) (pa_cons pe_int pa_nil))) pe_int (nomark _)) (pss_one (ps_ret (pe_op op_sub pe_int (pv 1)))) pss_nil)
      (pss_one (ps_ret (pv 1)))))), ?_⟩
    refine ⟨_, rfl, d, _, rfl, hd, by decide, fun m m0 m1 => ?_⟩
    refine ⟨1, m, rfl, rfl, 1 + m, rfl, forR1 ⟨by omega, by omega⟩ (fun i σ H' => ∃ (n : Int) (v2 : Option V), σ = [some (.ref d), some (.int n), v2] ∧ H' = H) ⟨_, _, rfl, rfl⟩ ?_ ?_⟩
    · rintro i σ' H' hi ⟨n, v2, rfl, rfl⟩
      exact ⟨_, rfl, 1000003, n, rfl, rfl, .inl ⟨by decide, by decide⟩, _, rfl, d, _, rfl, hd, by decide, fun q q0 q1 => ⟨_, q, rfl, rfl, _, _, rfl, rfl⟩⟩
    · rintro σ' H' ⟨n, v2, rfl, rfl⟩
      refine ⟨_, rfl, d, _, rfl, hd, by decide, fun q q0 q1 => ⟨rfl, _, rfl, ite2 (fun _ => ?_) (fun _ => ?_)⟩⟩
      · exact ⟨_, rfl, 0, n, rfl, rfl, k _⟩
      · exact ⟨_, rfl, k n⟩
def spWhatD : Sp := fun vs H Q _ => ∃ d, vs = [.ref d] ∧ H d = some (DrO d) ∧ ∀ v H', Ex H H' → What H' v → Q v H'
theorem ok_what (T : Tx K mg A) : FnOk P w K mg base CX0 3 A.what A.d_what p_what spWhatD := by
  refine T.F_what.ok sc_what (fun vs H Q E h => ?_) (fun cdv Ar outer s H vs Q E hr h => ?_)
  · obtain ⟨d, rfl, _⟩ := h
    rfl
  · obtain ⟨d, rfl, hd, k⟩ := h
    refine ⟨_, (pss_cons (ps_set (i := 1) sc_what.nd rfl (Or.inl rfl) (pe_call (ok_take T) (hr.mono (by decide)) (by rfl) T.g_take T.F_take.kp T.b_take .nil pass0 (pa_cons (pv 0) (pa_cons pe_int pa_nil))))
      (pss_cons (ps_if (pt_cmpR op_eq (pv 1) pe_int (nomark _)) (pss_one (ps_ret (pe_call (ok_name T) (hr.mono (by decide)) (by rfl) T.g_name T.F_name.kp T.b_name .nil pass0 (pa_cons (pv 0) (pa_cons (pe_call (ok_take T) (hr.mono (by decide)) (by rfl) T.g_take T.F_take.kp T.b_take .nil pass0 (pa_cons (pv 0) (pa_cons pe_int pa_nil))) pa_nil))))) pss_nil)
      (pss_cons (ps_if (pt_cmpR op_eq (pv 1) pe_int (nomark _)) (pss_one (ps_ret (pe_call (ok_number T) (hr.mono (by decide)) (by rfl) T.g_number T.F_number.kp T.b_number .nil pass0 (pa_cons (pv 0) pa_nil)))) pss_nil)
      (pss_cons (ps_if (pt_cmpR op_eq (pv 1) pe_int (nomark _)) (pss_one (ps_ret (pe_tup (pa_cons (pe_call (ok_number T) (hr.mono (by decide)) (by rfl) T.g_number T.F_number.kp T.b_number .nil pass0 (pa_cons (pv 0) pa_nil)) (pa_cons (pe_call (ok_name T) (hr.mono (by decide)) (by rfl) T.g_name T.F_name.kp T.b_name .nil pass0 (pa_cons (pv 0) (pa_cons pe_int pa_nil))) (pa_cons pe_str pa_nil)))))) pss_nil)
      (pss_cons (ps_if (pt_cmpR op_eq (pv 1) pe_int (nomark _)) (pss_one (ps_ret (pe_lc (own := [("_law_k", 2)]) (g := gName 2) (tt := tYes) rfl sc_what.nd (pi_range1 (by rfl) T.m_range (pa_cons (pe_call (ok_take T) (hr.mono (by decide)) (by rfl) T.g_take T.F_take.kp T.b_take .nil pass0 (pa_cons (pv 0) (pa_cons pe_int pa_nil))) pa_nil)) (blkOk_by (N := n_what) (sc := defScope s_what) (by decide +kernel)) (fun _ _ _ _ _ => pg_name (i := 2) sc_what.nd rfl (Or.inl rfl)) (fun _ _ _ _ _ => pts_nil) (fun _ _ _ _ _ => (pe_call (ok_number T) (hr.mono (by decide)) (by rfl) T.g_number T.F_number.kp T.b_number .nil pass0 (pa_cons (pv 0) pa_nil)))))) pss_nil)
      (pss_one (ps_ret (pe_ix ix_list (pe_lst (pa_cons pe_str (pa_cons pe_str (pa_cons pe_str (pa_cons pe_non pa_nil))))) (pe_call (ok_take T) (hr.mono (by decide)) (by rfl) T.g_take T.F_take.kp T.b_take .nil pass0 (pa_cons (pv 0) (pa_cons pe_int pa_nil))) (fun _ _ => rfl))))))))), ?_⟩
    refine ⟨_, rfl, d, _, rfl, hd, by decide, fun s s0 s1 => ?_⟩
    refine ⟨_, rfl, rfl, _, rfl, ite2 (fun _ => ?_) (fun _ => ?_)⟩
    · refine ⟨_, rfl, _, rfl, d, _, rfl, hd, by decide, fun m m0 m1 => ?_⟩
      refine ⟨d, m, rfl, hd, m0, by omega, fun z H' hz e => k _ _ e (.inl (okS_str hz))⟩
    refine ⟨_, rfl, rfl, _, rfl, ite2 (fun _ => ?_) (fun _ => ?_)⟩
    · exact ⟨_, rfl, d, rfl, hd, fun n => k _ _ (Ex.refl H) (.inl rfl)⟩
    refine ⟨_, rfl, rfl, _, rfl, ite2 (fun _ => ?_) (fun _ => ?_)⟩
    · refine ⟨_, rfl, d, rfl, hd, fun n => ⟨_, rfl, d, 3, rfl, hd, by decide, by decide, fun z H1 hz e1 => ?_⟩⟩
      exact ⟨sz_of (by show 3 ≤ 100000; decide), fun p hp => k _ _ (e1.trans (Ex.new hp)) (.inr (.inr ⟨p, n, z, rfl, upd_same, okS_str hz⟩))⟩
    refine ⟨_, rfl, rfl, _, rfl, ite2 (fun _ => ?_) (fun _ => ?_)⟩
    · refine ⟨_, rfl, d, _, rfl, hd, by decide, fun m m0 m1 => ?_⟩
      refine ⟨m, rfl, by omega, by omega, fun D hD => ?_⟩
      refine lc_n (G := fun _ x => ∃ n : Int, x = .int n) (n := m) ⟨m0, by omega⟩ hD (fun _ _ _ _ h => h) (fun _ _ _ _ _ h => h) (fun _ => rfl) (fun i H' hi e Q' q => ?_) (fun H' ys e hD' hn hy => ?_)
      · exact ⟨_, rfl, d, rfl, e _ _ hd, fun n => q _ _ (Ex.refl _) ⟨n, rfl⟩⟩
      · obtain ⟨ns, rfl⟩ : ∃ ns : List Int, ys = ns.map V.int := by
          clear hD' hn
          induction ys with
          | nil => exact ⟨[], rfl⟩
          | cons y r ih =>
            obtain ⟨n, rfl⟩ := hy y List.mem_cons_self
            obtain ⟨ns, rfl⟩ := ih fun x hx => hy x (List.mem_cons_of_mem _ hx)
            exact ⟨n :: ns, rfl⟩
        rw [List.length_map] at hn
        exact k _ _ e (.inr (.inl ⟨D, ns, rfl, hD', by omega⟩))
    refine ⟨sz_of (by show 4 ≤ 100000; decide), fun p hp => ?_⟩
    have e1 := Ex.new (o := .lst [.str "", .str "rows", .str "3.0", .non]) hp
    refine ⟨_, rfl, d, _, rfl, e1 _ _ hd, by decide, fun m m0 m1 => ?_⟩
    obtain ⟨v, hv, hf⟩ : ∃ v, atI [V.str "", V.str "rows", V.str "3.0", V.non] m = some v ∧ flatOk v = true := by
      have : m = 0 ∨ m = 1 ∨ m = 2 ∨ m = 3 := by omega
      rcases this with h | h | h | h <;> subst h
      · exact ⟨_, atI_nat (j := 0) rfl, by decide +kernel⟩
      · exact ⟨_, atI_nat (j := 1) rfl, by decide +kernel⟩
      · exact ⟨_, atI_nat (j := 2) rfl, by decide +kernel⟩
      · exact ⟨_, atI_nat (j := 3) rfl, by decide +kernel⟩
    exact ⟨p, _, m, v, rfl, rfl, SqL.of upd_same, hv, k v _ e1 (.inl hf)⟩
theorem ty_of_flat {K : PySem.W.Frag} {H : Hp} {v : V} (h : flatOk v = true) : ∃ (d : PyData) (t : Value) (b : Bool), Dp K H v d ∧ SeqAt.shaped d = true ∧ TyX K H v t ∧ PySem.W.kitOne K t (.type "str") = some b ∧ PySem.W.kitOne K t (.type "list") = some false := by
  cases v with
  | non => exact ⟨_, _, _, .non, (by decide +kernel), .base .non, kit_ty (r := false) (by decide +kernel), kit_ty (r := false) (by decide +kernel)⟩
  | bl b => cases h
  | int i => exact ⟨_, _, _, .int i, (by unfold SeqAt.shaped; rw [Bool.and_eq_true]; exact ⟨by simp only [PyData.canLay0], decide_eq_true (by simp only [PyData.depth]; omega)⟩), .base (.int i), kit_ty (r := false) (by decide +kernel), kit_ty (r := false) (by decide +kernel)⟩
  | str z => exact ⟨_, _, _, .str z, (by unfold SeqAt.shaped; rw [Bool.and_eq_true]; exact ⟨by simp only [PyData.canLay0]; exact h, decide_eq_true (by simp only [PyData.depth]; omega)⟩), .base (.str z), kit_ty (r := true) (by decide +kernel), kit_ty (r := false) (by decide +kernel)⟩
  | _ => cases h
/-- both sides of a comparison -/
theorem SameW.data {K : PySem.W.Frag} {H : Hp} {v w : V} (h : SameW H v w) : ∃ (d : PyData) (t t' : Value) (b c : Bool), Dp K H v d ∧ Dp K H w d ∧ SeqAt.shaped d = true ∧ TyX K H v t ∧ TyX K H w t' ∧ PySem.W.kitOne K t (.type "str") = some b ∧ PySem.W.kitOne K t' (.type "str") = some b ∧ PySem.W.kitOne K t (.type "list") = some c ∧ PySem.W.kitOne K t' (.type "list") = some c := by
  rcases h with ⟨h, rfl⟩ | ⟨a, b, ns, rfl, rfl, h1, h2, h3⟩ | ⟨a, b, i, z, rfl, rfl, h1, h2, h3⟩
  · obtain ⟨d, t, b, q1, q2, q3, q4, q5⟩ := ty_of_flat (K := K) (H := H) h
    exact ⟨d, t, t, b, _, q1, q1, q2, q3, q3, q4, q4, q5, q5⟩
  · exact ⟨_, _, _, _, _, .lst (SqL.of h1) (dp_ints ns), .lst (SqL.of h2) (dp_ints ns), (shaped_ints ns).2, .base (.lst h1), .base (.lst h2), kit_ty (r := false) (by decide +kernel), kit_ty (r := false) (by decide +kernel), kit_ty (r := true) (by decide +kernel), kit_ty (r := true) (by decide +kernel)⟩
  · refine ⟨.tuple [.int i, .str z, .str "dead"], _, _, _, _, .tup (SqT.of h1) (.cons (.int i) (.cons (.str z) (.cons (.str "dead") .nil))), .tup (SqT.of h2) (.cons (.int i) (.cons (.str z) (.cons (.str "dead") .nil))), ?_, .base (.tup h1), .base (.tup h2), kit_ty (r := false) (by decide +kernel), kit_ty (r := false) (by decide +kernel), kit_ty (r := false) (by decide +kernel), kit_ty (r := false) (by decide +kernel)⟩
    unfold SeqAt.shaped
    rw [Bool.and_eq_true]
    refine ⟨?_, decide_eq_true ?_⟩
    · simp only [PyData.canLay0, PyData.canLayAll0, h3, Bool.true_and, Bool.and_true]
      decide +kernel
    · simp only [PyData.depth, PyData.depthAll]
      omega
end
end K06

set_option Elab.async false
set_option linter.all false
set_option maxRecDepth 100000
namespace K06
open PySem PySem.Spec PyProof.Rows L2 Evl TL UL StX
section
variable {P : Program} {w : World} {K : PySem.W.Frag} {mg : Str → Option Value} {base : Heap} {A : Adr}
/-! ### the classes -/
def allC (A : Adr) : List Addr := [A.InvalidSignature, A.DuplicateFunction, A.UnknownFunction, A.InvalidExpression, A.InvalidRow, A.InvalidLine, A.UnknownName, A.DuplicateName, A.NotReference, A.WrongCount, A.Unbalanced, A.TooLarge, A.BadChoice, A.Ended, A.NoPlace, A.NoValue, A.NeverTogether, A.NoFact, A.NoWay, A.NotLoose, A.NoMend, A.OtherOuts, A.DeadLook, A.LivesError]
def kinC (A : Adr) : List Addr := [A.InvalidSignature, A.DuplicateFunction, A.UnknownFunction, A.InvalidExpression, A.InvalidRow, A.InvalidLine, A.UnknownName, A.DuplicateName, A.NotReference, A.WrongCount, A.Unbalanced, A.TooLarge, A.BadChoice, A.Ended, A.NoPlace, A.NoValue, A.NeverTogether, A.NoFact, A.NoWay, A.NotLoose, A.NoMend, A.OtherOuts, A.DeadLook]
theorem all_xi (T : Tx K mg A) : ∀ C ∈ allC A, UL.ExI K C ∧ XfC K C ∧ PySem.W.findIn K (.ref C) "what" = some none := by
  intro C h
  simp only [allC, List.mem_cons, List.not_mem_nil, or_false] at h
  rcases h with rfl | rfl | rfl | rfl | rfl | rfl | rfl | rfl | rfl | rfl | rfl | rfl | rfl | rfl | rfl | rfl | rfl | rfl | rfl | rfl | rfl | rfl | rfl | rfl
  · exact ⟨T.xi_InvalidSignature, T.ex_InvalidSignature.xf, T.ex_InvalidSignature.nw⟩
  · exact ⟨T.xi_DuplicateFunction, T.ex_DuplicateFunction.xf, T.ex_DuplicateFunction.nw⟩
  · exact ⟨T.xi_UnknownFunction, T.ex_UnknownFunction.xf, T.ex_UnknownFunction.nw⟩
  · exact ⟨T.xi_InvalidExpression, T.ex_InvalidExpression.xf, T.ex_InvalidExpression.nw⟩
  · exact ⟨T.xi_InvalidRow, T.ex_InvalidRow.xf, T.ex_InvalidRow.nw⟩
  · exact ⟨T.xi_InvalidLine, T.ex_InvalidLine.xf, T.ex_InvalidLine.nw⟩
  · exact ⟨T.xi_UnknownName, T.ex_UnknownName.xf, T.ex_UnknownName.nw⟩
  · exact ⟨T.xi_DuplicateName, T.ex_DuplicateName.xf, T.ex_DuplicateName.nw⟩
  · exact ⟨T.xi_NotReference, T.ex_NotReference.xf, T.ex_NotReference.nw⟩
  · exact ⟨T.xi_WrongCount, T.ex_WrongCount.xf, T.ex_WrongCount.nw⟩
  · exact ⟨T.xi_Unbalanced, T.ex_Unbalanced.xf, T.ex_Unbalanced.nw⟩
  · exact ⟨T.xi_TooLarge, T.ex_TooLarge.xf, T.ex_TooLarge.nw⟩
  · exact ⟨T.xi_BadChoice, T.ex_BadChoice.xf, T.ex_BadChoice.nw⟩
  · exact ⟨T.xi_Ended, T.ex_Ended.xf, T.ex_Ended.nw⟩
  · exact ⟨T.xi_NoPlace, T.ex_NoPlace.xf, T.ex_NoPlace.nw⟩
  · exact ⟨T.xi_NoValue, T.ex_NoValue.xf, T.ex_NoValue.nw⟩
  · exact ⟨T.xi_NeverTogether, T.ex_NeverTogether.xf, T.ex_NeverTogether.nw⟩
  · exact ⟨T.xi_NoFact, T.ex_NoFact.xf, T.ex_NoFact.nw⟩
  · exact ⟨T.xi_NoWay, T.ex_NoWay.xf, T.ex_NoWay.nw⟩
  · exact ⟨T.xi_NotLoose, T.ex_NotLoose.xf, T.ex_NotLoose.nw⟩
  · exact ⟨T.xi_NoMend, T.ex_NoMend.xf, T.ex_NoMend.nw⟩
  · exact ⟨T.xi_OtherOuts, T.ex_OtherOuts.xf, T.ex_OtherOuts.nw⟩
  · exact ⟨T.xi_DeadLook, T.ex_DeadLook.xf, T.ex_DeadLook.nw⟩
  · exact ⟨T.xi_LivesError, T.ex_LivesError.xf, T.ex_LivesError.nw⟩
def spError (K : PySem.W.Frag) (A : Adr) (n : Nat) : Sp := fun vs H Q _ => ∃ (i : Nat) (v : V), vs = [.int i, v] ∧ i < n ∧ What H v ∧ ∀ a C v' H', Ex H H' → (allC A)[i]? = some C → UL.ExV H' a C [("what", v')] → SameW H' v v' → Q (.ref a) H'
theorem int_is {i : Nat} {j : Int} (h : decide (V.int (i : Int) = V.int j) = true) : (i : Int) = j := by
  have e := of_decide_eq_true h
  injection e
theorem int_isnt {i : Nat} {j : Int} (h : ¬ decide (V.int (i : Int) = V.int j) = true) : (i : Int) ≠ j := fun z => h (decide_eq_true (by rw [z]))
theorem ok_early (T : Tx K mg A) : FnOk P w K mg base CX0 5 A.early A.d_early p_early (spError K A 11) := by
  refine T.F_early.ok sc_early (fun vs H Q E h => ?_) (fun cdv Ar outer s H vs Q E hr h => ?_)
  · obtain ⟨i, v, rfl, _⟩ := h
    rfl
  · obtain ⟨i, v, rfl, hi, hw, k⟩ := h
    refine ⟨_, (pss_cons (ps_if (pt_cmpR op_eq (pv 0) pe_int (nomark _)) (pss_one (ps_ret (UL.pe_mkv T.ex_InvalidSignature.ox T.ex_InvalidSignature.ii T.ti_lives_init (ok_lives_init T) (hr.mono (by decide)) T.b_lives_init .nil pass0 (by rfl) T.g_InvalidSignature (pa_cons (pv 1) pa_nil)))) pss_nil)
      (pss_cons (ps_if (pt_cmpR op_eq (pv 0) pe_int (nomark _)) (pss_one (ps_ret (UL.pe_mkv T.ex_DuplicateFunction.ox T.ex_DuplicateFunction.ii T.ti_lives_init (ok_lives_init T) (hr.mono (by decide)) T.b_lives_init .nil pass0 (by rfl) T.g_DuplicateFunction (pa_cons (pv 1) pa_nil)))) pss_nil)
      (pss_cons (ps_if (pt_cmpR op_eq (pv 0) pe_int (nomark _)) (pss_one (ps_ret (UL.pe_mkv T.ex_UnknownFunction.ox T.ex_UnknownFunction.ii T.ti_lives_init (ok_lives_init T) (hr.mono (by decide)) T.b_lives_init .nil pass0 (by rfl) T.g_UnknownFunction (pa_cons (pv 1) pa_nil)))) pss_nil)
      (pss_cons (ps_if (pt_cmpR op_eq (pv 0) pe_int (nomark _)) (pss_one (ps_ret (UL.pe_mkv T.ex_InvalidExpression.ox T.ex_InvalidExpression.ii T.ti_lives_init (ok_lives_init T) (hr.mono (by decide)) T.b_lives_init .nil pass0 (by rfl) T.g_InvalidExpression (pa_cons (pv 1) pa_nil)))) pss_nil)
      (pss_cons (ps_if (pt_cmpR op_eq (pv 0) pe_int (nomark _)) (pss_one (ps_ret (UL.pe_mkv T.ex_InvalidRow.ox T.ex_InvalidRow.ii T.ti_lives_init (ok_lives_init T) (hr.mono (by decide)) T.b_lives_init .nil pass0 (by rfl) T.g_InvalidRow (pa_cons (pv 1) pa_nil)))) pss_nil)
      (pss_cons (ps_if (pt_cmpR op_eq (pv 0) pe_int (nomark _)) (pss_one (ps_ret (UL.pe_mkv T.ex_InvalidLine.ox T.ex_InvalidLine.ii T.ti_lives_init (ok_lives_init T) (hr.mono (by decide)) T.b_lives_init .nil pass0 (by rfl) T.g_InvalidLine (pa_cons (pv 1) pa_nil)))) pss_nil)
      (pss_cons (ps_if (pt_cmpR op_eq (pv 0) pe_int (nomark _)) (pss_one (ps_ret (UL.pe_mkv T.ex_UnknownName.ox T.ex_UnknownName.ii T.ti_lives_init (ok_lives_init T) (hr.mono (by decide)) T.b_lives_init .nil pass0 (by rfl) T.g_UnknownName (pa_cons (pv 1) pa_nil)))) pss_nil)
      (pss_cons (ps_if (pt_cmpR op_eq (pv 0) pe_int (nomark _)) (pss_one (ps_ret (UL.pe_mkv T.ex_DuplicateName.ox T.ex_DuplicateName.ii T.ti_lives_init (ok_lives_init T) (hr.mono (by decide)) T.b_lives_init .nil pass0 (by rfl) T.g_DuplicateName (pa_cons (pv 1) pa_nil)))) pss_nil)
      (pss_cons (ps_if (pt_cmpR op_eq (pv 0) pe_int (nomark _)) (pss_one (ps_ret (UL.pe_mkv T.ex_NotReference.ox T.ex_NotReference.ii T.ti_lives_init (ok_lives_init T) (hr.mono (by decide)) T.b_lives_init .nil pass0 (by rfl) T.g_NotReference (pa_cons (pv 1) pa_nil)))) pss_nil)
      (pss_cons (ps_if (pt_cmpR op_eq (pv 0) pe_int (nomark _)) (pss_one (ps_ret (UL.pe_mkv T.ex_WrongCount.ox T.ex_WrongCount.ii T.ti_lives_init (ok_lives_init T) (hr.mono (by decide)) T.b_lives_init .nil pass0 (by rfl) T.g_WrongCount (pa_cons (pv 1) pa_nil)))) pss_nil)
      (pss_one (ps_ret (UL.pe_mkv T.ex_Unbalanced.ox T.ex_Unbalanced.ii T.ti_lives_init (ok_lives_init T) (hr.mono (by decide)) T.b_lives_init .nil pass0 (by rfl) T.g_Unbalanced (pa_cons (pv 1) pa_nil)))))))))))))), ?_⟩
    refine ⟨_, rfl, rfl, _, rfl, ite2 (fun e => ?_) (fun n0 => ?_)⟩
    · obtain rfl : i = 0 := by have := int_is e; omega
      exact ⟨v, rfl, (by show 1 ≤ 1000; decide), mk_what T.ex_InvalidSignature hw fun a v' H2 e x s => k a _ v' H2 e rfl x s⟩
    refine ⟨_, rfl, rfl, _, rfl, ite2 (fun e => ?_) (fun n1 => ?_)⟩
    · obtain rfl : i = 1 := by have := int_is e; omega
      exact ⟨v, rfl, (by show 1 ≤ 1000; decide), mk_what T.ex_DuplicateFunction hw fun a v' H2 e x s => k a _ v' H2 e rfl x s⟩
    refine ⟨_, rfl, rfl, _, rfl, ite2 (fun e => ?_) (fun n2 => ?_)⟩
    · obtain rfl : i = 2 := by have := int_is e; omega
      exact ⟨v, rfl, (by show 1 ≤ 1000; decide), mk_what T.ex_UnknownFunction hw fun a v' H2 e x s => k a _ v' H2 e rfl x s⟩
    refine ⟨_, rfl, rfl, _, rfl, ite2 (fun e => ?_) (fun n3 => ?_)⟩
    · obtain rfl : i = 3 := by have := int_is e; omega
      exact ⟨v, rfl, (by show 1 ≤ 1000; decide), mk_what T.ex_InvalidExpression hw fun a v' H2 e x s => k a _ v' H2 e rfl x s⟩
    refine ⟨_, rfl, rfl, _, rfl, ite2 (fun e => ?_) (fun n4 => ?_)⟩
    · obtain rfl : i = 4 := by have := int_is e; omega
      exact ⟨v, rfl, (by show 1 ≤ 1000; decide), mk_what T.ex_InvalidRow hw fun a v' H2 e x s => k a _ v' H2 e rfl x s⟩
    refine ⟨_, rfl, rfl, _, rfl, ite2 (fun e => ?_) (fun n5 => ?_)⟩
    · obtain rfl : i = 5 := by have := int_is e; omega
      exact ⟨v, rfl, (by show 1 ≤ 1000; decide), mk_what T.ex_InvalidLine hw fun a v' H2 e x s => k a _ v' H2 e rfl x s⟩
    refine ⟨_, rfl, rfl, _, rfl, ite2 (fun e => ?_) (fun n6 => ?_)⟩
    · obtain rfl : i = 6 := by have := int_is e; omega
      exact ⟨v, rfl, (by show 1 ≤ 1000; decide), mk_what T.ex_UnknownName hw fun a v' H2 e x s => k a _ v' H2 e rfl x s⟩
    refine ⟨_, rfl, rfl, _, rfl, ite2 (fun e => ?_) (fun n7 => ?_)⟩
    · obtain rfl : i = 7 := by have := int_is e; omega
      exact ⟨v, rfl, (by show 1 ≤ 1000; decide), mk_what T.ex_DuplicateName hw fun a v' H2 e x s => k a _ v' H2 e rfl x s⟩
    refine ⟨_, rfl, rfl, _, rfl, ite2 (fun e => ?_) (fun n8 => ?_)⟩
    · obtain rfl : i = 8 := by have := int_is e; omega
      exact ⟨v, rfl, (by show 1 ≤ 1000; decide), mk_what T.ex_NotReference hw fun a v' H2 e x s => k a _ v' H2 e rfl x s⟩
    refine ⟨_, rfl, rfl, _, rfl, ite2 (fun e => ?_) (fun n9 => ?_)⟩
    · obtain rfl : i = 9 := by have := int_is e; omega
      exact ⟨v, rfl, (by show 1 ≤ 1000; decide), mk_what T.ex_WrongCount hw fun a v' H2 e x s => k a _ v' H2 e rfl x s⟩
    obtain rfl : i = 10 := by
      have := int_isnt n0
      have := int_isnt n1
      have := int_isnt n2
      have := int_isnt n3
      have := int_isnt n4
      have := int_isnt n5
      have := int_isnt n6
      have := int_isnt n7
      have := int_isnt n8
      have := int_isnt n9
      omega
    exact ⟨v, rfl, (by show 1 ≤ 1000; decide), mk_what T.ex_Unbalanced hw fun a v' H2 e x s => k a _ v' H2 e rfl x s⟩
theorem ok_error (T : Tx K mg A) : FnOk P w K mg base CX0 6 A.error A.d_error p_error (spError K A 22) := by
  refine T.F_error.ok sc_error (fun vs H Q E h => ?_) (fun cdv Ar outer s H vs Q E hr h => ?_)
  · obtain ⟨i, v, rfl, _⟩ := h
    rfl
  · obtain ⟨i, v, rfl, hi, hw, k⟩ := h
    refine ⟨_, (pss_cons (ps_if (pt_cmpR op_lt (pv 0) pe_int (nomark _)) (pss_one (ps_ret (pe_call (ok_early T) (hr.mono (by decide)) (by rfl) T.g_early T.F_early.kp T.b_early .nil pass0 (pa_cons (pv 0) (pa_cons (pv 1) pa_nil))))) pss_nil)
      (pss_cons (ps_if (pt_cmpR op_eq (pv 0) pe_int (nomark _)) (pss_one (ps_ret (UL.pe_mkv T.ex_TooLarge.ox T.ex_TooLarge.ii T.ti_lives_init (ok_lives_init T) (hr.mono (by decide)) T.b_lives_init .nil pass0 (by rfl) T.g_TooLarge (pa_cons (pv 1) pa_nil)))) pss_nil)
      (pss_cons (ps_if (pt_cmpR op_eq (pv 0) pe_int (nomark _)) (pss_one (ps_ret (UL.pe_mkv T.ex_BadChoice.ox T.ex_BadChoice.ii T.ti_lives_init (ok_lives_init T) (hr.mono (by decide)) T.b_lives_init .nil pass0 (by rfl) T.g_BadChoice (pa_cons (pv 1) pa_nil)))) pss_nil)
      (pss_cons (ps_if (pt_cmpR op_eq (pv 0) pe_int (nomark _)) (pss_one (ps_ret (UL.pe_mkv T.ex_Ended.ox T.ex_Ended.ii T.ti_lives_init (ok_lives_init T) (hr.mono (by decide)) T.b_lives_init .nil pass0 (by rfl) T.g_Ended (pa_cons (pv 1) pa_nil)))) pss_nil)
      (pss_cons (ps_if (pt_cmpR op_eq (pv 0) pe_int (nomark _)) (pss_one (ps_ret (UL.pe_mkv T.ex_NoPlace.ox T.ex_NoPlace.ii T.ti_lives_init (ok_lives_init T) (hr.mono (by decide)) T.b_lives_init .nil pass0 (by rfl) T.g_NoPlace (pa_cons (pv 1) pa_nil)))) pss_nil)
      (pss_cons (ps_if (pt_cmpR op_eq (pv 0) pe_int (nomark _)) (pss_one (ps_ret (UL.pe_mkv T.ex_NoValue.ox T.ex_NoValue.ii T.ti_lives_init (ok_lives_init T) (hr.mono (by decide)) T.b_lives_init .nil pass0 (by rfl) T.g_NoValue (pa_cons (pv 1) pa_nil)))) pss_nil)
      (pss_cons (ps_if (pt_cmpR op_eq (pv 0) pe_int (nomark _)) (pss_one (ps_ret (UL.pe_mkv T.ex_NeverTogether.ox T.ex_NeverTogether.ii T.ti_lives_init (ok_lives_init T) (hr.mono (by decide)) T.b_lives_init .nil pass0 (by rfl) T.g_NeverTogether (pa_cons (pv 1) pa_nil)))) pss_nil)
      (pss_cons (ps_if (pt_cmpR op_eq (pv 0) pe_int (nomark _)) (pss_one (ps_ret (UL.pe_mkv T.ex_NoFact.ox T.ex_NoFact.ii T.ti_lives_init (ok_lives_init T) (hr.mono (by decide)) T.b_lives_init .nil pass0 (by rfl) T.g_NoFact (pa_cons (pv 1) pa_nil)))) pss_nil)
      (pss_cons (ps_if (pt_cmpR op_eq (pv 0) pe_int (nomark _)) (pss_one (ps_ret (UL.pe_mkv T.ex_NoWay.ox T.ex_NoWay.ii T.ti_lives_init (ok_lives_init T) (hr.mono (by decide)) T.b_lives_init .nil pass0 (by rfl) T.g_NoWay (pa_cons (pv 1) pa_nil)))) pss_nil)
      (pss_cons (ps_if (pt_cmpR op_eq (pv 0) pe_int (nomark _)) (pss_one (ps_ret (UL.pe_mkv T.ex_NotLoose.ox T.ex_NotLoose.ii T.ti_lives_init (ok_lives_init T) (hr.mono (by decide)) T.b_lives_init .nil pass0 (by rfl) T.g_NotLoose (pa_cons (pv 1) pa_nil)))) pss_nil)
      (pss_cons (ps_if (pt_cmpR op_eq (pv 0) pe_int (nomark _)) (pss_one (ps_ret (UL.pe_mkv T.ex_NoMend.ox T.ex_NoMend.ii T.ti_lives_init (ok_lives_init T) (hr.mono (by decide)) T.b_lives_init .nil pass0 (by rfl) T.g_NoMend (pa_cons (pv 1) pa_nil)))) pss_nil)
      (pss_one (ps_ret (UL.pe_mkv T.ex_OtherOuts.ox T.ex_OtherOuts.ii T.ti_lives_init (ok_lives_init T) (hr.mono (by decide)) T.b_lives_init .nil pass0 (by rfl) T.g_OtherOuts (pa_cons (pv 1) pa_nil))))))))))))))), ?_⟩
    refine ⟨_, rfl, _, _, rfl, rfl, _, rfl, ite2 (fun e => ?_) (fun n => ?_)⟩
    · have e1 : (i : Int) < 11 := of_decide_eq_true e
      exact ⟨_, rfl, v, rfl, i, v, rfl, by omega, hw, k⟩
    have n1 : ¬ (i : Int) < 11 := fun z => n (decide_eq_true z)
    refine ⟨_, rfl, rfl, _, rfl, ite2 (fun e => ?_) (fun n11 => ?_)⟩
    · obtain rfl : i = 11 := by have := int_is e; omega
      exact ⟨v, rfl, (by show 1 ≤ 1000; decide), mk_what T.ex_TooLarge hw fun a v' H2 e x s => k a _ v' H2 e rfl x s⟩
    refine ⟨_, rfl, rfl, _, rfl, ite2 (fun e => ?_) (fun n12 => ?_)⟩
    · obtain rfl : i = 12 := by have := int_is e; omega
      exact ⟨v, rfl, (by show 1 ≤ 1000; decide), mk_what T.ex_BadChoice hw fun a v' H2 e x s => k a _ v' H2 e rfl x s⟩
    refine ⟨_, rfl, rfl, _, rfl, ite2 (fun e => ?_) (fun n13 => ?_)⟩
    · obtain rfl : i = 13 := by have := int_is e; omega
      exact ⟨v, rfl, (by show 1 ≤ 1000; decide), mk_what T.ex_Ended hw fun a v' H2 e x s => k a _ v' H2 e rfl x s⟩
    refine ⟨_, rfl, rfl, _, rfl, ite2 (fun e => ?_) (fun n14 => ?_)⟩
    · obtain rfl : i = 14 := by have := int_is e; omega
      exact ⟨v, rfl, (by show 1 ≤ 1000; decide), mk_what T.ex_NoPlace hw fun a v' H2 e x s => k a _ v' H2 e rfl x s⟩
    refine ⟨_, rfl, rfl, _, rfl, ite2 (fun e => ?_) (fun n15 => ?_)⟩
    · obtain rfl : i = 15 := by have := int_is e; omega
      exact ⟨v, rfl, (by show 1 ≤ 1000; decide), mk_what T.ex_NoValue hw fun a v' H2 e x s => k a _ v' H2 e rfl x s⟩
    refine ⟨_, rfl, rfl, _, rfl, ite2 (fun e => ?_) (fun n16 => ?_)⟩
    · obtain rfl : i = 16 := by have := int_is e; omega
      exact ⟨v, rfl, (by show 1 ≤ 1000; decide), mk_what T.ex_NeverTogether hw fun a v' H2 e x s => k a _ v' H2 e rfl x s⟩
    refine ⟨_, rfl, rfl, _, rfl, ite2 (fun e => ?_) (fun n17 => ?_)⟩
    · obtain rfl : i = 17 := by have := int_is e; omega
      exact ⟨v, rfl, (by show 1 ≤ 1000; decide), mk_what T.ex_NoFact hw fun a v' H2 e x s => k a _ v' H2 e rfl x s⟩
    refine ⟨_, rfl, rfl, _, rfl, ite2 (fun e => ?_) (fun n18 => ?_)⟩
    · obtain rfl : i = 18 := by have := int_is e; omega
      exact ⟨v, rfl, (by show 1 ≤ 1000; decide), mk_what T.ex_NoWay hw fun a v' H2 e x s => k a _ v' H2 e rfl x s⟩
    refine ⟨_, rfl, rfl, _, rfl, ite2 (fun e => ?_) (fun n19 => ?_)⟩
    · obtain rfl : i = 19 := by have := int_is e; omega
      exact ⟨v, rfl, (by show 1 ≤ 1000; decide), mk_what T.ex_NotLoose hw fun a v' H2 e x s => k a _ v' H2 e rfl x s⟩
    refine ⟨_, rfl, rfl, _, rfl, ite2 (fun e => ?_) (fun n20 => ?_)⟩
    · obtain rfl : i = 20 := by have := int_is e; omega
      exact ⟨v, rfl, (by show 1 ≤ 1000; decide), mk_what T.ex_NoMend hw fun a v' H2 e x s => k a _ v' H2 e rfl x s⟩
    obtain rfl : i = 21 := by
      have := int_isnt n11
      have := int_isnt n12
      have := int_isnt n13
      have := int_isnt n14
      have := int_isnt n15
      have := int_isnt n16
      have := int_isnt n17
      have := int_isnt n18
      have := int_isnt n19
      have := int_isnt n20
      omega
    exact ⟨v, rfl, (by show 1 ≤ 1000; decide), mk_what T.ex_OtherOuts hw fun a v' H2 e x s => k a _ v' H2 e rfl x s⟩
/-! ### which class it is of -/
def kindL (i : Nat) : List V := (List.range 23).map fun j => V.bl (decide (j = i))
theorem kind_kit {K : PySem.W.Frag} {cs ds : List Addr} {C D I : Addr} {i j : Nat} (hk : UL.apartB K cs ds = true) (h0 : PySem.W.subIn K (.ref C) (.ref C) = some true) (hC : cs[i]? = some C) (F : UL.ExF K D I) (hD : ds[j]? = some D) :
    PySem.W.kitOne K (.ref C) (.ref D) = some (decide (j = i)) := UL.kit_pair h0 F.xf.hdC F.ox.tyC (by rw [UL.apart_at hk hC hD, decide_eq_decide.mpr eq_comm])
theorem ref_eq {D : Addr} : ∀ u, RelV (.ref D) u → u = .ref D := fun u r => by cases r; rfl
def spKinds (K : PySem.W.Frag) (A : Adr) : Sp := fun vs H Q _ => ∃ (a C : Addr) (fs : List (Str × V)) (i : Nat), vs = [.ref a] ∧ UL.ExV H a C fs ∧ (allC A)[i]? = some C ∧ ∀ p H', Ex H H' → H' p = some (.lst (kindL i)) → Q (.ref p) H'
theorem ok_kinds (T : Tx K mg A) : FnOk P w K mg base CX0 1 A.kinds A.d_kinds p_kinds (spKinds K A) := by
  refine T.F_kinds.ok sc_kinds (fun vs H Q E h => ?_) (fun cdv Ar outer s H vs Q E hr h => ?_)
  · obtain ⟨a, C, fs, i, rfl, _⟩ := h
    rfl
  · obtain ⟨a, C, fs, i, rfl, he, hC, k⟩ := h
    obtain ⟨xi, xf, _⟩ := all_xi T C (List.mem_of_getElem? hC)
    have h0 := (UL.beneath_at T.kl (List.mem_of_getElem? hC)).2.2
    refine ⟨_, (Evl.pss_cut (ps_set (i := 1) sc_kinds.nd rfl (Or.inl rfl) (pe_lst (pa_cons (pe_callB UL.call_isV (by rfl) T.m_isinstance (by decide +kernel) (pa_cons (pv 0) (pa_cons (pe_glob (v := .ref A.InvalidSignature) (by rfl) T.g_InvalidSignature rfl) pa_nil))) (pa_cons (pe_callB UL.call_isV (by rfl) T.m_isinstance (by decide +kernel) (pa_cons (pv 0) (pa_cons (pe_glob (v := .ref A.DuplicateFunction) (by rfl) T.g_DuplicateFunction rfl) pa_nil))) (pa_cons (pe_callB UL.call_isV (by rfl) T.m_isinstance (by decide +kernel) (pa_cons (pv 0) (pa_cons (pe_glob (v := .ref A.UnknownFunction) (by rfl) T.g_UnknownFunction rfl) pa_nil))) pa_nil)))))
      (Evl.pss_cut (ps_set (i := 1) sc_kinds.nd rfl (Or.inl rfl) (pe_op op_cat (pv 1) (pe_lst (pa_cons (pe_callB UL.call_isV (by rfl) T.m_isinstance (by decide +kernel) (pa_cons (pv 0) (pa_cons (pe_glob (v := .ref A.InvalidExpression) (by rfl) T.g_InvalidExpression rfl) pa_nil))) (pa_cons (pe_callB UL.call_isV (by rfl) T.m_isinstance (by decide +kernel) (pa_cons (pv 0) (pa_cons (pe_glob (v := .ref A.InvalidRow) (by rfl) T.g_InvalidRow rfl) pa_nil))) (pa_cons (pe_callB UL.call_isV (by rfl) T.m_isinstance (by decide +kernel) (pa_cons (pv 0) (pa_cons (pe_glob (v := .ref A.InvalidLine) (by rfl) T.g_InvalidLine rfl) pa_nil))) pa_nil))))))
      (Evl.pss_cut (ps_set (i := 1) sc_kinds.nd rfl (Or.inl rfl) (pe_op op_cat (pv 1) (pe_lst (pa_cons (pe_callB UL.call_isV (by rfl) T.m_isinstance (by decide +kernel) (pa_cons (pv 0) (pa_cons (pe_glob (v := .ref A.UnknownName) (by rfl) T.g_UnknownName rfl) pa_nil))) (pa_cons (pe_callB UL.call_isV (by rfl) T.m_isinstance (by decide +kernel) (pa_cons (pv 0) (pa_cons (pe_glob (v := .ref A.DuplicateName) (by rfl) T.g_DuplicateName rfl) pa_nil))) (pa_cons (pe_callB UL.call_isV (by rfl) T.m_isinstance (by decide +kernel) (pa_cons (pv 0) (pa_cons (pe_glob (v := .ref A.NotReference) (by rfl) T.g_NotReference rfl) pa_nil))) pa_nil))))))
      (Evl.pss_cut (ps_set (i := 1) sc_kinds.nd rfl (Or.inl rfl) (pe_op op_cat (pv 1) (pe_lst (pa_cons (pe_callB UL.call_isV (by rfl) T.m_isinstance (by decide +kernel) (pa_cons (pv 0) (pa_cons (pe_glob (v := .ref A.WrongCount) (by rfl) T.g_WrongCount rfl) pa_nil))) (pa_cons (pe_callB UL.call_isV (by rfl) T.m_isinstance (by decide +kernel) (pa_cons (pv 0) (pa_cons (pe_glob (v := .ref A.Unbalanced) (by rfl) T.g_Unbalanced rfl) pa_nil))) (pa_cons (pe_callB UL.call_isV (by rfl) T.m_isinstance (by decide +kernel) (pa_cons (pv 0) (pa_cons (pe_glob (v := .ref A.TooLarge) (by rfl) T.g_TooLarge rfl) pa_nil))) pa_nil))))))
      (Evl.pss_cut (ps_set (i := 1) sc_kinds.nd rfl (Or.inl rfl) (pe_op op_cat (pv 1) (pe_lst (pa_cons (pe_callB UL.call_isV (by rfl) T.m_isinstance (by decide +kernel) (pa_cons (pv 0) (pa_cons (pe_glob (v := .ref A.BadChoice) (by rfl) T.g_BadChoice rfl) pa_nil))) (pa_cons (pe_callB UL.call_isV (by rfl) T.m_isinstance (by decide +kernel) (pa_cons (pv 0) (pa_cons (pe_glob (v := .ref A.Ended) (by rfl) T.g_Ended rfl) pa_nil))) (pa_cons (pe_callB UL.call_isV (by rfl) T.m_isinstance (by decide +kernel) (pa_cons (pv 0) (pa_cons (pe_glob (v := .ref A.NoPlace) (by rfl) T.g_NoPlace rfl) pa_nil))) (pa_cons (pe_callB UL.call_isV (by rfl) T.m_isinstance (by decide +kernel) (pa_cons (pv 0) (pa_cons (pe_glob (v := .ref A.NoValue) (by rfl) T.g_NoValue rfl) pa_nil))) pa_nil)))))))
      (Evl.pss_cut (ps_set (i := 1) sc_kinds.nd rfl (Or.inl rfl) (pe_op op_cat (pv 1) (pe_lst (pa_cons (pe_callB UL.call_isV (by rfl) T.m_isinstance (by decide +kernel) (pa_cons (pv 0) (pa_cons (pe_glob (v := .ref A.NeverTogether) (by rfl) T.g_NeverTogether rfl) pa_nil))) (pa_cons (pe_callB UL.call_isV (by rfl) T.m_isinstance (by decide +kernel) (pa_cons (pv 0) (pa_cons (pe_glob (v := .ref A.NoFact) (by rfl) T.g_NoFact rfl) pa_nil))) (pa_cons (pe_callB UL.call_isV (by rfl) T.m_isinstance (by decide +kernel) (pa_cons (pv 0) (pa_cons (pe_glob (v := .ref A.NoWay) (by rfl) T.g_NoWay rfl) pa_nil))) pa_nil))))))
      (Evl.pss_cut (ps_set (i := 1) sc_kinds.nd rfl (Or.inl rfl) (pe_op op_cat (pv 1) (pe_lst (pa_cons (pe_callB UL.call_isV (by rfl) T.m_isinstance (by decide +kernel) (pa_cons (pv 0) (pa_cons (pe_glob (v := .ref A.NotLoose) (by rfl) T.g_NotLoose rfl) pa_nil))) (pa_cons (pe_callB UL.call_isV (by rfl) T.m_isinstance (by decide +kernel) (pa_cons (pv 0) (pa_cons (pe_glob (v := .ref A.NoMend) (by rfl) T.g_NoMend rfl) pa_nil))) (pa_cons (pe_callB UL.call_isV (by rfl) T.m_isinstance (by decide +kernel) (pa_cons (pv 0) (pa_cons (pe_glob (v := .ref A.OtherOuts) (by rfl) T.g_OtherOuts rfl) pa_nil))) pa_nil))))))
      (pss_one (ps_ret (pe_op op_cat (pv 1) (pe_lst (pa_cons (pe_callB UL.call_isV (by rfl) T.m_isinstance (by decide +kernel) (pa_cons (pv 0) (pa_cons (pe_glob (v := .ref A.DeadLook) (by rfl) T.g_DeadLook rfl) pa_nil))) pa_nil)))))))))))), ?_⟩
    let M : Nat → L2.St → Hp → Prop := fun n σ' H' => ∃ p, σ' = [some (.ref a), some (.ref p)] ∧ Ex H H' ∧ H' p = some (.lst ((kindL i).take n))
    have cat : ∀ {H' : Hp} {p q : Addr} {xs ys zs : List V} {Q : VK}, Ex H H' → H' p = some (.lst xs) → H' q = none → xs.length + ys.length ≤ sizeLine → xs ++ ys = zs → (∀ r H2, Ex H H2 → H2 r = some (.lst zs) → Q (.ref r) H2) → rCat (.ref p) (.ref q) (upd H' q (.lst ys)) Q := fun {H' p q xs ys zs Q} e1 h1 h2 h3 h4 h5 => ⟨p, q, xs, ys, rfl, rfl, (Ex.new h2) _ _ h1, upd_same, h3, fun r hr => h5 r _ ((e1.trans (Ex.new h2)).trans (Ex.new hr)) (by rw [upd_same, h4])⟩
    refine ⟨M 3, ?_, ?_⟩
    · have he0 := he
      have e0 : Ex H H := Ex.refl H
      refine ⟨_, rfl, a, C, fs, .ref A.InvalidSignature, .ref A.InvalidSignature, _, rfl, he0, xi, ref_eq, kind_kit (j := 0) T.kk h0 hC T.ex_InvalidSignature rfl, ?_⟩
      refine ⟨_, rfl, a, C, fs, .ref A.DuplicateFunction, .ref A.DuplicateFunction, _, rfl, he0, xi, ref_eq, kind_kit (j := 1) T.kk h0 hC T.ex_DuplicateFunction rfl, ?_⟩
      refine ⟨_, rfl, a, C, fs, .ref A.UnknownFunction, .ref A.UnknownFunction, _, rfl, he0, xi, ref_eq, kind_kit (j := 2) T.kk h0 hC T.ex_UnknownFunction rfl, ?_⟩
      refine ⟨sz_of (by show 3 ≤ 100000; decide), fun q0 hq0 => ?_⟩
      exact ⟨q0, rfl, Ex.new hq0, upd_same⟩
    rintro σ' H1 ⟨p1, rfl, e1, hp1⟩
    refine ⟨M 6, ?_, ?_⟩
    · have he1 := he.mono e1
      refine ⟨_, rfl, ?_⟩
      refine ⟨_, rfl, a, C, fs, .ref A.InvalidExpression, .ref A.InvalidExpression, _, rfl, he1, xi, ref_eq, kind_kit (j := 3) T.kk h0 hC T.ex_InvalidExpression rfl, ?_⟩
      refine ⟨_, rfl, a, C, fs, .ref A.InvalidRow, .ref A.InvalidRow, _, rfl, he1, xi, ref_eq, kind_kit (j := 4) T.kk h0 hC T.ex_InvalidRow rfl, ?_⟩
      refine ⟨_, rfl, a, C, fs, .ref A.InvalidLine, .ref A.InvalidLine, _, rfl, he1, xi, ref_eq, kind_kit (j := 5) T.kk h0 hC T.ex_InvalidLine rfl, ?_⟩
      refine ⟨sz_of (by show 3 ≤ 100000; decide), fun q1 hq1 => ?_⟩
      exact cat e1 hp1 hq1 (by rw [List.length_take]; exact sz_of (by show _ + 3 ≤ 100000; omega)) rfl fun r H2 e2 h2 => ⟨r, rfl, e2, h2⟩
    rintro σ' H2 ⟨p2, rfl, e2, hp2⟩
    refine ⟨M 9, ?_, ?_⟩
    · have he2 := he.mono e2
      refine ⟨_, rfl, ?_⟩
      refine ⟨_, rfl, a, C, fs, .ref A.UnknownName, .ref A.UnknownName, _, rfl, he2, xi, ref_eq, kind_kit (j := 6) T.kk h0 hC T.ex_UnknownName rfl, ?_⟩
      refine ⟨_, rfl, a, C, fs, .ref A.DuplicateName, .ref A.DuplicateName, _, rfl, he2, xi, ref_eq, kind_kit (j := 7) T.kk h0 hC T.ex_DuplicateName rfl, ?_⟩
      refine ⟨_, rfl, a, C, fs, .ref A.NotReference, .ref A.NotReference, _, rfl, he2, xi, ref_eq, kind_kit (j := 8) T.kk h0 hC T.ex_NotReference rfl, ?_⟩
      refine ⟨sz_of (by show 3 ≤ 100000; decide), fun q2 hq2 => ?_⟩
      exact cat e2 hp2 hq2 (by rw [List.length_take]; exact sz_of (by show _ + 3 ≤ 100000; omega)) rfl fun r H2 e2 h2 => ⟨r, rfl, e2, h2⟩
    rintro σ' H3 ⟨p3, rfl, e3, hp3⟩
    refine ⟨M 12, ?_, ?_⟩
    · have he3 := he.mono e3
      refine ⟨_, rfl, ?_⟩
      refine ⟨_, rfl, a, C, fs, .ref A.WrongCount, .ref A.WrongCount, _, rfl, he3, xi, ref_eq, kind_kit (j := 9) T.kk h0 hC T.ex_WrongCount rfl, ?_⟩
      refine ⟨_, rfl, a, C, fs, .ref A.Unbalanced, .ref A.Unbalanced, _, rfl, he3, xi, ref_eq, kind_kit (j := 10) T.kk h0 hC T.ex_Unbalanced rfl, ?_⟩
      refine ⟨_, rfl, a, C, fs, .ref A.TooLarge, .ref A.TooLarge, _, rfl, he3, xi, ref_eq, kind_kit (j := 11) T.kk h0 hC T.ex_TooLarge rfl, ?_⟩
      refine ⟨sz_of (by show 3 ≤ 100000; decide), fun q3 hq3 => ?_⟩
      exact cat e3 hp3 hq3 (by rw [List.length_take]; exact sz_of (by show _ + 3 ≤ 100000; omega)) rfl fun r H2 e2 h2 => ⟨r, rfl, e2, h2⟩
    rintro σ' H4 ⟨p4, rfl, e4, hp4⟩
    refine ⟨M 16, ?_, ?_⟩
    · have he4 := he.mono e4
      refine ⟨_, rfl, ?_⟩
      refine ⟨_, rfl, a, C, fs, .ref A.BadChoice, .ref A.BadChoice, _, rfl, he4, xi, ref_eq, kind_kit (j := 12) T.kk h0 hC T.ex_BadChoice rfl, ?_⟩
      refine ⟨_, rfl, a, C, fs, .ref A.Ended, .ref A.Ended, _, rfl, he4, xi, ref_eq, kind_kit (j := 13) T.kk h0 hC T.ex_Ended rfl, ?_⟩
      refine ⟨_, rfl, a, C, fs, .ref A.NoPlace, .ref A.NoPlace, _, rfl, he4, xi, ref_eq, kind_kit (j := 14) T.kk h0 hC T.ex_NoPlace rfl, ?_⟩
      refine ⟨_, rfl, a, C, fs, .ref A.NoValue, .ref A.NoValue, _, rfl, he4, xi, ref_eq, kind_kit (j := 15) T.kk h0 hC T.ex_NoValue rfl, ?_⟩
      refine ⟨sz_of (by show 4 ≤ 100000; decide), fun q4 hq4 => ?_⟩
      exact cat e4 hp4 hq4 (by rw [List.length_take]; exact sz_of (by show _ + 4 ≤ 100000; omega)) rfl fun r H2 e2 h2 => ⟨r, rfl, e2, h2⟩
    rintro σ' H5 ⟨p5, rfl, e5, hp5⟩
    refine ⟨M 19, ?_, ?_⟩
    · have he5 := he.mono e5
      refine ⟨_, rfl, ?_⟩
      refine ⟨_, rfl, a, C, fs, .ref A.NeverTogether, .ref A.NeverTogether, _, rfl, he5, xi, ref_eq, kind_kit (j := 16) T.kk h0 hC T.ex_NeverTogether rfl, ?_⟩
      refine ⟨_, rfl, a, C, fs, .ref A.NoFact, .ref A.NoFact, _, rfl, he5, xi, ref_eq, kind_kit (j := 17) T.kk h0 hC T.ex_NoFact rfl, ?_⟩
      refine ⟨_, rfl, a, C, fs, .ref A.NoWay, .ref A.NoWay, _, rfl, he5, xi, ref_eq, kind_kit (j := 18) T.kk h0 hC T.ex_NoWay rfl, ?_⟩
      refine ⟨sz_of (by show 3 ≤ 100000; decide), fun q5 hq5 => ?_⟩
      exact cat e5 hp5 hq5 (by rw [List.length_take]; exact sz_of (by show _ + 3 ≤ 100000; omega)) rfl fun r H2 e2 h2 => ⟨r, rfl, e2, h2⟩
    rintro σ' H6 ⟨p6, rfl, e6, hp6⟩
    refine ⟨M 22, ?_, ?_⟩
    · have he6 := he.mono e6
      refine ⟨_, rfl, ?_⟩
      refine ⟨_, rfl, a, C, fs, .ref A.NotLoose, .ref A.NotLoose, _, rfl, he6, xi, ref_eq, kind_kit (j := 19) T.kk h0 hC T.ex_NotLoose rfl, ?_⟩
      refine ⟨_, rfl, a, C, fs, .ref A.NoMend, .ref A.NoMend, _, rfl, he6, xi, ref_eq, kind_kit (j := 20) T.kk h0 hC T.ex_NoMend rfl, ?_⟩
      refine ⟨_, rfl, a, C, fs, .ref A.OtherOuts, .ref A.OtherOuts, _, rfl, he6, xi, ref_eq, kind_kit (j := 21) T.kk h0 hC T.ex_OtherOuts rfl, ?_⟩
      refine ⟨sz_of (by show 3 ≤ 100000; decide), fun q6 hq6 => ?_⟩
      exact cat e6 hp6 hq6 (by rw [List.length_take]; exact sz_of (by show _ + 3 ≤ 100000; omega)) rfl fun r H2 e2 h2 => ⟨r, rfl, e2, h2⟩
    rintro σ' H7 ⟨p7, rfl, e7, hp7⟩
    have he7 := he.mono e7
    refine ⟨_, rfl, ?_⟩
    refine ⟨_, rfl, a, C, fs, .ref A.DeadLook, .ref A.DeadLook, _, rfl, he7, xi, ref_eq, kind_kit (j := 22) T.kk h0 hC T.ex_DeadLook rfl, ?_⟩
    refine ⟨sz_of (by show 1 ≤ 100000; decide), fun q7 hq7 => ?_⟩
    exact cat e7 hp7 hq7 (by rw [List.length_take]; exact sz_of (by show _ + 1 ≤ 100000; omega)) rfl fun r H2 e2 h2 => k r H2 e2 h2
/-! ### the other small ones -/
def spSame : Sp := fun vs H Q _ => ∃ v w, vs = [v, w] ∧ SameW H v w ∧ Q (.bl true) H
def spBase (K : PySem.W.Frag) (A : Adr) : Sp := fun vs H Q _ => ∃ (a C : Addr) (fs : List (Str × V)) (i : Nat), vs = [.ref a] ∧ UL.ExV H a C fs ∧ (allC A)[i]? = some C ∧ Q (.bl true) H
theorem ok_base_of (T : Tx K mg A) : FnOk P w K mg base CX0 1 A.base_of A.d_base_of p_base_of (spBase K A) := by
  refine T.F_base_of.ok sc_base_of (fun vs H Q E h => ?_) (fun cdv Ar outer s H vs Q E hr h => ?_)
  · obtain ⟨a, C, fs, i, rfl, _⟩ := h
    rfl
  · obtain ⟨a, C, fs, i, rfl, he, hC, k⟩ := h
    obtain ⟨xi, xf, _⟩ := all_xi T C (List.mem_of_getElem? hC)
    obtain ⟨b1, b2, b3⟩ := UL.beneath_at T.kl (List.mem_of_getElem? hC)
    refine ⟨_, (pss_one (ps_ret (pe_and (pe_callB UL.call_isV (by rfl) T.m_isinstance (by decide +kernel) (pa_cons (pv 0) (pa_cons (pe_glob (v := .ref A.LivesError) (by rfl) T.g_LivesError rfl) pa_nil))) (pe_one (pe_callB UL.call_isV (by rfl) T.m_isinstance (by decide +kernel) (pa_cons (pv 0) (pa_cons (pe_bltn (v := .ty "ValueError") (u := .type "ValueError") (by rfl) T.m_ValueError (by decide +kernel) rfl) pa_nil))))))), ?_⟩
    refine ⟨_, rfl, a, C, fs, .ref A.LivesError, .ref A.LivesError, true, rfl, he, xi, ref_eq, UL.kit_pair b3 T.ex_LivesError.xf.hdC T.ex_LivesError.ox.tyC b1, ?_⟩
    refine ⟨_, rfl, ?_⟩
    refine iteT ⟨_, rfl, a, C, fs, .ty "ValueError", .type "ValueError", true, rfl, he, xi, (fun u r => r), UL.kit_ref_type (by decide +kernel) b2, k⟩
theorem ok_same (T : Tx K mg A) : FnOk P w K mg base CX0 1 A.same A.d_same p_same spSame := by
  refine T.F_same.ok sc_same (fun vs H Q E h => ?_) (fun cdv Ar outer s H vs Q E hr h => ?_)
  · obtain ⟨v, w, rfl, _⟩ := h
    rfl
  · obtain ⟨v, w, rfl, hs, k⟩ := h
    obtain ⟨d, t, t', b, c, D1, D2, sh, y1, y2, i1, i2, i3, i4⟩ := hs.data (K := K)
    refine ⟨_, (pss_one (ps_ret (pe_and (pe_cmpR op_eq (pe_callB call_isi (by rfl) T.m_isinstance (by decide +kernel) (pa_cons (pv 0) (pa_cons (pe_bltn (v := .ty "str") (u := .type "str") (by rfl) T.m_str (by decide +kernel) rfl) pa_nil))) (pe_callB call_isi (by rfl) T.m_isinstance (by decide +kernel) (pa_cons (pv 1) (pa_cons (pe_bltn (v := .ty "str") (u := .type "str") (by rfl) T.m_str (by decide +kernel) rfl) pa_nil))) (nomark _)) (pe_and (pe_cmpR op_eq (pe_callB call_isi (by rfl) T.m_isinstance (by decide +kernel) (pa_cons (pv 0) (pa_cons (pe_bltn (v := .ty "list") (u := .type "list") (by rfl) T.m_list (by decide +kernel) rfl) pa_nil))) (pe_callB call_isi (by rfl) T.m_isinstance (by decide +kernel) (pa_cons (pv 1) (pa_cons (pe_bltn (v := .ty "list") (u := .type "list") (by rfl) T.m_list (by decide +kernel) rfl) pa_nil))) (nomark _)) (pe_one (pe_cmpR (op_eqD hr.units) (pv 0) (pv 1) (nomark _))))))), ?_⟩
    refine ⟨_, rfl, v, _, t, _, b, rfl, .ty "str", y1, i1, _, rfl, w, _, t', _, b, rfl, .ty "str", y2, i2, rfl, _, rfl, ?_⟩
    rw [decide_eq_true (rfl : V.bl b = V.bl b)]
    refine iteT ⟨_, rfl, v, _, t, _, c, rfl, .ty "list", y1, i3, _, rfl, w, _, t', _, c, rfl, .ty "list", y2, i4, rfl, _, rfl, ?_⟩
    rw [decide_eq_true (rfl : V.bl c = V.bl c)]
    refine iteT ⟨_, rfl, _, rfl, d, d, D1, D2, sh, sh, ?_⟩
    rw [SeqAt.eqv_refl _ (SeqAt.canLay_of_shaped sh)]
    exact k
end
end K06

set_option Elab.async false
set_option linter.all false
set_option maxRecDepth 100000
namespace K06
open PySem PySem.Spec PyProof.Rows L2 Evl TL UL StX
section
variable {P : Program} {w : World} {K : PySem.W.Frag} {mg : Str → Option Value} {base : Heap} {A : Adr}
/-! ### the law -/
/-- one thing after another -/
theorem bools_data {K : PySem.W.Frag} {H : Hp} : ∀ bs : List Bool, DpAll K H (bs.map V.bl) (bs.map PyData.bool)
  | [] => .nil
  | b :: r => .cons (.bl b) (bools_data r)
theorem bools_lay : ∀ bs : List Bool, PyData.canLayAll0 (bs.map PyData.bool) = true ∧ PyData.depthAll (bs.map PyData.bool) ≤ 1
  | [] => ⟨rfl, by simp [PyData.depthAll]⟩
  | n :: r => by
    obtain ⟨h1, h2⟩ := bools_lay r
    refine ⟨?_, ?_⟩
    · show (PyData.canLay0 (.bool n) && PyData.canLayAll0 (r.map PyData.bool)) = true
      rw [h1]
      rfl
    · simp only [List.map_cons, PyData.depthAll, PyData.depth]
      omega
theorem bools_shaped (bs : List Bool) : SeqAt.shaped (.list (bs.map PyData.bool)) = true := by
  obtain ⟨h1, h2⟩ := bools_lay bs
  unfold SeqAt.shaped
  rw [show PyData.canLay0 (.list (bs.map PyData.bool)) = true by unfold PyData.canLay0; exact h1, Bool.true_and]
  refine decide_eq_true ?_
  simp only [PyData.depth]
  omega
theorem kindL_eq (i : Nat) : kindL i = ((List.range 23).map fun j => decide (j = i)).map V.bl := by
  unfold kindL
  rw [List.map_map]
  rfl
theorem kindL_data {K : PySem.W.Frag} {H : Hp} {p q : Addr} {i : Nat} (h1 : H p = some (.lst (kindL i))) (h2 : H q = some (.lst (kindL i))) :
    ∃ d, Dp K H (.ref p) d ∧ Dp K H (.ref q) d ∧ SeqAt.shaped d = true ∧ PyData.eqv d d = true := by
  have sh := bools_shaped ((List.range 23).map fun j => decide (j = i))
  rw [kindL_eq] at h1 h2
  exact ⟨_, .lst (SqL.of h1) (bools_data _), .lst (SqL.of h2) (bools_data _), sh, SeqAt.eqv_refl _ (SeqAt.canLay_of_shaped sh)⟩
/-- [te for _ in range(n)]: what it is, is told by the number -/
theorem lc_fun {f : Nat → V} {n : Int} {j : Nat} {te : TE} {vs : List Nat} {σ : L2.St} {H1 : Hp} {D : Addr} {Qd : Hp → Prop} (hn : 0 ≤ n ∧ n ≤ 100000) (hD : H1 D = none) (hw : ∀ x, wipe ((wipe σ vs).set j (some x)) vs = wipe σ vs)
    (he : ∀ (i : Nat) H', (i : Int) < n → ∀ Q : VK, Q (f i) H' → te ((wipe σ vs).set j (some (.int (i : Int)))) H' Q) (hd : Qd (upd H1 D (.lst ((List.range n.toNat).map f)))) :
    ∃ W : Nat → Nat → Hp → Prop, (∃ m, W 0 m (upd H1 D (.lst []))) ∧ ∀ i m H, W i m H →
      ((Itr 0 n.toNat).stop i H ∧ Qd H) ∨ ((Itr 0 n.toNat).go i H ∧ ∃ Nx : Hp → Prop, (∀ H', Nx H' → ∃ m', m' < m ∧ W (i + 1) m' H') ∧ ∀ x H', (Itr 0 n.toNat).yld i H x H' → gName j x (wipe σ vs) H' fun σ2 H2 => wipe σ2 vs = wipe σ vs ∧ tYes σ2 H2 fun b H3 =>
        if b = true then te σ2 H3 fun y H4 => ∃ acc, H4 D = some (.lst acc) ∧ acc.length < sizeLine ∧ Nx (upd H4 D (.lst (acc ++ [y]))) else Nx H3) := by
  refine lc_range (lo := 0) (n := n.toNat) (fun i H' => H' = upd H1 D (.lst ((List.range i).map f))) rfl ?_ ?_
  · rintro i H' hi rfl
    have e0 : (0 : Int) + (i : Int) = (i : Int) := Int.zero_add _
    show wipe ((wipe σ vs).set j (some (.int ((0 : Int) + (i : Int))))) vs = wipe σ vs ∧ _
    refine ⟨hw _, ?_⟩
    show te ((wipe σ vs).set j (some (.int ((0 : Int) + (i : Int))))) _ _
    rw [e0]
    refine he i _ (by omega) _ ⟨_, upd_same, sz_lt (by rw [List.length_map, List.length_range]; omega), ?_⟩
    rw [upd_upd, List.range_succ, List.map_append]
    rfl
  · rintro H' rfl
    exact hd
theorem int_eqb (i j : Nat) : decide (V.int (i : Int) = V.int (j : Int)) = decide (i = j) := decide_eq_decide.mpr ⟨fun e => by injection e with e; omega, fun e => by rw [e]⟩
theorem SameW.symm {H : Hp} {v w : V} (h : SameW H v w) : SameW H w v := by
  rcases h with ⟨h, rfl⟩ | ⟨a, b, ns, rfl, rfl, h1, h2, h3⟩ | ⟨a, b, i, z, rfl, rfl, h1, h2, h3⟩
  · exact .inl ⟨h, rfl⟩
  · exact .inr (.inl ⟨b, a, ns, rfl, rfl, h2, h1, h3⟩)
  · exact .inr (.inr ⟨b, a, i, z, rfl, rfl, h2, h1, h3⟩)
def spLaw (K : PySem.W.Frag) : Sp := fun vs H Q _ => ∃ (a : Addr) (ns : List Int), vs = [.ref a] ∧ SqL K H a (ns.map V.int) ∧ ns.length ≤ 63 ∧ ∀ H', Q (.bl true) H'
theorem ok_law (T : Tx K mg A) (Z : UL.SupP P A.file_dead_init) : FnOk P w K mg base CX0 7 A.law A.d_law p_law (spLaw K) := by
  refine T.F_law.ok sc_law (fun vs H Q E h => ?_) (fun cdv Ar outer s H vs Q E hr h => ?_)
  · obtain ⟨a, ns, rfl, _⟩ := h
    rfl
  · obtain ⟨a, ns, rfl, hS, hlen, k⟩ := h
    refine ⟨_, (pss_cons (ps_set (i := 1) sc_law.nd rfl (Or.inl rfl) (pe_call (ok_draws T) (hr.mono (by decide)) (by rfl) T.g_draws T.F_draws.kp T.b_draws .nil pass0 (pa_cons (pv 0) pa_nil)))
      (pss_cons (ps_for PassesOwn.never rfl (pi_range1 (by rfl) T.m_range (pa_cons pe_int pa_nil)) (pg_name (i := 2) sc_law.nd rfl (Or.inr rfl)) (pss_cons (ps_set (i := 3) sc_law.nd rfl (Or.inl rfl) (pe_call (ok_what T) (hr.mono (by decide)) (by rfl) T.g_what T.F_what.kp T.b_what .nil pass0 (pa_cons (pv 1) pa_nil)))
        (pss_cons (ps_set (i := 4) sc_law.nd rfl (Or.inl rfl) (pe_call (ok_error T) (hr.mono (by decide)) (by rfl) T.g_error T.F_error.kp T.b_error .nil pass0 (pa_cons (pv 2) (pa_cons (pv 3) pa_nil))))
        (pss_cons (ps_set (i := 5) sc_law.nd rfl (Or.inl rfl) (pe_call (ok_error T) (hr.mono (by decide)) (by rfl) T.g_error T.F_error.kp T.b_error .nil pass0 (pa_cons (pv 2) (pa_cons pe_str pa_nil))))
        (pss_cons (ps_if (PW.pt (pw_or (pt_not (pt_val (pe_call (ok_base_of T) (hr.mono (by decide)) (by rfl) T.g_base_of T.F_base_of.kp T.b_base_of .nil pass0 (pa_cons (pv 4) pa_nil)))) (pw_or1 (pt_cmpR (op_neD hr.units) (pe_call (ok_kinds T) (hr.mono (by decide)) (by rfl) T.g_kinds T.F_kinds.kp T.b_kinds .nil pass0 (pa_cons (pv 4) pa_nil)) (pe_lc (own := [("_law_j", 8)]) (g := gName 8) (tt := tYes) rfl sc_law.nd (pi_range1 (by rfl) T.m_range (pa_cons pe_int pa_nil)) (blkOk_by (N := n_law) (sc := defScope s_law) (by decide +kernel)) (fun _ _ _ _ _ => pg_name (i := 8) sc_law.nd rfl (Or.inl rfl)) (fun _ _ _ _ _ => pts_nil) (fun _ _ _ _ _ => (pe_cmpR op_eq (pv 8) (pv 2) (nomark _)))) (nomark _))))) (pss_one (ps_ret pe_bl)) pss_nil)
        (pss_one (ps_if (PW.pt (pw_or (pt_not (pt_val (pe_call (ok_same T) (hr.mono (by decide)) (by rfl) T.g_same T.F_same.kp T.b_same .nil pass0 (pa_cons (UL.pe_xv (pv 4)) (pa_cons (pv 3) pa_nil))))) (pw_or1 (pt_not (pt_val (pe_call (ok_same T) (hr.mono (by decide)) (by rfl) T.g_same T.F_same.kp T.b_same .nil pass0 (pa_cons (UL.pe_xv (pv 5)) (pa_cons pe_str pa_nil)))))))) (pss_one (ps_ret pe_bl)) pss_nil)))))))
      (pss_cons (ps_set (i := 3) sc_law.nd rfl (Or.inl rfl) (pe_call (ok_what T) (hr.mono (by decide)) (by rfl) T.g_what T.F_what.kp T.b_what .nil pass0 (pa_cons (pv 1) pa_nil)))
      (pss_cons (ps_set (i := 6) sc_law.nd rfl (Or.inl rfl) (pe_call (ok_number T) (hr.mono (by decide)) (by rfl) T.g_number T.F_number.kp T.b_number .nil pass0 (pa_cons (pv 1) pa_nil)))
      (pss_cons (ps_set (i := 4) sc_law.nd rfl (Or.inl rfl) (UL.pe_mkv T.ex_DeadLook.ox T.ex_DeadLook.ii T.ti_dead_init (ok_dead_init T Z) (hr.mono (by decide)) T.b_dead_init .nil pass0 (by rfl) T.g_DeadLook (pa_cons (pv 6) (pa_cons (pv 3) pa_nil))))
      (pss_cons (ps_if (PW.pt (pw_or (pt_not (pt_val (pe_call (ok_base_of T) (hr.mono (by decide)) (by rfl) T.g_base_of T.F_base_of.kp T.b_base_of .nil pass0 (pa_cons (pv 4) pa_nil)))) (pw_or (pt_cmpR (op_neD hr.units) (pe_call (ok_kinds T) (hr.mono (by decide)) (by rfl) T.g_kinds T.F_kinds.kp T.b_kinds .nil pass0 (pa_cons (pv 4) pa_nil)) (pe_lc (own := [("_law_j", 8)]) (g := gName 8) (tt := tYes) rfl sc_law.nd (pi_range1 (by rfl) T.m_range (pa_cons pe_int pa_nil)) (blkOk_by (N := n_law) (sc := defScope s_law) (by decide +kernel)) (fun _ _ _ _ _ => pg_name (i := 8) sc_law.nd rfl (Or.inl rfl)) (fun _ _ _ _ _ => pts_nil) (fun _ _ _ _ _ => (pe_cmpR op_eq (pv 8) pe_int (nomark _)))) (nomark _)) (pw_or (pt_cmpR op_ne (UL.pe_xv (pv 4)) (pv 6) (nomark _)) (pw_or1 (pt_not (pt_val (pe_call (ok_same T) (hr.mono (by decide)) (by rfl) T.g_same T.F_same.kp T.b_same .nil pass0 (pa_cons (UL.pe_xv (pv 4)) (pa_cons (pv 3) pa_nil)))))))))) (pss_one (ps_ret pe_bl)) pss_nil)
      (pss_cons (ps_set (i := 7) sc_law.nd rfl (Or.inl rfl) (UL.pe_mkv T.ex_LivesError.ox T.ex_LivesError.ii T.ti_lives_init (ok_lives_init T) (hr.mono (by decide)) T.b_lives_init .nil pass0 (by rfl) T.g_LivesError (pa_cons (pv 3) pa_nil)))
      (pss_one (ps_ret (pe_and (pe_call (ok_base_of T) (hr.mono (by decide)) (by rfl) T.g_base_of T.F_base_of.kp T.b_base_of .nil pass0 (pa_cons (pv 7) pa_nil)) (pe_and (pe_cmpR (op_eqD hr.units) (pe_call (ok_kinds T) (hr.mono (by decide)) (by rfl) T.g_kinds T.F_kinds.kp T.b_kinds .nil pass0 (pa_cons (pv 7) pa_nil)) (pe_lc (own := [("_law_j", 8)]) (g := gName 8) (tt := tYes) rfl sc_law.nd (pi_range1 (by rfl) T.m_range (pa_cons pe_int pa_nil)) (blkOk_by (N := n_law) (sc := defScope s_law) (by decide +kernel)) (fun _ _ _ _ _ => pg_name (i := 8) sc_law.nd rfl (Or.inl rfl)) (fun _ _ _ _ _ => pts_nil) (fun _ _ _ _ _ => pe_bl)) (nomark _)) (pe_one (pe_call (ok_same T) (hr.mono (by decide)) (by rfl) T.g_same T.F_same.kp T.b_same .nil pass0 (pa_cons (UL.pe_xv (pv 7)) (pa_cons (pv 3) pa_nil))))))))))))))), ?_⟩
    refine ⟨_, rfl, a, ns, rfl, hS, hlen, fun d hdn => ?_⟩
    have hd0 : upd H d (DrO d) d = some (DrO d) := upd_same
    revert hd0
    generalize upd H d (DrO d) = H0
    intro hd0
    refine ⟨22, rfl, forR1 ⟨by decide, by decide⟩ (fun i σ H' => ∃ v2 v3 v4 v5 v6 v7 v8, σ = [some (.ref a), some (.ref d), v2, v3, v4, v5, v6, v7, v8] ∧ H' d = some (DrO d)) ⟨_, _, _, _, _, _, _, rfl, hd0⟩ ?_ ?_⟩
    · rintro i σ' H' hi ⟨v2, v3, v4, v5, v6, v7, v8, rfl, hd⟩
      have hi' : i < 22 := by omega
      refine ⟨_, rfl, d, rfl, hd, fun v H1 e1 hw => ?_⟩
      refine ⟨_, rfl, _, rfl, i, v, rfl, hi', hw, fun x C y H2 e2 hC hx hs => ?_⟩
      refine ⟨_, rfl, i, .str "other", rfl, hi', .inl (by decide +kernel), fun x' C' y' H3 e3 hC' hx' hs' => ?_⟩
      have hx3 := hx.mono e3
      refine ⟨_, rfl, x, C, _, i, rfl, hx3, hC, _, rfl, ?_⟩
      refine iteF ⟨_, rfl, x, C, _, i, rfl, hx3, hC, fun p H4 e4 h4 => ?_⟩
      refine ⟨23, rfl, by decide, by decide, fun D hD => ?_⟩
      refine lc_fun (f := fun j => V.bl (decide (j = i))) (n := 23) ⟨by decide, by decide⟩ hD (fun _ => rfl) (fun j H' hj Q' q => ?_) ?_
      · refine ⟨_, rfl, _, rfl, rfl, ?_⟩
        rw [int_eqb]
        exact q
      obtain ⟨dd, D1, D2, sh, ev⟩ := kindL_data (K := K) ((Ex.new hD) _ _ h4) (show upd H4 D (.lst (kindL i)) D = _ from upd_same)
      refine ⟨dd, dd, D1, D2, sh, sh, _, rfl, ?_⟩
      rw [ev]
      refine iteF ?_
      have e5 := e4.trans (Ex.new (o := .lst (kindL i)) hD)
      obtain ⟨xi, xf, nw⟩ := all_xi T C (List.mem_of_getElem? hC)
      obtain ⟨xi', xf', nw'⟩ := all_xi T C' (List.mem_of_getElem? hC')
      refine ⟨_, rfl, x, C, _, y, rfl, hx3.mono e5, xf, nw, rfl, _, rfl, y, v, rfl, (hs.symm.mono e3).mono e5, _, rfl, iteF ?_⟩
      refine ⟨_, rfl, x', C', _, y', rfl, hx'.mono e5, xf', nw', rfl, y', _, rfl, hs'.symm.mono e5, _, rfl, iteF ?_⟩
      exact ⟨_, _, _, _, _, _, _, rfl, e5 _ _ (e3 _ _ (e2 _ _ (e1 _ _ hd)))⟩
    · rintro σ' H' ⟨v2, v3, v4, v5, v6, v7, v8, rfl, hd⟩
      refine ⟨_, rfl, d, rfl, hd, fun v H1 e1 hw => ⟨_, rfl, d, rfl, e1 _ _ hd, fun r => ?_⟩⟩
      refine ⟨_, rfl, _, rfl, (by show 2 ≤ 1000; decide), mk_dead T.ex_DeadLook T.nr T.mD T.sD hw fun x y H2 e2 hx hs => ?_⟩
      refine ⟨_, rfl, x, A.DeadLook, _, 22, rfl, hx, rfl, _, rfl, ?_⟩
      refine iteF ⟨_, rfl, x, A.DeadLook, _, 22, rfl, hx, rfl, fun p H4 e4 h4 => ?_⟩
      refine ⟨23, rfl, by decide, by decide, fun D hD => ?_⟩
      refine lc_fun (f := fun j => V.bl (decide (j = 22))) (n := 23) ⟨by decide, by decide⟩ hD (fun _ => rfl) (fun j H' hj Q' q => ?_) ?_
      · refine ⟨_, rfl, rfl, ?_⟩
        rw [show decide (V.int (j : Int) = V.int 22) = decide (j = 22) from int_eqb j 22]
        exact q
      obtain ⟨dd, D1, D2, sh, ev⟩ := kindL_data (K := K) ((Ex.new hD) _ _ h4) (show upd H4 D (.lst (kindL 22)) D = _ from upd_same)
      refine ⟨dd, dd, D1, D2, sh, sh, _, rfl, ?_⟩
      rw [ev]
      refine iteF ?_
      have e5 := e4.trans (Ex.new (o := .lst (kindL 22)) hD)
      refine ⟨_, rfl, x, A.DeadLook, _, .int r, rfl, hx.mono e5, T.ex_DeadLook.xf, T.nr, rfl, _, rfl, rfl, _, rfl, ?_⟩
      rw [decide_eq_true (rfl : V.int r = V.int r)]
      refine iteF ⟨_, rfl, x, A.DeadLook, _, y, rfl, hx.mono e5, T.ex_DeadLook.xf, T.ex_DeadLook.nw, rfl, _, rfl, y, v, rfl, hs.symm.mono e5, _, rfl, iteF ?_⟩
      refine ⟨_, rfl, (by show 1 ≤ 1000; decide), mk_what T.ex_LivesError (hw.mono (e2.trans e5)) fun x2 y2 H6 e6 hx2 hs2 => ?_⟩
      refine ⟨_, rfl, x2, A.LivesError, _, 23, rfl, hx2, rfl, _, rfl, ?_⟩
      refine iteT ⟨_, rfl, x2, A.LivesError, _, 23, rfl, hx2, rfl, fun p2 H7 e7 h7 => ?_⟩
      refine ⟨23, rfl, by decide, by decide, fun D2 hD2 => ?_⟩
      refine lc_fun (f := fun j => V.bl (decide (j = 23))) (n := 23) ⟨by decide, by decide⟩ hD2 (fun _ => rfl) (fun j H' hj Q' q => ?_) ?_
      · rw [decide_eq_false (show ¬ j = 23 by omega)] at q
        exact q
      obtain ⟨dd, D1, D2', sh, ev⟩ := kindL_data (K := K) ((Ex.new hD2) _ _ h7) (show upd H7 D2 (.lst (kindL 23)) D2 = _ from upd_same)
      refine ⟨dd, dd, D1, D2', sh, sh, _, rfl, ?_⟩
      rw [ev]
      have e8 := e7.trans (Ex.new (o := .lst (kindL 23)) hD2)
      exact iteT ⟨_, rfl, x2, A.LivesError, _, y2, rfl, hx2.mono e8, T.ex_LivesError.xf, T.ex_LivesError.nw, rfl, _, rfl, y2, v, rfl, hs2.symm.mono e8, k _⟩

end
theorem all_mk {l : PySem.W.OpenLaw} {w : World} {K : PySem.W.Frag} {h : Heap} {mg : Str → Option Value} {fa : Addr} (X : K.In h) (G : h.Ns mainGlobals mg) (hfa : mg "law" = some (.ref fa))
    {f0 f1 f2 f3 f4 f5 f6 f7 f8 f9 f10 f11 f12 f13 : Addr}
    {od0 an0 od1 an1 od2 an2 od3 an3 od4 an4 od5 an5 od6 an6 od7 an7 od8 an8 od9 an9 od10 an10 od11 an11 od12 an12 od13 an13 : Option Addr}
    {sl0 sl1 sl2 sl3 sl4 sl5 sl6 sl7 sl8 sl9 sl10 sl11 sl12 sl13 : Array (Option Value)}
    {oc0 kV0 dc0 pm0 cd0 ct0 oc1 kV1 dc1 pm1 cd1 ct1 oc2 kV2 dc2 pm2 ct2 oc3 kV3 dc3 pm3 cd3 ct3 oc4 kV4 dc4 pm4 cd4 ct4 oc5 kV5 dc5 pm5 cd5 ct5 oc6 kV6 dc6 pm6 cd6 ct6 oc7 kV7 dc7 pm7 cd7 ct7 oc8 kV8 dc8 pm8 cd8 ct8 oc9 kV9 dc9 pm9 cd9 ct9 oc10 kV10 dc10 pm10 cd10 ct10 oc11 kV11 dc11 pm11 cd11 ct11 oc12 kV12 dc12 pm12 cd12 ct12 oc13 kV13 dc13 pm13 cd13 ct13 : Value}
    {xInvalidSignature : Addr}
    {xDuplicateFunction : Addr}
    {xUnknownFunction : Addr}
    {xInvalidExpression : Addr}
    {xInvalidRow : Addr}
    {xInvalidLine : Addr}
    {xUnknownName : Addr}
    {xDuplicateName : Addr}
    {xNotReference : Addr}
    {xWrongCount : Addr}
    {xUnbalanced : Addr}
    {xTooLarge : Addr}
    {xBadChoice : Addr}
    {xEnded : Addr}
    {xNoPlace : Addr}
    {xNoValue : Addr}
    {xNeverTogether : Addr}
    {xNoFact : Addr}
    {xNoWay : Addr}
    {xNotLoose : Addr}
    {xNoMend : Addr}
    {xOtherOuts : Addr}
    {xDeadLook : Addr}
    {xLivesError : Addr}
    {dT0 : Addr} {dO0 : Option Addr} {dN0 : Nat} {dS0 : Array (Option Value)} {dt0x0 : Nat}
    {cc2 ca2 : Addr} {fc2 : Value} {fdd2 cdd2 : Option Addr} {fs2 cs2 : Array (Option Value)} {cl2 : Value} {vs2 : Array Value} {fl2 : Str} {tf2 : Tok}
    {nmInvalidSignature qInvalidSignature : Str} {NInvalidSignature : Addr} {bsInvalidSignature bmInvalidSignature : List Value} {snInvalidSignature : List Str} {subInvalidSignature : List Value} {abInvalidSignature : Bool} {colInvalidSignature : Option Bool} {ddInvalidSignature : Option Addr} {m0InvalidSignature m1InvalidSignature m2InvalidSignature m3InvalidSignature m5InvalidSignature : Option Value}
    {nmDuplicateFunction qDuplicateFunction : Str} {NDuplicateFunction : Addr} {bsDuplicateFunction bmDuplicateFunction : List Value} {snDuplicateFunction : List Str} {subDuplicateFunction : List Value} {abDuplicateFunction : Bool} {colDuplicateFunction : Option Bool} {ddDuplicateFunction : Option Addr} {m0DuplicateFunction m1DuplicateFunction m2DuplicateFunction m3DuplicateFunction m5DuplicateFunction : Option Value}
    {nmUnknownFunction qUnknownFunction : Str} {NUnknownFunction : Addr} {bsUnknownFunction bmUnknownFunction : List Value} {snUnknownFunction : List Str} {subUnknownFunction : List Value} {abUnknownFunction : Bool} {colUnknownFunction : Option Bool} {ddUnknownFunction : Option Addr} {m0UnknownFunction m1UnknownFunction m2UnknownFunction m3UnknownFunction m5UnknownFunction : Option Value}
    {nmInvalidExpression qInvalidExpression : Str} {NInvalidExpression : Addr} {bsInvalidExpression bmInvalidExpression : List Value} {snInvalidExpression : List Str} {subInvalidExpression : List Value} {abInvalidExpression : Bool} {colInvalidExpression : Option Bool} {ddInvalidExpression : Option Addr} {m0InvalidExpression m1InvalidExpression m2InvalidExpression m3InvalidExpression m5InvalidExpression : Option Value}
    {nmInvalidRow qInvalidRow : Str} {NInvalidRow : Addr} {bsInvalidRow bmInvalidRow : List Value} {snInvalidRow : List Str} {subInvalidRow : List Value} {abInvalidRow : Bool} {colInvalidRow : Option Bool} {ddInvalidRow : Option Addr} {m0InvalidRow m1InvalidRow m2InvalidRow m3InvalidRow m5InvalidRow : Option Value}
    {nmInvalidLine qInvalidLine : Str} {NInvalidLine : Addr} {bsInvalidLine bmInvalidLine : List Value} {snInvalidLine : List Str} {subInvalidLine : List Value} {abInvalidLine : Bool} {colInvalidLine : Option Bool} {ddInvalidLine : Option Addr} {m0InvalidLine m1InvalidLine m2InvalidLine m3InvalidLine m5InvalidLine : Option Value}
    {nmUnknownName qUnknownName : Str} {NUnknownName : Addr} {bsUnknownName bmUnknownName : List Value} {snUnknownName : List Str} {subUnknownName : List Value} {abUnknownName : Bool} {colUnknownName : Option Bool} {ddUnknownName : Option Addr} {m0UnknownName m1UnknownName m2UnknownName m3UnknownName m5UnknownName : Option Value}
    {nmDuplicateName qDuplicateName : Str} {NDuplicateName : Addr} {bsDuplicateName bmDuplicateName : List Value} {snDuplicateName : List Str} {subDuplicateName : List Value} {abDuplicateName : Bool} {colDuplicateName : Option Bool} {ddDuplicateName : Option Addr} {m0DuplicateName m1DuplicateName m2DuplicateName m3DuplicateName m5DuplicateName : Option Value}
    {nmNotReference qNotReference : Str} {NNotReference : Addr} {bsNotReference bmNotReference : List Value} {snNotReference : List Str} {subNotReference : List Value} {abNotReference : Bool} {colNotReference : Option Bool} {ddNotReference : Option Addr} {m0NotReference m1NotReference m2NotReference m3NotReference m5NotReference : Option Value}
    {nmWrongCount qWrongCount : Str} {NWrongCount : Addr} {bsWrongCount bmWrongCount : List Value} {snWrongCount : List Str} {subWrongCount : List Value} {abWrongCount : Bool} {colWrongCount : Option Bool} {ddWrongCount : Option Addr} {m0WrongCount m1WrongCount m2WrongCount m3WrongCount m5WrongCount : Option Value}
    {nmUnbalanced qUnbalanced : Str} {NUnbalanced : Addr} {bsUnbalanced bmUnbalanced : List Value} {snUnbalanced : List Str} {subUnbalanced : List Value} {abUnbalanced : Bool} {colUnbalanced : Option Bool} {ddUnbalanced : Option Addr} {m0Unbalanced m1Unbalanced m2Unbalanced m3Unbalanced m5Unbalanced : Option Value}
    {nmTooLarge qTooLarge : Str} {NTooLarge : Addr} {bsTooLarge bmTooLarge : List Value} {snTooLarge : List Str} {subTooLarge : List Value} {abTooLarge : Bool} {colTooLarge : Option Bool} {ddTooLarge : Option Addr} {m0TooLarge m1TooLarge m2TooLarge m3TooLarge m5TooLarge : Option Value}
    {nmBadChoice qBadChoice : Str} {NBadChoice : Addr} {bsBadChoice bmBadChoice : List Value} {snBadChoice : List Str} {subBadChoice : List Value} {abBadChoice : Bool} {colBadChoice : Option Bool} {ddBadChoice : Option Addr} {m0BadChoice m1BadChoice m2BadChoice m3BadChoice m5BadChoice : Option Value}
    {nmEnded qEnded : Str} {NEnded : Addr} {bsEnded bmEnded : List Value} {snEnded : List Str} {subEnded : List Value} {abEnded : Bool} {colEnded : Option Bool} {ddEnded : Option Addr} {m0Ended m1Ended m2Ended m3Ended m5Ended : Option Value}
    {nmNoPlace qNoPlace : Str} {NNoPlace : Addr} {bsNoPlace bmNoPlace : List Value} {snNoPlace : List Str} {subNoPlace : List Value} {abNoPlace : Bool} {colNoPlace : Option Bool} {ddNoPlace : Option Addr} {m0NoPlace m1NoPlace m2NoPlace m3NoPlace m5NoPlace : Option Value}
    {nmNoValue qNoValue : Str} {NNoValue : Addr} {bsNoValue bmNoValue : List Value} {snNoValue : List Str} {subNoValue : List Value} {abNoValue : Bool} {colNoValue : Option Bool} {ddNoValue : Option Addr} {m0NoValue m1NoValue m2NoValue m3NoValue m5NoValue : Option Value}
    {nmNeverTogether qNeverTogether : Str} {NNeverTogether : Addr} {bsNeverTogether bmNeverTogether : List Value} {snNeverTogether : List Str} {subNeverTogether : List Value} {abNeverTogether : Bool} {colNeverTogether : Option Bool} {ddNeverTogether : Option Addr} {m0NeverTogether m1NeverTogether m2NeverTogether m3NeverTogether m5NeverTogether : Option Value}
    {nmNoFact qNoFact : Str} {NNoFact : Addr} {bsNoFact bmNoFact : List Value} {snNoFact : List Str} {subNoFact : List Value} {abNoFact : Bool} {colNoFact : Option Bool} {ddNoFact : Option Addr} {m0NoFact m1NoFact m2NoFact m3NoFact m5NoFact : Option Value}
    {nmNoWay qNoWay : Str} {NNoWay : Addr} {bsNoWay bmNoWay : List Value} {snNoWay : List Str} {subNoWay : List Value} {abNoWay : Bool} {colNoWay : Option Bool} {ddNoWay : Option Addr} {m0NoWay m1NoWay m2NoWay m3NoWay m5NoWay : Option Value}
    {nmNotLoose qNotLoose : Str} {NNotLoose : Addr} {bsNotLoose bmNotLoose : List Value} {snNotLoose : List Str} {subNotLoose : List Value} {abNotLoose : Bool} {colNotLoose : Option Bool} {ddNotLoose : Option Addr} {m0NotLoose m1NotLoose m2NotLoose m3NotLoose m5NotLoose : Option Value}
    {nmNoMend qNoMend : Str} {NNoMend : Addr} {bsNoMend bmNoMend : List Value} {snNoMend : List Str} {subNoMend : List Value} {abNoMend : Bool} {colNoMend : Option Bool} {ddNoMend : Option Addr} {m0NoMend m1NoMend m2NoMend m3NoMend m5NoMend : Option Value}
    {nmOtherOuts qOtherOuts : Str} {NOtherOuts : Addr} {bsOtherOuts bmOtherOuts : List Value} {snOtherOuts : List Str} {subOtherOuts : List Value} {abOtherOuts : Bool} {colOtherOuts : Option Bool} {ddOtherOuts : Option Addr} {m0OtherOuts m1OtherOuts m2OtherOuts m3OtherOuts m5OtherOuts : Option Value}
    {nmDeadLook qDeadLook : Str} {NDeadLook : Addr} {bsDeadLook bmDeadLook : List Value} {snDeadLook : List Str} {subDeadLook : List Value} {abDeadLook : Bool} {colDeadLook : Option Bool} {ddDeadLook : Option Addr} {m0DeadLook m1DeadLook m2DeadLook m3DeadLook m5DeadLook : Option Value}
    {nmLivesError qLivesError : Str} {NLivesError : Addr} {bsLivesError bmLivesError : List Value} {snLivesError : List Str} {subLivesError : List Value} {abLivesError : Bool} {colLivesError : Option Bool} {ddLivesError : Option Addr} {m0LivesError m1LivesError m2LivesError m3LivesError m5LivesError : Option Value}
    (aCInvalidSignature : PySem.W.nsIn K mainGlobals "InvalidSignature" = some (some (.ref xInvalidSignature)))
    (aCDuplicateFunction : PySem.W.nsIn K mainGlobals "DuplicateFunction" = some (some (.ref xDuplicateFunction)))
    (aCUnknownFunction : PySem.W.nsIn K mainGlobals "UnknownFunction" = some (some (.ref xUnknownFunction)))
    (aCInvalidExpression : PySem.W.nsIn K mainGlobals "InvalidExpression" = some (some (.ref xInvalidExpression)))
    (aCInvalidRow : PySem.W.nsIn K mainGlobals "InvalidRow" = some (some (.ref xInvalidRow)))
    (aCInvalidLine : PySem.W.nsIn K mainGlobals "InvalidLine" = some (some (.ref xInvalidLine)))
    (aCUnknownName : PySem.W.nsIn K mainGlobals "UnknownName" = some (some (.ref xUnknownName)))
    (aCDuplicateName : PySem.W.nsIn K mainGlobals "DuplicateName" = some (some (.ref xDuplicateName)))
    (aCNotReference : PySem.W.nsIn K mainGlobals "NotReference" = some (some (.ref xNotReference)))
    (aCWrongCount : PySem.W.nsIn K mainGlobals "WrongCount" = some (some (.ref xWrongCount)))
    (aCUnbalanced : PySem.W.nsIn K mainGlobals "Unbalanced" = some (some (.ref xUnbalanced)))
    (aCTooLarge : PySem.W.nsIn K mainGlobals "TooLarge" = some (some (.ref xTooLarge)))
    (aCBadChoice : PySem.W.nsIn K mainGlobals "BadChoice" = some (some (.ref xBadChoice)))
    (aCEnded : PySem.W.nsIn K mainGlobals "Ended" = some (some (.ref xEnded)))
    (aCNoPlace : PySem.W.nsIn K mainGlobals "NoPlace" = some (some (.ref xNoPlace)))
    (aCNoValue : PySem.W.nsIn K mainGlobals "NoValue" = some (some (.ref xNoValue)))
    (aCNeverTogether : PySem.W.nsIn K mainGlobals "NeverTogether" = some (some (.ref xNeverTogether)))
    (aCNoFact : PySem.W.nsIn K mainGlobals "NoFact" = some (some (.ref xNoFact)))
    (aCNoWay : PySem.W.nsIn K mainGlobals "NoWay" = some (some (.ref xNoWay)))
    (aCNotLoose : PySem.W.nsIn K mainGlobals "NotLoose" = some (some (.ref xNotLoose)))
    (aCNoMend : PySem.W.nsIn K mainGlobals "NoMend" = some (some (.ref xNoMend)))
    (aCOtherOuts : PySem.W.nsIn K mainGlobals "OtherOuts" = some (some (.ref xOtherOuts)))
    (aCDeadLook : PySem.W.nsIn K mainGlobals "DeadLook" = some (some (.ref xDeadLook)))
    (aCLivesError : PySem.W.nsIn K mainGlobals "LivesError" = some (some (.ref xLivesError)))
    (a0 : PySem.W.nsIn K mainGlobals "copied" = some (some (.ref f0)))
    (l0 : K.lookup f0 = some ⟨oc0, od0, .func (PySem.W.fnOf "copied" "copied" (defArgs s_copied) (defBody s_copied) (defScope s_copied) (.ref dT0) kV0 dc0 pm0 an0 cd0 ct0), sl0⟩)
    (dl0 : K.lookup dT0 = some ⟨.type "tuple", dO0, .seq ([.int 4 dt0x0] : List Value).toArray dN0, dS0⟩)
    (c0 : PySem.W.codeIn K cd0 "copied" = true)
    (k0 : PySem.W.keepIn K (.ref f0) = true)
    (a1 : PySem.W.findIn K (.ref xLivesError) "__init__" = some (some (.ref f1)))
    (i1 : PySem.W.typeIn K (.ref f1) = some (.type "function"))
    (l1 : K.lookup f1 = some ⟨oc1, od1, .func (PySem.W.fnOf "__init__" "LivesError.__init__" (defArgs s_lives_init) (defBody s_lives_init) (defScope s_lives_init) .none kV1 dc1 pm1 an1 cd1 ct1), sl1⟩)
    (c1 : PySem.W.codeIn K cd1 "LivesError.__init__" = true)
    (k1 : PySem.W.keepIn K (.ref f1) = true)
    (a2 : PySem.W.findIn K (.ref xDeadLook) "__init__" = some (some (.ref f2)))
    (i2 : PySem.W.typeIn K (.ref f2) = some (.type "function"))
    (l2 : K.lookup f2 = some ⟨oc2, od2, .func (PySem.W.fnX "__init__" "DeadLook.__init__" (defArgs s_dead_init) (defBody s_dead_init) (defScope s_dead_init) [("__class__", cc2)] .none kV2 dc2 pm2 an2 (.ref ca2) ct2), sl2⟩)
    (c2 : PySem.W.codeIn K (.ref ca2) "DeadLook.__init__" = true)
    (cq2 : K.lookup ca2 = some ⟨fc2, fdd2, .fields vs2, fs2⟩)
    (cv2 : vs2[2]? = some (.str fl2 tf2))
    (ce2 : K.lookup cc2 = some ⟨cl2, cdd2, .cell (some (.ref xDeadLook)), cs2⟩)
    (co2 : PySem.W.nsIn K cStatics "thirdparty.any" = some none)
    (cz2 : ((l.prog.main.file : Str) == fl2) = true)
    (ct_2 : (l.prog.main.scope.names.lookup ("super" : Str)).isSome = false)
    (k2 : PySem.W.keepIn K (.ref f2) = true)
    (a3 : PySem.W.nsIn K mainGlobals "_law_draws" = some (some (.ref f3)))
    (l3 : K.lookup f3 = some ⟨oc3, od3, .func (PySem.W.fnOf "_law_draws" "_law_draws" (defArgs s_draws) (defBody s_draws) (defScope s_draws) .none kV3 dc3 pm3 an3 cd3 ct3), sl3⟩)
    (c3 : PySem.W.codeIn K cd3 "_law_draws" = true)
    (k3 : PySem.W.keepIn K (.ref f3) = true)
    (a4 : PySem.W.nsIn K mainGlobals "_law_take" = some (some (.ref f4)))
    (l4 : K.lookup f4 = some ⟨oc4, od4, .func (PySem.W.fnOf "_law_take" "_law_take" (defArgs s_take) (defBody s_take) (defScope s_take) .none kV4 dc4 pm4 an4 cd4 ct4), sl4⟩)
    (c4 : PySem.W.codeIn K cd4 "_law_take" = true)
    (k4 : PySem.W.keepIn K (.ref f4) = true)
    (a5 : PySem.W.nsIn K mainGlobals "_law_name" = some (some (.ref f5)))
    (l5 : K.lookup f5 = some ⟨oc5, od5, .func (PySem.W.fnOf "_law_name" "_law_name" (defArgs s_name) (defBody s_name) (defScope s_name) .none kV5 dc5 pm5 an5 cd5 ct5), sl5⟩)
    (c5 : PySem.W.codeIn K cd5 "_law_name" = true)
    (k5 : PySem.W.keepIn K (.ref f5) = true)
    (a6 : PySem.W.nsIn K mainGlobals "_law_number" = some (some (.ref f6)))
    (l6 : K.lookup f6 = some ⟨oc6, od6, .func (PySem.W.fnOf "_law_number" "_law_number" (defArgs s_number) (defBody s_number) (defScope s_number) .none kV6 dc6 pm6 an6 cd6 ct6), sl6⟩)
    (c6 : PySem.W.codeIn K cd6 "_law_number" = true)
    (k6 : PySem.W.keepIn K (.ref f6) = true)
    (a7 : PySem.W.nsIn K mainGlobals "_law_what" = some (some (.ref f7)))
    (l7 : K.lookup f7 = some ⟨oc7, od7, .func (PySem.W.fnOf "_law_what" "_law_what" (defArgs s_what) (defBody s_what) (defScope s_what) .none kV7 dc7 pm7 an7 cd7 ct7), sl7⟩)
    (c7 : PySem.W.codeIn K cd7 "_law_what" = true)
    (k7 : PySem.W.keepIn K (.ref f7) = true)
    (a8 : PySem.W.nsIn K mainGlobals "_law_early" = some (some (.ref f8)))
    (l8 : K.lookup f8 = some ⟨oc8, od8, .func (PySem.W.fnOf "_law_early" "_law_early" (defArgs s_early) (defBody s_early) (defScope s_early) .none kV8 dc8 pm8 an8 cd8 ct8), sl8⟩)
    (c8 : PySem.W.codeIn K cd8 "_law_early" = true)
    (k8 : PySem.W.keepIn K (.ref f8) = true)
    (a9 : PySem.W.nsIn K mainGlobals "_law_error" = some (some (.ref f9)))
    (l9 : K.lookup f9 = some ⟨oc9, od9, .func (PySem.W.fnOf "_law_error" "_law_error" (defArgs s_error) (defBody s_error) (defScope s_error) .none kV9 dc9 pm9 an9 cd9 ct9), sl9⟩)
    (c9 : PySem.W.codeIn K cd9 "_law_error" = true)
    (k9 : PySem.W.keepIn K (.ref f9) = true)
    (a10 : PySem.W.nsIn K mainGlobals "_law_kinds" = some (some (.ref f10)))
    (l10 : K.lookup f10 = some ⟨oc10, od10, .func (PySem.W.fnOf "_law_kinds" "_law_kinds" (defArgs s_kinds) (defBody s_kinds) (defScope s_kinds) .none kV10 dc10 pm10 an10 cd10 ct10), sl10⟩)
    (c10 : PySem.W.codeIn K cd10 "_law_kinds" = true)
    (k10 : PySem.W.keepIn K (.ref f10) = true)
    (a11 : PySem.W.nsIn K mainGlobals "_law_same_thing" = some (some (.ref f11)))
    (l11 : K.lookup f11 = some ⟨oc11, od11, .func (PySem.W.fnOf "_law_same_thing" "_law_same_thing" (defArgs s_same) (defBody s_same) (defScope s_same) .none kV11 dc11 pm11 an11 cd11 ct11), sl11⟩)
    (c11 : PySem.W.codeIn K cd11 "_law_same_thing" = true)
    (k11 : PySem.W.keepIn K (.ref f11) = true)
    (a12 : PySem.W.nsIn K mainGlobals "_law_base" = some (some (.ref f12)))
    (l12 : K.lookup f12 = some ⟨oc12, od12, .func (PySem.W.fnOf "_law_base" "_law_base" (defArgs s_base_of) (defBody s_base_of) (defScope s_base_of) .none kV12 dc12 pm12 an12 cd12 ct12), sl12⟩)
    (c12 : PySem.W.codeIn K cd12 "_law_base" = true)
    (k12 : PySem.W.keepIn K (.ref f12) = true)
    (a13 : PySem.W.nsIn K mainGlobals "law" = some (some (.ref f13)))
    (l13 : K.lookup f13 = some ⟨oc13, od13, .func (PySem.W.fnOf "law" "law" (defArgs s_law) (defBody s_law) (defScope s_law) .none kV13 dc13 pm13 an13 cd13 ct13), sl13⟩)
    (c13 : PySem.W.codeIn K cd13 "law" = true)
    (k13 : PySem.W.keepIn K (.ref f13) = true)
    (zValueError : PySem.W.nsIn K mainGlobals "ValueError" = some none)
    (zabs : PySem.W.nsIn K mainGlobals "abs" = some none)
    (zdict : PySem.W.nsIn K mainGlobals "dict" = some none)
    (zint : PySem.W.nsIn K mainGlobals "int" = some none)
    (zisinstance : PySem.W.nsIn K mainGlobals "isinstance" = some none)
    (zlen : PySem.W.nsIn K mainGlobals "len" = some none)
    (zlist : PySem.W.nsIn K mainGlobals "list" = some none)
    (zmin : PySem.W.nsIn K mainGlobals "min" = some none)
    (zrange : PySem.W.nsIn K mainGlobals "range" = some none)
    (zstr : PySem.W.nsIn K mainGlobals "str" = some none)
    (zsuper : PySem.W.nsIn K mainGlobals "super" = some none)
    (ztuple : PySem.W.nsIn K mainGlobals "tuple" = some none)
    (xL_InvalidSignature : K.lookup xInvalidSignature = some (excClassObj nmInvalidSignature qInvalidSignature xInvalidSignature NInvalidSignature bsInvalidSignature bmInvalidSignature true snInvalidSignature subInvalidSignature abInvalidSignature colInvalidSignature ddInvalidSignature m0InvalidSignature m1InvalidSignature m2InvalidSignature m3InvalidSignature m5InvalidSignature "ValueError.__new__"))
    (xR_InvalidSignature : PySem.HandSPX.refsVE bmInvalidSignature = true)
    (sa_InvalidSignature : PySem.W.findIn K (.ref xInvalidSignature) "__setattr__" = some (some (.builtin "object.__setattr__")))
    (eC_InvalidSignature : PySem.W.subIn K (.ref xInvalidSignature) (.type "BaseException") = some true)
    (tC_InvalidSignature : PySem.W.typeIn K (.ref xInvalidSignature) = some (.type "type"))
    (kc_InvalidSignature : PySem.W.keepIn K (.ref xInvalidSignature) = true)
    (nw_InvalidSignature : PySem.W.findIn K (.ref xInvalidSignature) "what" = some none)
    (ii_InvalidSignature : PySem.W.findIn K (.ref xInvalidSignature) "__init__" = some (some (.ref f1)))
    (ga_InvalidSignature : PySem.W.findIn K (.ref xInvalidSignature) "__getattribute__" = some (some (.builtin "BaseException.__getattribute__")))
    (gg_InvalidSignature : PySem.W.findIn K (.ref xInvalidSignature) "__getattr__" = some none)
    (hd_InvalidSignature : PySem.W.hasDictIn K xInvalidSignature = true)
    (ha_InvalidSignature : PySem.W.findIn K (.ref xInvalidSignature) "__class__" = some (some (.builtin "object.__class__")))
    (hm_InvalidSignature : PySem.W.mroIn K xInvalidSignature (.type "object") = some true)
    (xL_DuplicateFunction : K.lookup xDuplicateFunction = some (excClassObj nmDuplicateFunction qDuplicateFunction xDuplicateFunction NDuplicateFunction bsDuplicateFunction bmDuplicateFunction true snDuplicateFunction subDuplicateFunction abDuplicateFunction colDuplicateFunction ddDuplicateFunction m0DuplicateFunction m1DuplicateFunction m2DuplicateFunction m3DuplicateFunction m5DuplicateFunction "ValueError.__new__"))
    (xR_DuplicateFunction : PySem.HandSPX.refsVE bmDuplicateFunction = true)
    (sa_DuplicateFunction : PySem.W.findIn K (.ref xDuplicateFunction) "__setattr__" = some (some (.builtin "object.__setattr__")))
    (eC_DuplicateFunction : PySem.W.subIn K (.ref xDuplicateFunction) (.type "BaseException") = some true)
    (tC_DuplicateFunction : PySem.W.typeIn K (.ref xDuplicateFunction) = some (.type "type"))
    (kc_DuplicateFunction : PySem.W.keepIn K (.ref xDuplicateFunction) = true)
    (nw_DuplicateFunction : PySem.W.findIn K (.ref xDuplicateFunction) "what" = some none)
    (ii_DuplicateFunction : PySem.W.findIn K (.ref xDuplicateFunction) "__init__" = some (some (.ref f1)))
    (ga_DuplicateFunction : PySem.W.findIn K (.ref xDuplicateFunction) "__getattribute__" = some (some (.builtin "BaseException.__getattribute__")))
    (gg_DuplicateFunction : PySem.W.findIn K (.ref xDuplicateFunction) "__getattr__" = some none)
    (hd_DuplicateFunction : PySem.W.hasDictIn K xDuplicateFunction = true)
    (ha_DuplicateFunction : PySem.W.findIn K (.ref xDuplicateFunction) "__class__" = some (some (.builtin "object.__class__")))
    (hm_DuplicateFunction : PySem.W.mroIn K xDuplicateFunction (.type "object") = some true)
    (xL_UnknownFunction : K.lookup xUnknownFunction = some (excClassObj nmUnknownFunction qUnknownFunction xUnknownFunction NUnknownFunction bsUnknownFunction bmUnknownFunction true snUnknownFunction subUnknownFunction abUnknownFunction colUnknownFunction ddUnknownFunction m0UnknownFunction m1UnknownFunction m2UnknownFunction m3UnknownFunction m5UnknownFunction "ValueError.__new__"))
    (xR_UnknownFunction : PySem.HandSPX.refsVE bmUnknownFunction = true)
    (sa_UnknownFunction : PySem.W.findIn K (.ref xUnknownFunction) "__setattr__" = some (some (.builtin "object.__setattr__")))
    (eC_UnknownFunction : PySem.W.subIn K (.ref xUnknownFunction) (.type "BaseException") = some true)
    (tC_UnknownFunction : PySem.W.typeIn K (.ref xUnknownFunction) = some (.type "type"))
    (kc_UnknownFunction : PySem.W.keepIn K (.ref xUnknownFunction) = true)
    (nw_UnknownFunction : PySem.W.findIn K (.ref xUnknownFunction) "what" = some none)
    (ii_UnknownFunction : PySem.W.findIn K (.ref xUnknownFunction) "__init__" = some (some (.ref f1)))
    (ga_UnknownFunction : PySem.W.findIn K (.ref xUnknownFunction) "__getattribute__" = some (some (.builtin "BaseException.__getattribute__")))
    (gg_UnknownFunction : PySem.W.findIn K (.ref xUnknownFunction) "__getattr__" = some none)
    (hd_UnknownFunction : PySem.W.hasDictIn K xUnknownFunction = true)
    (ha_UnknownFunction : PySem.W.findIn K (.ref xUnknownFunction) "__class__" = some (some (.builtin "object.__class__")))
    (hm_UnknownFunction : PySem.W.mroIn K xUnknownFunction (.type "object") = some true)
    (xL_InvalidExpression : K.lookup xInvalidExpression = some (excClassObj nmInvalidExpression qInvalidExpression xInvalidExpression NInvalidExpression bsInvalidExpression bmInvalidExpression true snInvalidExpression subInvalidExpression abInvalidExpression colInvalidExpression ddInvalidExpression m0InvalidExpression m1InvalidExpression m2InvalidExpression m3InvalidExpression m5InvalidExpression "ValueError.__new__"))
    (xR_InvalidExpression : PySem.HandSPX.refsVE bmInvalidExpression = true)
    (sa_InvalidExpression : PySem.W.findIn K (.ref xInvalidExpression) "__setattr__" = some (some (.builtin "object.__setattr__")))
    (eC_InvalidExpression : PySem.W.subIn K (.ref xInvalidExpression) (.type "BaseException") = some true)
    (tC_InvalidExpression : PySem.W.typeIn K (.ref xInvalidExpression) = some (.type "type"))
    (kc_InvalidExpression : PySem.W.keepIn K (.ref xInvalidExpression) = true)
    (nw_InvalidExpression : PySem.W.findIn K (.ref xInvalidExpression) "what" = some none)
    (ii_InvalidExpression : PySem.W.findIn K (.ref xInvalidExpression) "__init__" = some (some (.ref f1)))
    (ga_InvalidExpression : PySem.W.findIn K (.ref xInvalidExpression) "__getattribute__" = some (some (.builtin "BaseException.__getattribute__")))
    (gg_InvalidExpression : PySem.W.findIn K (.ref xInvalidExpression) "__getattr__" = some none)
    (hd_InvalidExpression : PySem.W.hasDictIn K xInvalidExpression = true)
    (ha_InvalidExpression : PySem.W.findIn K (.ref xInvalidExpression) "__class__" = some (some (.builtin "object.__class__")))
    (hm_InvalidExpression : PySem.W.mroIn K xInvalidExpression (.type "object") = some true)
    (xL_InvalidRow : K.lookup xInvalidRow = some (excClassObj nmInvalidRow qInvalidRow xInvalidRow NInvalidRow bsInvalidRow bmInvalidRow true snInvalidRow subInvalidRow abInvalidRow colInvalidRow ddInvalidRow m0InvalidRow m1InvalidRow m2InvalidRow m3InvalidRow m5InvalidRow "ValueError.__new__"))
    (xR_InvalidRow : PySem.HandSPX.refsVE bmInvalidRow = true)
    (sa_InvalidRow : PySem.W.findIn K (.ref xInvalidRow) "__setattr__" = some (some (.builtin "object.__setattr__")))
    (eC_InvalidRow : PySem.W.subIn K (.ref xInvalidRow) (.type "BaseException") = some true)
    (tC_InvalidRow : PySem.W.typeIn K (.ref xInvalidRow) = some (.type "type"))
    (kc_InvalidRow : PySem.W.keepIn K (.ref xInvalidRow) = true)
    (nw_InvalidRow : PySem.W.findIn K (.ref xInvalidRow) "what" = some none)
    (ii_InvalidRow : PySem.W.findIn K (.ref xInvalidRow) "__init__" = some (some (.ref f1)))
    (ga_InvalidRow : PySem.W.findIn K (.ref xInvalidRow) "__getattribute__" = some (some (.builtin "BaseException.__getattribute__")))
    (gg_InvalidRow : PySem.W.findIn K (.ref xInvalidRow) "__getattr__" = some none)
    (hd_InvalidRow : PySem.W.hasDictIn K xInvalidRow = true)
    (ha_InvalidRow : PySem.W.findIn K (.ref xInvalidRow) "__class__" = some (some (.builtin "object.__class__")))
    (hm_InvalidRow : PySem.W.mroIn K xInvalidRow (.type "object") = some true)
    (xL_InvalidLine : K.lookup xInvalidLine = some (excClassObj nmInvalidLine qInvalidLine xInvalidLine NInvalidLine bsInvalidLine bmInvalidLine true snInvalidLine subInvalidLine abInvalidLine colInvalidLine ddInvalidLine m0InvalidLine m1InvalidLine m2InvalidLine m3InvalidLine m5InvalidLine "ValueError.__new__"))
    (xR_InvalidLine : PySem.HandSPX.refsVE bmInvalidLine = true)
    (sa_InvalidLine : PySem.W.findIn K (.ref xInvalidLine) "__setattr__" = some (some (.builtin "object.__setattr__")))
    (eC_InvalidLine : PySem.W.subIn K (.ref xInvalidLine) (.type "BaseException") = some true)
    (tC_InvalidLine : PySem.W.typeIn K (.ref xInvalidLine) = some (.type "type"))
    (kc_InvalidLine : PySem.W.keepIn K (.ref xInvalidLine) = true)
    (nw_InvalidLine : PySem.W.findIn K (.ref xInvalidLine) "what" = some none)
    (ii_InvalidLine : PySem.W.findIn K (.ref xInvalidLine) "__init__" = some (some (.ref f1)))
    (ga_InvalidLine : PySem.W.findIn K (.ref xInvalidLine) "__getattribute__" = some (some (.builtin "BaseException.__getattribute__")))
    (gg_InvalidLine : PySem.W.findIn K (.ref xInvalidLine) "__getattr__" = some none)
    (hd_InvalidLine : PySem.W.hasDictIn K xInvalidLine = true)
    (ha_InvalidLine : PySem.W.findIn K (.ref xInvalidLine) "__class__" = some (some (.builtin "object.__class__")))
    (hm_InvalidLine : PySem.W.mroIn K xInvalidLine (.type "object") = some true)
    (xL_UnknownName : K.lookup xUnknownName = some (excClassObj nmUnknownName qUnknownName xUnknownName NUnknownName bsUnknownName bmUnknownName true snUnknownName subUnknownName abUnknownName colUnknownName ddUnknownName m0UnknownName m1UnknownName m2UnknownName m3UnknownName m5UnknownName "ValueError.__new__"))
    (xR_UnknownName : PySem.HandSPX.refsVE bmUnknownName = true)
    (sa_UnknownName : PySem.W.findIn K (.ref xUnknownName) "__setattr__" = some (some (.builtin "object.__setattr__")))
    (eC_UnknownName : PySem.W.subIn K (.ref xUnknownName) (.type "BaseException") = some true)
    (tC_UnknownName : PySem.W.typeIn K (.ref xUnknownName) = some (.type "type"))
    (kc_UnknownName : PySem.W.keepIn K (.ref xUnknownName) = true)
    (nw_UnknownName : PySem.W.findIn K (.ref xUnknownName) "what" = some none)
    (ii_UnknownName : PySem.W.findIn K (.ref xUnknownName) "__init__" = some (some (.ref f1)))
    (ga_UnknownName : PySem.W.findIn K (.ref xUnknownName) "__getattribute__" = some (some (.builtin "BaseException.__getattribute__")))
    (gg_UnknownName : PySem.W.findIn K (.ref xUnknownName) "__getattr__" = some none)
    (hd_UnknownName : PySem.W.hasDictIn K xUnknownName = true)
    (ha_UnknownName : PySem.W.findIn K (.ref xUnknownName) "__class__" = some (some (.builtin "object.__class__")))
    (hm_UnknownName : PySem.W.mroIn K xUnknownName (.type "object") = some true)
    (xL_DuplicateName : K.lookup xDuplicateName = some (excClassObj nmDuplicateName qDuplicateName xDuplicateName NDuplicateName bsDuplicateName bmDuplicateName true snDuplicateName subDuplicateName abDuplicateName colDuplicateName ddDuplicateName m0DuplicateName m1DuplicateName m2DuplicateName m3DuplicateName m5DuplicateName "ValueError.__new__"))
    (xR_DuplicateName : PySem.HandSPX.refsVE bmDuplicateName = true)
    (sa_DuplicateName : PySem.W.findIn K (.ref xDuplicateName) "__setattr__" = some (some (.builtin "object.__setattr__")))
    (eC_DuplicateName : PySem.W.subIn K (.ref xDuplicateName) (.type "BaseException") = some true)
    (tC_DuplicateName : PySem.W.typeIn K (.ref xDuplicateName) = some (.type "type"))
    (kc_DuplicateName : PySem.W.keepIn K (.ref xDuplicateName) = true)
    (nw_DuplicateName : PySem.W.findIn K (.ref xDuplicateName) "what" = some none)
    (ii_DuplicateName : PySem.W.findIn K (.ref xDuplicateName) "__init__" = some (some (.ref f1)))
    (ga_DuplicateName : PySem.W.findIn K (.ref xDuplicateName) "__getattribute__" = some (some (.builtin "BaseException.__getattribute__")))
    (gg_DuplicateName : PySem.W.findIn K (.ref xDuplicateName) "__getattr__" = some none)
    (hd_DuplicateName : PySem.W.hasDictIn K xDuplicateName = true)
    (ha_DuplicateName : PySem.W.findIn K (.ref xDuplicateName) "__class__" = some (some (.builtin "object.__class__")))
    (hm_DuplicateName : PySem.W.mroIn K xDuplicateName (.type "object") = some true)
    (xL_NotReference : K.lookup xNotReference = some (excClassObj nmNotReference qNotReference xNotReference NNotReference bsNotReference bmNotReference true snNotReference subNotReference abNotReference colNotReference ddNotReference m0NotReference m1NotReference m2NotReference m3NotReference m5NotReference "ValueError.__new__"))
    (xR_NotReference : PySem.HandSPX.refsVE bmNotReference = true)
    (sa_NotReference : PySem.W.findIn K (.ref xNotReference) "__setattr__" = some (some (.builtin "object.__setattr__")))
    (eC_NotReference : PySem.W.subIn K (.ref xNotReference) (.type "BaseException") = some true)
    (tC_NotReference : PySem.W.typeIn K (.ref xNotReference) = some (.type "type"))
    (kc_NotReference : PySem.W.keepIn K (.ref xNotReference) = true)
    (nw_NotReference : PySem.W.findIn K (.ref xNotReference) "what" = some none)
    (ii_NotReference : PySem.W.findIn K (.ref xNotReference) "__init__" = some (some (.ref f1)))
    (ga_NotReference : PySem.W.findIn K (.ref xNotReference) "__getattribute__" = some (some (.builtin "BaseException.__getattribute__")))
    (gg_NotReference : PySem.W.findIn K (.ref xNotReference) "__getattr__" = some none)
    (hd_NotReference : PySem.W.hasDictIn K xNotReference = true)
    (ha_NotReference : PySem.W.findIn K (.ref xNotReference) "__class__" = some (some (.builtin "object.__class__")))
    (hm_NotReference : PySem.W.mroIn K xNotReference (.type "object") = some true)
    (xL_WrongCount : K.lookup xWrongCount = some (excClassObj nmWrongCount qWrongCount xWrongCount NWrongCount bsWrongCount bmWrongCount true snWrongCount subWrongCount abWrongCount colWrongCount ddWrongCount m0WrongCount m1WrongCount m2WrongCount m3WrongCount m5WrongCount "ValueError.__new__"))
    (xR_WrongCount : PySem.HandSPX.refsVE bmWrongCount = true)
    (sa_WrongCount : PySem.W.findIn K (.ref xWrongCount) "__setattr__" = some (some (.builtin "object.__setattr__")))
    (eC_WrongCount : PySem.W.subIn K (.ref xWrongCount) (.type "BaseException") = some true)
    (tC_WrongCount : PySem.W.typeIn K (.ref xWrongCount) = some (.type "type"))
    (kc_WrongCount : PySem.W.keepIn K (.ref xWrongCount) = true)
    (nw_WrongCount : PySem.W.findIn K (.ref xWrongCount) "what" = some none)
    (ii_WrongCount : PySem.W.findIn K (.ref xWrongCount) "__init__" = some (some (.ref f1)))
    (ga_WrongCount : PySem.W.findIn K (.ref xWrongCount) "__getattribute__" = some (some (.builtin "BaseException.__getattribute__")))
    (gg_WrongCount : PySem.W.findIn K (.ref xWrongCount) "__getattr__" = some none)
    (hd_WrongCount : PySem.W.hasDictIn K xWrongCount = true)
    (ha_WrongCount : PySem.W.findIn K (.ref xWrongCount) "__class__" = some (some (.builtin "object.__class__")))
    (hm_WrongCount : PySem.W.mroIn K xWrongCount (.type "object") = some true)
    (xL_Unbalanced : K.lookup xUnbalanced = some (excClassObj nmUnbalanced qUnbalanced xUnbalanced NUnbalanced bsUnbalanced bmUnbalanced true snUnbalanced subUnbalanced abUnbalanced colUnbalanced ddUnbalanced m0Unbalanced m1Unbalanced m2Unbalanced m3Unbalanced m5Unbalanced "ValueError.__new__"))
    (xR_Unbalanced : PySem.HandSPX.refsVE bmUnbalanced = true)
    (sa_Unbalanced : PySem.W.findIn K (.ref xUnbalanced) "__setattr__" = some (some (.builtin "object.__setattr__")))
    (eC_Unbalanced : PySem.W.subIn K (.ref xUnbalanced) (.type "BaseException") = some true)
    (tC_Unbalanced : PySem.W.typeIn K (.ref xUnbalanced) = some (.type "type"))
    (kc_Unbalanced : PySem.W.keepIn K (.ref xUnbalanced) = true)
    (nw_Unbalanced : PySem.W.findIn K (.ref xUnbalanced) "what" = some none)
    (ii_Unbalanced : PySem.W.findIn K (.ref xUnbalanced) "__init__" = some (some (.ref f1)))
    (ga_Unbalanced : PySem.W.findIn K (.ref xUnbalanced) "__getattribute__" = some (some (.builtin "BaseException.__getattribute__")))
    (gg_Unbalanced : PySem.W.findIn K (.ref xUnbalanced) "__getattr__" = some none)
    (hd_Unbalanced : PySem.W.hasDictIn K xUnbalanced = true)
    (ha_Unbalanced : PySem.W.findIn K (.ref xUnbalanced) "__class__" = some (some (.builtin "object.__class__")))
    (hm_Unbalanced : PySem.W.mroIn K xUnbalanced (.type "object") = some true)
    (xL_TooLarge : K.lookup xTooLarge = some (excClassObj nmTooLarge qTooLarge xTooLarge NTooLarge bsTooLarge bmTooLarge true snTooLarge subTooLarge abTooLarge colTooLarge ddTooLarge m0TooLarge m1TooLarge m2TooLarge m3TooLarge m5TooLarge "ValueError.__new__"))
    (xR_TooLarge : PySem.HandSPX.refsVE bmTooLarge = true)
    (sa_TooLarge : PySem.W.findIn K (.ref xTooLarge) "__setattr__" = some (some (.builtin "object.__setattr__")))
    (eC_TooLarge : PySem.W.subIn K (.ref xTooLarge) (.type "BaseException") = some true)
    (tC_TooLarge : PySem.W.typeIn K (.ref xTooLarge) = some (.type "type"))
    (kc_TooLarge : PySem.W.keepIn K (.ref xTooLarge) = true)
    (nw_TooLarge : PySem.W.findIn K (.ref xTooLarge) "what" = some none)
    (ii_TooLarge : PySem.W.findIn K (.ref xTooLarge) "__init__" = some (some (.ref f1)))
    (ga_TooLarge : PySem.W.findIn K (.ref xTooLarge) "__getattribute__" = some (some (.builtin "BaseException.__getattribute__")))
    (gg_TooLarge : PySem.W.findIn K (.ref xTooLarge) "__getattr__" = some none)
    (hd_TooLarge : PySem.W.hasDictIn K xTooLarge = true)
    (ha_TooLarge : PySem.W.findIn K (.ref xTooLarge) "__class__" = some (some (.builtin "object.__class__")))
    (hm_TooLarge : PySem.W.mroIn K xTooLarge (.type "object") = some true)
    (xL_BadChoice : K.lookup xBadChoice = some (excClassObj nmBadChoice qBadChoice xBadChoice NBadChoice bsBadChoice bmBadChoice true snBadChoice subBadChoice abBadChoice colBadChoice ddBadChoice m0BadChoice m1BadChoice m2BadChoice m3BadChoice m5BadChoice "ValueError.__new__"))
    (xR_BadChoice : PySem.HandSPX.refsVE bmBadChoice = true)
    (sa_BadChoice : PySem.W.findIn K (.ref xBadChoice) "__setattr__" = some (some (.builtin "object.__setattr__")))
    (eC_BadChoice : PySem.W.subIn K (.ref xBadChoice) (.type "BaseException") = some true)
    (tC_BadChoice : PySem.W.typeIn K (.ref xBadChoice) = some (.type "type"))
    (kc_BadChoice : PySem.W.keepIn K (.ref xBadChoice) = true)
    (nw_BadChoice : PySem.W.findIn K (.ref xBadChoice) "what" = some none)
    (ii_BadChoice : PySem.W.findIn K (.ref xBadChoice) "__init__" = some (some (.ref f1)))
    (ga_BadChoice : PySem.W.findIn K (.ref xBadChoice) "__getattribute__" = some (some (.builtin "BaseException.__getattribute__")))
    (gg_BadChoice : PySem.W.findIn K (.ref xBadChoice) "__getattr__" = some none)
    (hd_BadChoice : PySem.W.hasDictIn K xBadChoice = true)
    (ha_BadChoice : PySem.W.findIn K (.ref xBadChoice) "__class__" = some (some (.builtin "object.__class__")))
    (hm_BadChoice : PySem.W.mroIn K xBadChoice (.type "object") = some true)
    (xL_Ended : K.lookup xEnded = some (excClassObj nmEnded qEnded xEnded NEnded bsEnded bmEnded true snEnded subEnded abEnded colEnded ddEnded m0Ended m1Ended m2Ended m3Ended m5Ended "ValueError.__new__"))
    (xR_Ended : PySem.HandSPX.refsVE bmEnded = true)
    (sa_Ended : PySem.W.findIn K (.ref xEnded) "__setattr__" = some (some (.builtin "object.__setattr__")))
    (eC_Ended : PySem.W.subIn K (.ref xEnded) (.type "BaseException") = some true)
    (tC_Ended : PySem.W.typeIn K (.ref xEnded) = some (.type "type"))
    (kc_Ended : PySem.W.keepIn K (.ref xEnded) = true)
    (nw_Ended : PySem.W.findIn K (.ref xEnded) "what" = some none)
    (ii_Ended : PySem.W.findIn K (.ref xEnded) "__init__" = some (some (.ref f1)))
    (ga_Ended : PySem.W.findIn K (.ref xEnded) "__getattribute__" = some (some (.builtin "BaseException.__getattribute__")))
    (gg_Ended : PySem.W.findIn K (.ref xEnded) "__getattr__" = some none)
    (hd_Ended : PySem.W.hasDictIn K xEnded = true)
    (ha_Ended : PySem.W.findIn K (.ref xEnded) "__class__" = some (some (.builtin "object.__class__")))
    (hm_Ended : PySem.W.mroIn K xEnded (.type "object") = some true)
    (xL_NoPlace : K.lookup xNoPlace = some (excClassObj nmNoPlace qNoPlace xNoPlace NNoPlace bsNoPlace bmNoPlace true snNoPlace subNoPlace abNoPlace colNoPlace ddNoPlace m0NoPlace m1NoPlace m2NoPlace m3NoPlace m5NoPlace "ValueError.__new__"))
    (xR_NoPlace : PySem.HandSPX.refsVE bmNoPlace = true)
    (sa_NoPlace : PySem.W.findIn K (.ref xNoPlace) "__setattr__" = some (some (.builtin "object.__setattr__")))
    (eC_NoPlace : PySem.W.subIn K (.ref xNoPlace) (.type "BaseException") = some true)
    (tC_NoPlace : PySem.W.typeIn K (.ref xNoPlace) = some (.type "type"))
    (kc_NoPlace : PySem.W.keepIn K (.ref xNoPlace) = true)
    (nw_NoPlace : PySem.W.findIn K (.ref xNoPlace) "what" = some none)
    (ii_NoPlace : PySem.W.findIn K (.ref xNoPlace) "__init__" = some (some (.ref f1)))
    (ga_NoPlace : PySem.W.findIn K (.ref xNoPlace) "__getattribute__" = some (some (.builtin "BaseException.__getattribute__")))
    (gg_NoPlace : PySem.W.findIn K (.ref xNoPlace) "__getattr__" = some none)
    (hd_NoPlace : PySem.W.hasDictIn K xNoPlace = true)
    (ha_NoPlace : PySem.W.findIn K (.ref xNoPlace) "__class__" = some (some (.builtin "object.__class__")))
    (hm_NoPlace : PySem.W.mroIn K xNoPlace (.type "object") = some true)
    (xL_NoValue : K.lookup xNoValue = some (excClassObj nmNoValue qNoValue xNoValue NNoValue bsNoValue bmNoValue true snNoValue subNoValue abNoValue colNoValue ddNoValue m0NoValue m1NoValue m2NoValue m3NoValue m5NoValue "ValueError.__new__"))
    (xR_NoValue : PySem.HandSPX.refsVE bmNoValue = true)
    (sa_NoValue : PySem.W.findIn K (.ref xNoValue) "__setattr__" = some (some (.builtin "object.__setattr__")))
    (eC_NoValue : PySem.W.subIn K (.ref xNoValue) (.type "BaseException") = some true)
    (tC_NoValue : PySem.W.typeIn K (.ref xNoValue) = some (.type "type"))
    (kc_NoValue : PySem.W.keepIn K (.ref xNoValue) = true)
    (nw_NoValue : PySem.W.findIn K (.ref xNoValue) "what" = some none)
    (ii_NoValue : PySem.W.findIn K (.ref xNoValue) "__init__" = some (some (.ref f1)))
    (ga_NoValue : PySem.W.findIn K (.ref xNoValue) "__getattribute__" = some (some (.builtin "BaseException.__getattribute__")))
    (gg_NoValue : PySem.W.findIn K (.ref xNoValue) "__getattr__" = some none)
    (hd_NoValue : PySem.W.hasDictIn K xNoValue = true)
    (ha_NoValue : PySem.W.findIn K (.ref xNoValue) "__class__" = some (some (.builtin "object.__class__")))
    (hm_NoValue : PySem.W.mroIn K xNoValue (.type "object") = some true)
    (xL_NeverTogether : K.lookup xNeverTogether = some (excClassObj nmNeverTogether qNeverTogether xNeverTogether NNeverTogether bsNeverTogether bmNeverTogether true snNeverTogether subNeverTogether abNeverTogether colNeverTogether ddNeverTogether m0NeverTogether m1NeverTogether m2NeverTogether m3NeverTogether m5NeverTogether "ValueError.__new__"))
    (xR_NeverTogether : PySem.HandSPX.refsVE bmNeverTogether = true)
    (sa_NeverTogether : PySem.W.findIn K (.ref xNeverTogether) "__setattr__" = some (some (.builtin "object.__setattr__")))
    (eC_NeverTogether : PySem.W.subIn K (.ref xNeverTogether) (.type "BaseException") = some true)
    (tC_NeverTogether : PySem.W.typeIn K (.ref xNeverTogether) = some (.type "type"))
    (kc_NeverTogether : PySem.W.keepIn K (.ref xNeverTogether) = true)
    (nw_NeverTogether : PySem.W.findIn K (.ref xNeverTogether) "what" = some none)
    (ii_NeverTogether : PySem.W.findIn K (.ref xNeverTogether) "__init__" = some (some (.ref f1)))
    (ga_NeverTogether : PySem.W.findIn K (.ref xNeverTogether) "__getattribute__" = some (some (.builtin "BaseException.__getattribute__")))
    (gg_NeverTogether : PySem.W.findIn K (.ref xNeverTogether) "__getattr__" = some none)
    (hd_NeverTogether : PySem.W.hasDictIn K xNeverTogether = true)
    (ha_NeverTogether : PySem.W.findIn K (.ref xNeverTogether) "__class__" = some (some (.builtin "object.__class__")))
    (hm_NeverTogether : PySem.W.mroIn K xNeverTogether (.type "object") = some true)
    (xL_NoFact : K.lookup xNoFact = some (excClassObj nmNoFact qNoFact xNoFact NNoFact bsNoFact bmNoFact true snNoFact subNoFact abNoFact colNoFact ddNoFact m0NoFact m1NoFact m2NoFact m3NoFact m5NoFact "ValueError.__new__"))
    (xR_NoFact : PySem.HandSPX.refsVE bmNoFact = true)
    (sa_NoFact : PySem.W.findIn K (.ref xNoFact) "__setattr__" = some (some (.builtin "object.__setattr__")))
    (eC_NoFact : PySem.W.subIn K (.ref xNoFact) (.type "BaseException") = some true)
    (tC_NoFact : PySem.W.typeIn K (.ref xNoFact) = some (.type "type"))
    (kc_NoFact : PySem.W.keepIn K (.ref xNoFact) = true)
    (nw_NoFact : PySem.W.findIn K (.ref xNoFact) "what" = some none)
    (ii_NoFact : PySem.W.findIn K (.ref xNoFact) "__init__" = some (some (.ref f1)))
    (ga_NoFact : PySem.W.findIn K (.ref xNoFact) "__getattribute__" = some (some (.builtin "BaseException.__getattribute__")))
    (gg_NoFact : PySem.W.findIn K (.ref xNoFact) "__getattr__" = some none)
    (hd_NoFact : PySem.W.hasDictIn K xNoFact = true)
    (ha_NoFact : PySem.W.findIn K (.ref xNoFact) "__class__" = some (some (.builtin "object.__class__")))
    (hm_NoFact : PySem.W.mroIn K xNoFact (.type "object") = some true)
    (xL_NoWay : K.lookup xNoWay = some (excClassObj nmNoWay qNoWay xNoWay NNoWay bsNoWay bmNoWay true snNoWay subNoWay abNoWay colNoWay ddNoWay m0NoWay m1NoWay m2NoWay m3NoWay m5NoWay "ValueError.__new__"))
    (xR_NoWay : PySem.HandSPX.refsVE bmNoWay = true)
    (sa_NoWay : PySem.W.findIn K (.ref xNoWay) "__setattr__" = some (some (.builtin "object.__setattr__")))
    (eC_NoWay : PySem.W.subIn K (.ref xNoWay) (.type "BaseException") = some true)
    (tC_NoWay : PySem.W.typeIn K (.ref xNoWay) = some (.type "type"))
    (kc_NoWay : PySem.W.keepIn K (.ref xNoWay) = true)
    (nw_NoWay : PySem.W.findIn K (.ref xNoWay) "what" = some none)
    (ii_NoWay : PySem.W.findIn K (.ref xNoWay) "__init__" = some (some (.ref f1)))
    (ga_NoWay : PySem.W.findIn K (.ref xNoWay) "__getattribute__" = some (some (.builtin "BaseException.__getattribute__")))
    (gg_NoWay : PySem.W.findIn K (.ref xNoWay) "__getattr__" = some none)
    (hd_NoWay : PySem.W.hasDictIn K xNoWay = true)
    (ha_NoWay : PySem.W.findIn K (.ref xNoWay) "__class__" = some (some (.builtin "object.__class__")))
    (hm_NoWay : PySem.W.mroIn K xNoWay (.type "object") = some true)
    (xL_NotLoose : K.lookup xNotLoose = some (excClassObj nmNotLoose qNotLoose xNotLoose NNotLoose bsNotLoose bmNotLoose true snNotLoose subNotLoose abNotLoose colNotLoose ddNotLoose m0NotLoose m1NotLoose m2NotLoose m3NotLoose m5NotLoose "ValueError.__new__"))
    (xR_NotLoose : PySem.HandSPX.refsVE bmNotLoose = true)
    (sa_NotLoose : PySem.W.findIn K (.ref xNotLoose) "__setattr__" = some (some (.builtin "object.__setattr__")))
    (eC_NotLoose : PySem.W.subIn K (.ref xNotLoose) (.type "BaseException") = some true)
    (tC_NotLoose : PySem.W.typeIn K (.ref xNotLoose) = some (.type "type"))
    (kc_NotLoose : PySem.W.keepIn K (.ref xNotLoose) = true)
    (nw_NotLoose : PySem.W.findIn K (.ref xNotLoose) "what" = some none)
    (ii_NotLoose : PySem.W.findIn K (.ref xNotLoose) "__init__" = some (some (.ref f1)))
    (ga_NotLoose : PySem.W.findIn K (.ref xNotLoose) "__getattribute__" = some (some (.builtin "BaseException.__getattribute__")))
    (gg_NotLoose : PySem.W.findIn K (.ref xNotLoose) "__getattr__" = some none)
    (hd_NotLoose : PySem.W.hasDictIn K xNotLoose = true)
    (ha_NotLoose : PySem.W.findIn K (.ref xNotLoose) "__class__" = some (some (.builtin "object.__class__")))
    (hm_NotLoose : PySem.W.mroIn K xNotLoose (.type "object") = some true)
    (xL_NoMend : K.lookup xNoMend = some (excClassObj nmNoMend qNoMend xNoMend NNoMend bsNoMend bmNoMend true snNoMend subNoMend abNoMend colNoMend ddNoMend m0NoMend m1NoMend m2NoMend m3NoMend m5NoMend "ValueError.__new__"))
    (xR_NoMend : PySem.HandSPX.refsVE bmNoMend = true)
    (sa_NoMend : PySem.W.findIn K (.ref xNoMend) "__setattr__" = some (some (.builtin "object.__setattr__")))
    (eC_NoMend : PySem.W.subIn K (.ref xNoMend) (.type "BaseException") = some true)
    (tC_NoMend : PySem.W.typeIn K (.ref xNoMend) = some (.type "type"))
    (kc_NoMend : PySem.W.keepIn K (.ref xNoMend) = true)
    (nw_NoMend : PySem.W.findIn K (.ref xNoMend) "what" = some none)
    (ii_NoMend : PySem.W.findIn K (.ref xNoMend) "__init__" = some (some (.ref f1)))
    (ga_NoMend : PySem.W.findIn K (.ref xNoMend) "__getattribute__" = some (some (.builtin "BaseException.__getattribute__")))
    (gg_NoMend : PySem.W.findIn K (.ref xNoMend) "__getattr__" = some none)
    (hd_NoMend : PySem.W.hasDictIn K xNoMend = true)
    (ha_NoMend : PySem.W.findIn K (.ref xNoMend) "__class__" = some (some (.builtin "object.__class__")))
    (hm_NoMend : PySem.W.mroIn K xNoMend (.type "object") = some true)
    (xL_OtherOuts : K.lookup xOtherOuts = some (excClassObj nmOtherOuts qOtherOuts xOtherOuts NOtherOuts bsOtherOuts bmOtherOuts true snOtherOuts subOtherOuts abOtherOuts colOtherOuts ddOtherOuts m0OtherOuts m1OtherOuts m2OtherOuts m3OtherOuts m5OtherOuts "ValueError.__new__"))
    (xR_OtherOuts : PySem.HandSPX.refsVE bmOtherOuts = true)
    (sa_OtherOuts : PySem.W.findIn K (.ref xOtherOuts) "__setattr__" = some (some (.builtin "object.__setattr__")))
    (eC_OtherOuts : PySem.W.subIn K (.ref xOtherOuts) (.type "BaseException") = some true)
    (tC_OtherOuts : PySem.W.typeIn K (.ref xOtherOuts) = some (.type "type"))
    (kc_OtherOuts : PySem.W.keepIn K (.ref xOtherOuts) = true)
    (nw_OtherOuts : PySem.W.findIn K (.ref xOtherOuts) "what" = some none)
    (ii_OtherOuts : PySem.W.findIn K (.ref xOtherOuts) "__init__" = some (some (.ref f1)))
    (ga_OtherOuts : PySem.W.findIn K (.ref xOtherOuts) "__getattribute__" = some (some (.builtin "BaseException.__getattribute__")))
    (gg_OtherOuts : PySem.W.findIn K (.ref xOtherOuts) "__getattr__" = some none)
    (hd_OtherOuts : PySem.W.hasDictIn K xOtherOuts = true)
    (ha_OtherOuts : PySem.W.findIn K (.ref xOtherOuts) "__class__" = some (some (.builtin "object.__class__")))
    (hm_OtherOuts : PySem.W.mroIn K xOtherOuts (.type "object") = some true)
    (xL_DeadLook : K.lookup xDeadLook = some (excClassObj nmDeadLook qDeadLook xDeadLook NDeadLook bsDeadLook bmDeadLook true snDeadLook subDeadLook abDeadLook colDeadLook ddDeadLook m0DeadLook m1DeadLook m2DeadLook m3DeadLook m5DeadLook "ValueError.__new__"))
    (xR_DeadLook : PySem.HandSPX.refsVE bmDeadLook = true)
    (sa_DeadLook : PySem.W.findIn K (.ref xDeadLook) "__setattr__" = some (some (.builtin "object.__setattr__")))
    (eC_DeadLook : PySem.W.subIn K (.ref xDeadLook) (.type "BaseException") = some true)
    (tC_DeadLook : PySem.W.typeIn K (.ref xDeadLook) = some (.type "type"))
    (kc_DeadLook : PySem.W.keepIn K (.ref xDeadLook) = true)
    (nw_DeadLook : PySem.W.findIn K (.ref xDeadLook) "what" = some none)
    (ii_DeadLook : PySem.W.findIn K (.ref xDeadLook) "__init__" = some (some (.ref f2)))
    (ga_DeadLook : PySem.W.findIn K (.ref xDeadLook) "__getattribute__" = some (some (.builtin "BaseException.__getattribute__")))
    (gg_DeadLook : PySem.W.findIn K (.ref xDeadLook) "__getattr__" = some none)
    (hd_DeadLook : PySem.W.hasDictIn K xDeadLook = true)
    (ha_DeadLook : PySem.W.findIn K (.ref xDeadLook) "__class__" = some (some (.builtin "object.__class__")))
    (hm_DeadLook : PySem.W.mroIn K xDeadLook (.type "object") = some true)
    (xL_LivesError : K.lookup xLivesError = some (excClassObj nmLivesError qLivesError xLivesError NLivesError bsLivesError bmLivesError true snLivesError subLivesError abLivesError colLivesError ddLivesError m0LivesError m1LivesError m2LivesError m3LivesError m5LivesError "ValueError.__new__"))
    (xR_LivesError : PySem.HandSPX.refsVE bmLivesError = true)
    (sa_LivesError : PySem.W.findIn K (.ref xLivesError) "__setattr__" = some (some (.builtin "object.__setattr__")))
    (eC_LivesError : PySem.W.subIn K (.ref xLivesError) (.type "BaseException") = some true)
    (tC_LivesError : PySem.W.typeIn K (.ref xLivesError) = some (.type "type"))
    (kc_LivesError : PySem.W.keepIn K (.ref xLivesError) = true)
    (nw_LivesError : PySem.W.findIn K (.ref xLivesError) "what" = some none)
    (ii_LivesError : PySem.W.findIn K (.ref xLivesError) "__init__" = some (some (.ref f1)))
    (ga_LivesError : PySem.W.findIn K (.ref xLivesError) "__getattribute__" = some (some (.builtin "BaseException.__getattribute__")))
    (gg_LivesError : PySem.W.findIn K (.ref xLivesError) "__getattr__" = some none)
    (hd_LivesError : PySem.W.hasDictIn K xLivesError = true)
    (ha_LivesError : PySem.W.findIn K (.ref xLivesError) "__class__" = some (some (.builtin "object.__class__")))
    (hm_LivesError : PySem.W.mroIn K xLivesError (.type "object") = some true)
    (hnO : PySem.W.specialIn K (.builtin "object.__class__") "__get__" = some (some (.builtin "getset_descriptor.__get__")))
    (htO : PySem.W.takesIn K (.builtin "object.__class__") = some true)
    (fa_kk : UL.apartB K [xInvalidSignature, xDuplicateFunction, xUnknownFunction, xInvalidExpression, xInvalidRow, xInvalidLine, xUnknownName, xDuplicateName, xNotReference, xWrongCount, xUnbalanced, xTooLarge, xBadChoice, xEnded, xNoPlace, xNoValue, xNeverTogether, xNoFact, xNoWay, xNotLoose, xNoMend, xOtherOuts, xDeadLook, xLivesError] [xInvalidSignature, xDuplicateFunction, xUnknownFunction, xInvalidExpression, xInvalidRow, xInvalidLine, xUnknownName, xDuplicateName, xNotReference, xWrongCount, xUnbalanced, xTooLarge, xBadChoice, xEnded, xNoPlace, xNoValue, xNeverTogether, xNoFact, xNoWay, xNotLoose, xNoMend, xOtherOuts, xDeadLook] = true)
    (fa_kl : UL.beneathB K [xInvalidSignature, xDuplicateFunction, xUnknownFunction, xInvalidExpression, xInvalidRow, xInvalidLine, xUnknownName, xDuplicateName, xNotReference, xWrongCount, xUnbalanced, xTooLarge, xBadChoice, xEnded, xNoPlace, xNoValue, xNeverTogether, xNoFact, xNoWay, xNotLoose, xNoMend, xOtherOuts, xDeadLook, xLivesError] xLivesError = true)
    (fa_nr : PySem.W.findIn K (.ref xDeadLook) "row" = some none)
    (fa_mD : PySem.W.mroIn K xDeadLook (.ref xDeadLook) = some true)
    (fa_sD : PySem.W.ks_superIn K xDeadLook xDeadLook "__init__" = some (some (.ref f1)))
    (fa_fL : PySem.W.fnIn K f1 = true)
    : ∃ fd : FuncData, (∀ (s : Shared) (v : Value), BindsTo s fd ⟨[v], []⟩ [("_law_script", v)]) ∧ ∀ base : Heap, K.In base → base.Ns mainGlobals mg → FnOk l.prog w K mg base CX0 7 fa fd ["_law_script"] (spLaw K) := by
  have e := hfa.symm.trans (PySem.W.mg_of X G a13)
  cases e
  have F1 := fun_mk (st := s_lives_init) l1 c1 k1
  have b1 := F1.binds (ps := p_lives_init) fun _ _ _ _ _ _ us hl => match us, hl with | [_, _], _ => rfl
  have F2 := UL.funSup_mk (st := s_dead_init) l2 c2 cq2 cv2 ce2 (UL.cls_some hd_DeadLook) co2 k2
  have b2 := F2.binds (ps := p_dead_init) fun _ _ _ _ _ _ us hl => match us, hl with | [_, _, _], _ => rfl
  have F3 := fun_mk (st := s_draws) l3 c3 k3
  have b3 := F3.binds (ps := p_draws) fun _ _ _ _ _ _ us hl => match us, hl with | [_], _ => rfl
  have F4 := fun_mk (st := s_take) l4 c4 k4
  have b4 := F4.binds (ps := p_take) fun _ _ _ _ _ _ us hl => match us, hl with | [_, _], _ => rfl
  have F5 := fun_mk (st := s_name) l5 c5 k5
  have b5 := F5.binds (ps := p_name) fun _ _ _ _ _ _ us hl => match us, hl with | [_, _], _ => rfl
  have F6 := fun_mk (st := s_number) l6 c6 k6
  have b6 := F6.binds (ps := p_number) fun _ _ _ _ _ _ us hl => match us, hl with | [_], _ => rfl
  have F7 := fun_mk (st := s_what) l7 c7 k7
  have b7 := F7.binds (ps := p_what) fun _ _ _ _ _ _ us hl => match us, hl with | [_], _ => rfl
  have F8 := fun_mk (st := s_early) l8 c8 k8
  have b8 := F8.binds (ps := p_early) fun _ _ _ _ _ _ us hl => match us, hl with | [_, _], _ => rfl
  have F9 := fun_mk (st := s_error) l9 c9 k9
  have b9 := F9.binds (ps := p_error) fun _ _ _ _ _ _ us hl => match us, hl with | [_, _], _ => rfl
  have F10 := fun_mk (st := s_kinds) l10 c10 k10
  have b10 := F10.binds (ps := p_kinds) fun _ _ _ _ _ _ us hl => match us, hl with | [_], _ => rfl
  have F11 := fun_mk (st := s_same) l11 c11 k11
  have b11 := F11.binds (ps := p_same) fun _ _ _ _ _ _ us hl => match us, hl with | [_, _], _ => rfl
  have F12 := fun_mk (st := s_base_of) l12 c12 k12
  have b12 := F12.binds (ps := p_base_of) fun _ _ _ _ _ _ us hl => match us, hl with | [_], _ => rfl
  have F13 := fun_mk (st := s_law) l13 c13 k13
  have b13 := F13.binds (ps := p_law) fun _ _ _ _ _ _ us hl => match us, hl with | [_], _ => rfl
  let A : Adr := ⟨f0, (PySem.W.fnOf "copied" "copied" (defArgs s_copied) (defBody s_copied) (defScope s_copied) (.ref dT0) kV0 dc0 pm0 an0 cd0 ct0), f1, (PySem.W.fnOf "__init__" "LivesError.__init__" (defArgs s_lives_init) (defBody s_lives_init) (defScope s_lives_init) .none kV1 dc1 pm1 an1 cd1 ct1), f2, (PySem.W.fnX "__init__" "DeadLook.__init__" (defArgs s_dead_init) (defBody s_dead_init) (defScope s_dead_init) [("__class__", cc2)] .none kV2 dc2 pm2 an2 (.ref ca2) ct2), f3, (PySem.W.fnOf "_law_draws" "_law_draws" (defArgs s_draws) (defBody s_draws) (defScope s_draws) .none kV3 dc3 pm3 an3 cd3 ct3), f4, (PySem.W.fnOf "_law_take" "_law_take" (defArgs s_take) (defBody s_take) (defScope s_take) .none kV4 dc4 pm4 an4 cd4 ct4), f5, (PySem.W.fnOf "_law_name" "_law_name" (defArgs s_name) (defBody s_name) (defScope s_name) .none kV5 dc5 pm5 an5 cd5 ct5), f6, (PySem.W.fnOf "_law_number" "_law_number" (defArgs s_number) (defBody s_number) (defScope s_number) .none kV6 dc6 pm6 an6 cd6 ct6), f7, (PySem.W.fnOf "_law_what" "_law_what" (defArgs s_what) (defBody s_what) (defScope s_what) .none kV7 dc7 pm7 an7 cd7 ct7), f8, (PySem.W.fnOf "_law_early" "_law_early" (defArgs s_early) (defBody s_early) (defScope s_early) .none kV8 dc8 pm8 an8 cd8 ct8), f9, (PySem.W.fnOf "_law_error" "_law_error" (defArgs s_error) (defBody s_error) (defScope s_error) .none kV9 dc9 pm9 an9 cd9 ct9), f10, (PySem.W.fnOf "_law_kinds" "_law_kinds" (defArgs s_kinds) (defBody s_kinds) (defScope s_kinds) .none kV10 dc10 pm10 an10 cd10 ct10), f11, (PySem.W.fnOf "_law_same_thing" "_law_same_thing" (defArgs s_same) (defBody s_same) (defScope s_same) .none kV11 dc11 pm11 an11 cd11 ct11), f12, (PySem.W.fnOf "_law_base" "_law_base" (defArgs s_base_of) (defBody s_base_of) (defScope s_base_of) .none kV12 dc12 pm12 an12 cd12 ct12), fa, (PySem.W.fnOf "law" "law" (defArgs s_law) (defBody s_law) (defScope s_law) .none kV13 dc13 pm13 an13 cd13 ct13), ca2, cc2, fl2, xInvalidSignature, xDuplicateFunction, xUnknownFunction, xInvalidExpression, xInvalidRow, xInvalidLine, xUnknownName, xDuplicateName, xNotReference, xWrongCount, xUnbalanced, xTooLarge, xBadChoice, xEnded, xNoPlace, xNoValue, xNeverTogether, xNoFact, xNoWay, xNotLoose, xNoMend, xOtherOuts, xDeadLook, xLivesError⟩
  have T : Tx K mg A := {
    F_copied := ⟨⟨_, _, _, _, _, _, _, _, _, _, rfl, l0, c0, .inr ⟨(fun z => nomatch z), _, _, _, _, rfl, dl0, rfl, (.cons ⟨_, rfl⟩ .nil)⟩, .inl rfl⟩, k0⟩,
    g_copied := PySem.W.mg_of X G a0,
    F_lives_init := F1,
    b_lives_init := b1,
    ti_lives_init := i1,
    F_dead_init := F2,
    b_dead_init := b2,
    ti_dead_init := i2,
    F_draws := F3,
    b_draws := b3,
    g_draws := PySem.W.mg_of X G a3,
    F_take := F4,
    b_take := b4,
    g_take := PySem.W.mg_of X G a4,
    F_name := F5,
    b_name := b5,
    g_name := PySem.W.mg_of X G a5,
    F_number := F6,
    b_number := b6,
    g_number := PySem.W.mg_of X G a6,
    F_what := F7,
    b_what := b7,
    g_what := PySem.W.mg_of X G a7,
    F_early := F8,
    b_early := b8,
    g_early := PySem.W.mg_of X G a8,
    F_error := F9,
    b_error := b9,
    g_error := PySem.W.mg_of X G a9,
    F_kinds := F10,
    b_kinds := b10,
    g_kinds := PySem.W.mg_of X G a10,
    F_same := F11,
    b_same := b11,
    g_same := PySem.W.mg_of X G a11,
    F_base_of := F12,
    b_base_of := b12,
    g_base_of := PySem.W.mg_of X G a12,
    F_law := F13,
    b_law := b13,
    g_law := PySem.W.mg_of X G a13,
    m_ValueError := PySem.W.mg_none_of X G zValueError,
    m_abs := PySem.W.mg_none_of X G zabs,
    m_dict := PySem.W.mg_none_of X G zdict,
    m_int := PySem.W.mg_none_of X G zint,
    m_isinstance := PySem.W.mg_none_of X G zisinstance,
    m_len := PySem.W.mg_none_of X G zlen,
    m_list := PySem.W.mg_none_of X G zlist,
    m_min := PySem.W.mg_none_of X G zmin,
    m_range := PySem.W.mg_none_of X G zrange,
    m_str := PySem.W.mg_none_of X G zstr,
    m_super := PySem.W.mg_none_of X G zsuper,
    m_tuple := PySem.W.mg_none_of X G ztuple,
    g_InvalidSignature := PySem.W.mg_of X G aCInvalidSignature,
    ex_InvalidSignature := ⟨⟨⟨_, _, _, _, _, _, _, _, _, _, _, _, _, _, _, xL_InvalidSignature, xR_InvalidSignature⟩, sa_InvalidSignature, eC_InvalidSignature, tC_InvalidSignature, kc_InvalidSignature⟩, ii_InvalidSignature, nw_InvalidSignature, ⟨ga_InvalidSignature, gg_InvalidSignature, eC_InvalidSignature, hd_InvalidSignature⟩⟩,
    xi_InvalidSignature := ⟨UL.cls_some hd_InvalidSignature, ga_InvalidSignature, gg_InvalidSignature, eC_InvalidSignature, ha_InvalidSignature, hnO, htO, hm_InvalidSignature⟩,
    g_DuplicateFunction := PySem.W.mg_of X G aCDuplicateFunction,
    ex_DuplicateFunction := ⟨⟨⟨_, _, _, _, _, _, _, _, _, _, _, _, _, _, _, xL_DuplicateFunction, xR_DuplicateFunction⟩, sa_DuplicateFunction, eC_DuplicateFunction, tC_DuplicateFunction, kc_DuplicateFunction⟩, ii_DuplicateFunction, nw_DuplicateFunction, ⟨ga_DuplicateFunction, gg_DuplicateFunction, eC_DuplicateFunction, hd_DuplicateFunction⟩⟩,
    xi_DuplicateFunction := ⟨UL.cls_some hd_DuplicateFunction, ga_DuplicateFunction, gg_DuplicateFunction, eC_DuplicateFunction, ha_DuplicateFunction, hnO, htO, hm_DuplicateFunction⟩,
    g_UnknownFunction := PySem.W.mg_of X G aCUnknownFunction,
    ex_UnknownFunction := ⟨⟨⟨_, _, _, _, _, _, _, _, _, _, _, _, _, _, _, xL_UnknownFunction, xR_UnknownFunction⟩, sa_UnknownFunction, eC_UnknownFunction, tC_UnknownFunction, kc_UnknownFunction⟩, ii_UnknownFunction, nw_UnknownFunction, ⟨ga_UnknownFunction, gg_UnknownFunction, eC_UnknownFunction, hd_UnknownFunction⟩⟩,
    xi_UnknownFunction := ⟨UL.cls_some hd_UnknownFunction, ga_UnknownFunction, gg_UnknownFunction, eC_UnknownFunction, ha_UnknownFunction, hnO, htO, hm_UnknownFunction⟩,
    g_InvalidExpression := PySem.W.mg_of X G aCInvalidExpression,
    ex_InvalidExpression := ⟨⟨⟨_, _, _, _, _, _, _, _, _, _, _, _, _, _, _, xL_InvalidExpression, xR_InvalidExpression⟩, sa_InvalidExpression, eC_InvalidExpression, tC_InvalidExpression, kc_InvalidExpression⟩, ii_InvalidExpression, nw_InvalidExpression, ⟨ga_InvalidExpression, gg_InvalidExpression, eC_InvalidExpression, hd_InvalidExpression⟩⟩,
    xi_InvalidExpression := ⟨UL.cls_some hd_InvalidExpression, ga_InvalidExpression, gg_InvalidExpression, eC_InvalidExpression, ha_InvalidExpression, hnO, htO, hm_InvalidExpression⟩,
    g_InvalidRow := PySem.W.mg_of X G aCInvalidRow,
    ex_InvalidRow := ⟨⟨⟨_, _, _, _, _, _, _, _, _, _, _, _, _, _, _, xL_InvalidRow, xR_InvalidRow⟩, sa_InvalidRow, eC_InvalidRow, tC_InvalidRow, kc_InvalidRow⟩, ii_InvalidRow, nw_InvalidRow, ⟨ga_InvalidRow, gg_InvalidRow, eC_InvalidRow, hd_InvalidRow⟩⟩,
    xi_InvalidRow := ⟨UL.cls_some hd_InvalidRow, ga_InvalidRow, gg_InvalidRow, eC_InvalidRow, ha_InvalidRow, hnO, htO, hm_InvalidRow⟩,
    g_InvalidLine := PySem.W.mg_of X G aCInvalidLine,
    ex_InvalidLine := ⟨⟨⟨_, _, _, _, _, _, _, _, _, _, _, _, _, _, _, xL_InvalidLine, xR_InvalidLine⟩, sa_InvalidLine, eC_InvalidLine, tC_InvalidLine, kc_InvalidLine⟩, ii_InvalidLine, nw_InvalidLine, ⟨ga_InvalidLine, gg_InvalidLine, eC_InvalidLine, hd_InvalidLine⟩⟩,
    xi_InvalidLine := ⟨UL.cls_some hd_InvalidLine, ga_InvalidLine, gg_InvalidLine, eC_InvalidLine, ha_InvalidLine, hnO, htO, hm_InvalidLine⟩,
    g_UnknownName := PySem.W.mg_of X G aCUnknownName,
    ex_UnknownName := ⟨⟨⟨_, _, _, _, _, _, _, _, _, _, _, _, _, _, _, xL_UnknownName, xR_UnknownName⟩, sa_UnknownName, eC_UnknownName, tC_UnknownName, kc_UnknownName⟩, ii_UnknownName, nw_UnknownName, ⟨ga_UnknownName, gg_UnknownName, eC_UnknownName, hd_UnknownName⟩⟩,
    xi_UnknownName := ⟨UL.cls_some hd_UnknownName, ga_UnknownName, gg_UnknownName, eC_UnknownName, ha_UnknownName, hnO, htO, hm_UnknownName⟩,
    g_DuplicateName := PySem.W.mg_of X G aCDuplicateName,
    ex_DuplicateName := ⟨⟨⟨_, _, _, _, _, _, _, _, _, _, _, _, _, _, _, xL_DuplicateName, xR_DuplicateName⟩, sa_DuplicateName, eC_DuplicateName, tC_DuplicateName, kc_DuplicateName⟩, ii_DuplicateName, nw_DuplicateName, ⟨ga_DuplicateName, gg_DuplicateName, eC_DuplicateName, hd_DuplicateName⟩⟩,
    xi_DuplicateName := ⟨UL.cls_some hd_DuplicateName, ga_DuplicateName, gg_DuplicateName, eC_DuplicateName, ha_DuplicateName, hnO, htO, hm_DuplicateName⟩,
    g_NotReference := PySem.W.mg_of X G aCNotReference,
    ex_NotReference := ⟨⟨⟨_, _, _, _, _, _, _, _, _, _, _, _, _, _, _, xL_NotReference, xR_NotReference⟩, sa_NotReference, eC_NotReference, tC_NotReference, kc_NotReference⟩, ii_NotReference, nw_NotReference, ⟨ga_NotReference, gg_NotReference, eC_NotReference, hd_NotReference⟩⟩,
    xi_NotReference := ⟨UL.cls_some hd_NotReference, ga_NotReference, gg_NotReference, eC_NotReference, ha_NotReference, hnO, htO, hm_NotReference⟩,
    g_WrongCount := PySem.W.mg_of X G aCWrongCount,
    ex_WrongCount := ⟨⟨⟨_, _, _, _, _, _, _, _, _, _, _, _, _, _, _, xL_WrongCount, xR_WrongCount⟩, sa_WrongCount, eC_WrongCount, tC_WrongCount, kc_WrongCount⟩, ii_WrongCount, nw_WrongCount, ⟨ga_WrongCount, gg_WrongCount, eC_WrongCount, hd_WrongCount⟩⟩,
    xi_WrongCount := ⟨UL.cls_some hd_WrongCount, ga_WrongCount, gg_WrongCount, eC_WrongCount, ha_WrongCount, hnO, htO, hm_WrongCount⟩,
    g_Unbalanced := PySem.W.mg_of X G aCUnbalanced,
    ex_Unbalanced := ⟨⟨⟨_, _, _, _, _, _, _, _, _, _, _, _, _, _, _, xL_Unbalanced, xR_Unbalanced⟩, sa_Unbalanced, eC_Unbalanced, tC_Unbalanced, kc_Unbalanced⟩, ii_Unbalanced, nw_Unbalanced, ⟨ga_Unbalanced, gg_Unbalanced, eC_Unbalanced, hd_Unbalanced⟩⟩,
    xi_Unbalanced := ⟨UL.cls_some hd_Unbalanced, ga_Unbalanced, gg_Unbalanced, eC_Unbalanced, ha_Unbalanced, hnO, htO, hm_Unbalanced⟩,
    g_TooLarge := PySem.W.mg_of X G aCTooLarge,
    ex_TooLarge := ⟨⟨⟨_, _, _, _, _, _, _, _, _, _, _, _, _, _, _, xL_TooLarge, xR_TooLarge⟩, sa_TooLarge, eC_TooLarge, tC_TooLarge, kc_TooLarge⟩, ii_TooLarge, nw_TooLarge, ⟨ga_TooLarge, gg_TooLarge, eC_TooLarge, hd_TooLarge⟩⟩,
    xi_TooLarge := ⟨UL.cls_some hd_TooLarge, ga_TooLarge, gg_TooLarge, eC_TooLarge, ha_TooLarge, hnO, htO, hm_TooLarge⟩,
    g_BadChoice := PySem.W.mg_of X G aCBadChoice,
    ex_BadChoice := ⟨⟨⟨_, _, _, _, _, _, _, _, _, _, _, _, _, _, _, xL_BadChoice, xR_BadChoice⟩, sa_BadChoice, eC_BadChoice, tC_BadChoice, kc_BadChoice⟩, ii_BadChoice, nw_BadChoice, ⟨ga_BadChoice, gg_BadChoice, eC_BadChoice, hd_BadChoice⟩⟩,
    xi_BadChoice := ⟨UL.cls_some hd_BadChoice, ga_BadChoice, gg_BadChoice, eC_BadChoice, ha_BadChoice, hnO, htO, hm_BadChoice⟩,
    g_Ended := PySem.W.mg_of X G aCEnded,
    ex_Ended := ⟨⟨⟨_, _, _, _, _, _, _, _, _, _, _, _, _, _, _, xL_Ended, xR_Ended⟩, sa_Ended, eC_Ended, tC_Ended, kc_Ended⟩, ii_Ended, nw_Ended, ⟨ga_Ended, gg_Ended, eC_Ended, hd_Ended⟩⟩,
    xi_Ended := ⟨UL.cls_some hd_Ended, ga_Ended, gg_Ended, eC_Ended, ha_Ended, hnO, htO, hm_Ended⟩,
    g_NoPlace := PySem.W.mg_of X G aCNoPlace,
    ex_NoPlace := ⟨⟨⟨_, _, _, _, _, _, _, _, _, _, _, _, _, _, _, xL_NoPlace, xR_NoPlace⟩, sa_NoPlace, eC_NoPlace, tC_NoPlace, kc_NoPlace⟩, ii_NoPlace, nw_NoPlace, ⟨ga_NoPlace, gg_NoPlace, eC_NoPlace, hd_NoPlace⟩⟩,
    xi_NoPlace := ⟨UL.cls_some hd_NoPlace, ga_NoPlace, gg_NoPlace, eC_NoPlace, ha_NoPlace, hnO, htO, hm_NoPlace⟩,
    g_NoValue := PySem.W.mg_of X G aCNoValue,
    ex_NoValue := ⟨⟨⟨_, _, _, _, _, _, _, _, _, _, _, _, _, _, _, xL_NoValue, xR_NoValue⟩, sa_NoValue, eC_NoValue, tC_NoValue, kc_NoValue⟩, ii_NoValue, nw_NoValue, ⟨ga_NoValue, gg_NoValue, eC_NoValue, hd_NoValue⟩⟩,
    xi_NoValue := ⟨UL.cls_some hd_NoValue, ga_NoValue, gg_NoValue, eC_NoValue, ha_NoValue, hnO, htO, hm_NoValue⟩,
    g_NeverTogether := PySem.W.mg_of X G aCNeverTogether,
    ex_NeverTogether := ⟨⟨⟨_, _, _, _, _, _, _, _, _, _, _, _, _, _, _, xL_NeverTogether, xR_NeverTogether⟩, sa_NeverTogether, eC_NeverTogether, tC_NeverTogether, kc_NeverTogether⟩, ii_NeverTogether, nw_NeverTogether, ⟨ga_NeverTogether, gg_NeverTogether, eC_NeverTogether, hd_NeverTogether⟩⟩,
    xi_NeverTogether := ⟨UL.cls_some hd_NeverTogether, ga_NeverTogether, gg_NeverTogether, eC_NeverTogether, ha_NeverTogether, hnO, htO, hm_NeverTogether⟩,
    g_NoFact := PySem.W.mg_of X G aCNoFact,
    ex_NoFact := ⟨⟨⟨_, _, _, _, _, _, _, _, _, _, _, _, _, _, _, xL_NoFact, xR_NoFact⟩, sa_NoFact, eC_NoFact, tC_NoFact, kc_NoFact⟩, ii_NoFact, nw_NoFact, ⟨ga_NoFact, gg_NoFact, eC_NoFact, hd_NoFact⟩⟩,
    xi_NoFact := ⟨UL.cls_some hd_NoFact, ga_NoFact, gg_NoFact, eC_NoFact, ha_NoFact, hnO, htO, hm_NoFact⟩,
    g_NoWay := PySem.W.mg_of X G aCNoWay,
    ex_NoWay := ⟨⟨⟨_, _, _, _, _, _, _, _, _, _, _, _, _, _, _, xL_NoWay, xR_NoWay⟩, sa_NoWay, eC_NoWay, tC_NoWay, kc_NoWay⟩, ii_NoWay, nw_NoWay, ⟨ga_NoWay, gg_NoWay, eC_NoWay, hd_NoWay⟩⟩,
    xi_NoWay := ⟨UL.cls_some hd_NoWay, ga_NoWay, gg_NoWay, eC_NoWay, ha_NoWay, hnO, htO, hm_NoWay⟩,
    g_NotLoose := PySem.W.mg_of X G aCNotLoose,
    ex_NotLoose := ⟨⟨⟨_, _, _, _, _, _, _, _, _, _, _, _, _, _, _, xL_NotLoose, xR_NotLoose⟩, sa_NotLoose, eC_NotLoose, tC_NotLoose, kc_NotLoose⟩, ii_NotLoose, nw_NotLoose, ⟨ga_NotLoose, gg_NotLoose, eC_NotLoose, hd_NotLoose⟩⟩,
    xi_NotLoose := ⟨UL.cls_some hd_NotLoose, ga_NotLoose, gg_NotLoose, eC_NotLoose, ha_NotLoose, hnO, htO, hm_NotLoose⟩,
    g_NoMend := PySem.W.mg_of X G aCNoMend,
    ex_NoMend := ⟨⟨⟨_, _, _, _, _, _, _, _, _, _, _, _, _, _, _, xL_NoMend, xR_NoMend⟩, sa_NoMend, eC_NoMend, tC_NoMend, kc_NoMend⟩, ii_NoMend, nw_NoMend, ⟨ga_NoMend, gg_NoMend, eC_NoMend, hd_NoMend⟩⟩,
    xi_NoMend := ⟨UL.cls_some hd_NoMend, ga_NoMend, gg_NoMend, eC_NoMend, ha_NoMend, hnO, htO, hm_NoMend⟩,
    g_OtherOuts := PySem.W.mg_of X G aCOtherOuts,
    ex_OtherOuts := ⟨⟨⟨_, _, _, _, _, _, _, _, _, _, _, _, _, _, _, xL_OtherOuts, xR_OtherOuts⟩, sa_OtherOuts, eC_OtherOuts, tC_OtherOuts, kc_OtherOuts⟩, ii_OtherOuts, nw_OtherOuts, ⟨ga_OtherOuts, gg_OtherOuts, eC_OtherOuts, hd_OtherOuts⟩⟩,
    xi_OtherOuts := ⟨UL.cls_some hd_OtherOuts, ga_OtherOuts, gg_OtherOuts, eC_OtherOuts, ha_OtherOuts, hnO, htO, hm_OtherOuts⟩,
    g_DeadLook := PySem.W.mg_of X G aCDeadLook,
    ex_DeadLook := ⟨⟨⟨_, _, _, _, _, _, _, _, _, _, _, _, _, _, _, xL_DeadLook, xR_DeadLook⟩, sa_DeadLook, eC_DeadLook, tC_DeadLook, kc_DeadLook⟩, ii_DeadLook, nw_DeadLook, ⟨ga_DeadLook, gg_DeadLook, eC_DeadLook, hd_DeadLook⟩⟩,
    xi_DeadLook := ⟨UL.cls_some hd_DeadLook, ga_DeadLook, gg_DeadLook, eC_DeadLook, ha_DeadLook, hnO, htO, hm_DeadLook⟩,
    g_LivesError := PySem.W.mg_of X G aCLivesError,
    ex_LivesError := ⟨⟨⟨_, _, _, _, _, _, _, _, _, _, _, _, _, _, _, xL_LivesError, xR_LivesError⟩, sa_LivesError, eC_LivesError, tC_LivesError, kc_LivesError⟩, ii_LivesError, nw_LivesError, ⟨ga_LivesError, gg_LivesError, eC_LivesError, hd_LivesError⟩⟩,
    xi_LivesError := ⟨UL.cls_some hd_LivesError, ga_LivesError, gg_LivesError, eC_LivesError, ha_LivesError, hnO, htO, hm_LivesError⟩,
    kk := fa_kk,
    kl := fa_kl,
    nr := fa_nr,
    mD := fa_mD,
    sD := fa_sD,
    fL := fa_fL }
  exact ⟨_, fun s v => .of_eq rfl, fun base _ _ => ok_law T ⟨cz2, ct_2⟩⟩
end K06
open PySem PySem.W PyProof.Rows
set_option maxHeartbeats 0 in
theorem PySem.Challenge.cw_unnamedlives_k06_errors_holds : PySem.Challenge.rw_unnamedlives_k06_errors.Holds := by
  w_on; o_law; k_head; (case hw => w_witness2)
  k_fill
  refine L2.walk_of (l := PySem.Challenge.rw_unnamedlives_k06_errors) (n := 63) (k := 7) (x := "_law_script") (CX := fun _ => L2.CX0) (sp := fun w => K06.spLaw _) rfl (by decide) rfl ⟨rfl, by decide, by decide⟩ (fun w h Y => PySem.W.kIn_of Y) ?F (fun _ _ a ns hl _ hS => ⟨a, ns, rfl, hS, hl, fun _ => rfl⟩) (fun _ _ _ _ _ h => h)
  case F =>
    intro w mg fa h KX G hmg
    refine' K06.all_mk KX G hmg ?aCInvalidSignature ?aCDuplicateFunction ?aCUnknownFunction ?aCInvalidExpression ?aCInvalidRow ?aCInvalidLine ?aCUnknownName ?aCDuplicateName ?aCNotReference ?aCWrongCount ?aCUnbalanced ?aCTooLarge ?aCBadChoice ?aCEnded ?aCNoPlace ?aCNoValue ?aCNeverTogether ?aCNoFact ?aCNoWay ?aCNotLoose ?aCNoMend ?aCOtherOuts ?aCDeadLook ?aCLivesError ?a0 ?l0 ?dl0 ?c0 ?k0 ?a1 ?i1 ?l1 ?c1 ?k1 ?a2 ?i2 ?l2 ?c2 ?cq2 ?cv2 ?ce2 ?co2 ?cz2 ?ct_2 ?k2 ?a3 ?l3 ?c3 ?k3 ?a4 ?l4 ?c4 ?k4 ?a5 ?l5 ?c5 ?k5 ?a6 ?l6 ?c6 ?k6 ?a7 ?l7 ?c7 ?k7 ?a8 ?l8 ?c8 ?k8 ?a9 ?l9 ?c9 ?k9 ?a10 ?l10 ?c10 ?k10 ?a11 ?l11 ?c11 ?k11 ?a12 ?l12 ?c12 ?k12 ?a13 ?l13 ?c13 ?k13 ?zValueError ?zabs ?zdict ?zint ?zisinstance ?zlen ?zlist ?zmin ?zrange ?zstr ?zsuper ?ztuple ?xL_InvalidSignature ?xR_InvalidSignature ?sa_InvalidSignature ?eC_InvalidSignature ?tC_InvalidSignature ?kc_InvalidSignature ?nw_InvalidSignature ?ii_InvalidSignature ?ga_InvalidSignature ?gg_InvalidSignature ?hd_InvalidSignature ?ha_InvalidSignature ?hm_InvalidSignature ?xL_DuplicateFunction ?xR_DuplicateFunction ?sa_DuplicateFunction ?eC_DuplicateFunction ?tC_DuplicateFunction ?kc_DuplicateFunction ?nw_DuplicateFunction ?ii_DuplicateFunction ?ga_DuplicateFunction ?gg_DuplicateFunction ?hd_DuplicateFunction ?ha_DuplicateFunction ?hm_DuplicateFunction ?xL_UnknownFunction ?xR_UnknownFunction ?sa_UnknownFunction ?eC_UnknownFunction ?tC_UnknownFunction ?kc_UnknownFunction ?nw_UnknownFunction ?ii_UnknownFunction ?ga_UnknownFunction ?gg_UnknownFunction ?hd_UnknownFunction ?ha_UnknownFunction ?hm_UnknownFunction ?xL_InvalidExpression ?xR_InvalidExpression ?sa_InvalidExpression ?eC_InvalidExpression ?tC_InvalidExpression ?kc_InvalidExpression ?nw_InvalidExpression ?ii_InvalidExpression ?ga_InvalidExpression ?gg_InvalidExpression ?hd_InvalidExpression ?ha_InvalidExpression ?hm_InvalidExpression ?xL_InvalidRow ?xR_InvalidRow ?sa_InvalidRow ?eC_InvalidRow ?tC_InvalidRow ?kc_InvalidRow ?nw_InvalidRow ?ii_InvalidRow ?ga_InvalidRow ?gg_InvalidRow ?hd_InvalidRow ?ha_InvalidRow ?hm_InvalidRow ?xL_InvalidLine ?xR_InvalidLine ?sa_InvalidLine ?eC_InvalidLine ?tC_InvalidLine ?kc_InvalidLine ?nw_InvalidLine ?ii_InvalidLine ?ga_InvalidLine ?gg_InvalidLine ?hd_InvalidLine ?ha_InvalidLine ?hm_InvalidLine ?xL_UnknownName ?xR_UnknownName ?sa_UnknownName ?eC_UnknownName ?tC_UnknownName ?kc_UnknownName ?nw_UnknownName ?ii_UnknownName ?ga_UnknownName ?gg_UnknownName ?hd_UnknownName ?ha_UnknownName ?hm_UnknownName ?xL_DuplicateName ?xR_DuplicateName ?sa_DuplicateName ?eC_DuplicateName ?tC_DuplicateName ?kc_DuplicateName ?nw_DuplicateName ?ii_DuplicateName ?ga_DuplicateName ?gg_DuplicateName ?hd_DuplicateName ?ha_DuplicateName ?hm_DuplicateName ?xL_NotReference ?xR_NotReference ?sa_NotReference ?eC_NotReference ?tC_NotReference ?kc_NotReference ?nw_NotReference ?ii_NotReference ?ga_NotReference ?gg_NotReference ?hd_NotReference ?ha_NotReference ?hm_NotReference ?xL_WrongCount ?xR_WrongCount ?sa_WrongCount ?eC_WrongCount ?tC_WrongCount ?kc_WrongCount ?nw_WrongCount ?ii_WrongCount ?ga_WrongCount ?gg_WrongCount ?hd_WrongCount ?ha_WrongCount ?hm_WrongCount ?xL_Unbalanced ?xR_Unbalanced ?sa_Unbalanced ?eC_Unbalanced ?tC_Unbalanced ?kc_Unbalanced ?nw_Unbalanced ?ii_Unbalanced ?ga_Unbalanced ?gg_Unbalanced ?hd_Unbalanced ?ha_Unbalanced ?hm_Unbalanced ?xL_TooLarge ?xR_TooLarge ?sa_TooLarge ?eC_TooLarge ?tC_TooLarge ?kc_TooLarge ?nw_TooLarge ?ii_TooLarge ?ga_TooLarge ?gg_TooLarge ?hd_TooLarge ?ha_TooLarge ?hm_TooLarge ?xL_BadChoice ?xR_BadChoice ?sa_BadChoice ?eC_BadChoice ?tC_BadChoice ?kc_BadChoice ?nw_BadChoice ?ii_BadChoice ?ga_BadChoice ?gg_BadChoice ?hd_BadChoice ?ha_BadChoice ?hm_BadChoice ?xL_Ended ?xR_Ended ?sa_Ended ?eC_Ended ?tC_Ended ?kc_Ended ?nw_Ended ?ii_Ended ?ga_Ended ?gg_Ended ?hd_Ended ?ha_Ended ?hm_Ended ?xL_NoPlace ?xR_NoPlace ?sa_NoPlace ?eC_NoPlace ?tC_NoPlace ?kc_NoPlace ?nw_NoPlace ?ii_NoPlace ?ga_NoPlace ?gg_NoPlace ?hd_NoPlace ?ha_NoPlace ?hm_NoPlace ?xL_NoValue ?xR_NoValue ?sa_NoValue ?eC_NoValue ?tC_NoValue ?kc_NoValue ?nw_NoValue ?ii_NoValue ?ga_NoValue ?gg_NoValue ?hd_NoValue ?ha_NoValue ?hm_NoValue ?xL_NeverTogether ?xR_NeverTogether ?sa_NeverTogether ?eC_NeverTogether ?tC_NeverTogether ?kc_NeverTogether ?nw_NeverTogether ?ii_NeverTogether ?ga_NeverTogether ?gg_NeverTogether ?hd_NeverTogether ?ha_NeverTogether ?hm_NeverTogether ?xL_NoFact ?xR_NoFact ?sa_NoFact ?eC_NoFact ?tC_NoFact ?kc_NoFact ?nw_NoFact ?ii_NoFact ?ga_NoFact ?gg_NoFact ?hd_NoFact ?ha_NoFact ?hm_NoFact ?xL_NoWay ?xR_NoWay ?sa_NoWay ?eC_NoWay ?tC_NoWay ?kc_NoWay ?nw_NoWay ?ii_NoWay ?ga_NoWay ?gg_NoWay ?hd_NoWay ?ha_NoWay ?hm_NoWay ?xL_NotLoose ?xR_NotLoose ?sa_NotLoose ?eC_NotLoose ?tC_NotLoose ?kc_NotLoose ?nw_NotLoose ?ii_NotLoose ?ga_NotLoose ?gg_NotLoose ?hd_NotLoose ?ha_NotLoose ?hm_NotLoose ?xL_NoMend ?xR_NoMend ?sa_NoMend ?eC_NoMend ?tC_NoMend ?kc_NoMend ?nw_NoMend ?ii_NoMend ?ga_NoMend ?gg_NoMend ?hd_NoMend ?ha_NoMend ?hm_NoMend ?xL_OtherOuts ?xR_OtherOuts ?sa_OtherOuts ?eC_OtherOuts ?tC_OtherOuts ?kc_OtherOuts ?nw_OtherOuts ?ii_OtherOuts ?ga_OtherOuts ?gg_OtherOuts ?hd_OtherOuts ?ha_OtherOuts ?hm_OtherOuts ?xL_DeadLook ?xR_DeadLook ?sa_DeadLook ?eC_DeadLook ?tC_DeadLook ?kc_DeadLook ?nw_DeadLook ?ii_DeadLook ?ga_DeadLook ?gg_DeadLook ?hd_DeadLook ?ha_DeadLook ?hm_DeadLook ?xL_LivesError ?xR_LivesError ?sa_LivesError ?eC_LivesError ?tC_LivesError ?kc_LivesError ?nw_LivesError ?ii_LivesError ?ga_LivesError ?gg_LivesError ?hd_LivesError ?ha_LivesError ?hm_LivesError ?hnO ?htO ?fa_kk ?fa_kl ?fa_nr ?fa_mD ?fa_sD ?fa_fL
    (case aCInvalidSignature => k_is)
    (case aCDuplicateFunction => k_is)
    (case aCUnknownFunction => k_is)
    (case aCInvalidExpression => k_is)
    (case aCInvalidRow => k_is)
    (case aCInvalidLine => k_is)
    (case aCUnknownName => k_is)
    (case aCDuplicateName => k_is)
    (case aCNotReference => k_is)
    (case aCWrongCount => k_is)
    (case aCUnbalanced => k_is)
    (case aCTooLarge => k_is)
    (case aCBadChoice => k_is)
    (case aCEnded => k_is)
    (case aCNoPlace => k_is)
    (case aCNoValue => k_is)
    (case aCNeverTogether => k_is)
    (case aCNoFact => k_is)
    (case aCNoWay => k_is)
    (case aCNotLoose => k_is)
    (case aCNoMend => k_is)
    (case aCOtherOuts => k_is)
    (case aCDeadLook => k_is)
    (case aCLivesError => k_is)
    (case a0 => k_is)
    (case l0 => k_is)
    (case dl0 => k_is)
    (case c0 => k_is)
    (case k0 => k_is)
    (case a1 => k_is)
    (case i1 => k_is)
    (case l1 => k_is)
    (case c1 => k_is)
    (case k1 => k_is)
    (case a2 => k_is)
    (case i2 => k_is)
    (case l2 => k_is)
    (case c2 => k_is)
    (case cq2 => k_is)
    (case cv2 => rfl)
    (case ce2 => k_is)
    (case co2 => k_is)
    (case cz2 => first | rfl | decide +kernel | kernel_rfl)
    (case ct_2 => first | rfl | decide +kernel | kernel_rfl)
    (case k2 => k_is)
    (case a3 => k_is)
    (case l3 => k_is)
    (case c3 => k_is)
    (case k3 => k_is)
    (case a4 => k_is)
    (case l4 => k_is)
    (case c4 => k_is)
    (case k4 => k_is)
    (case a5 => k_is)
    (case l5 => k_is)
    (case c5 => k_is)
    (case k5 => k_is)
    (case a6 => k_is)
    (case l6 => k_is)
    (case c6 => k_is)
    (case k6 => k_is)
    (case a7 => k_is)
    (case l7 => k_is)
    (case c7 => k_is)
    (case k7 => k_is)
    (case a8 => k_is)
    (case l8 => k_is)
    (case c8 => k_is)
    (case k8 => k_is)
    (case a9 => k_is)
    (case l9 => k_is)
    (case c9 => k_is)
    (case k9 => k_is)
    (case a10 => k_is)
    (case l10 => k_is)
    (case c10 => k_is)
    (case k10 => k_is)
    (case a11 => k_is)
    (case l11 => k_is)
    (case c11 => k_is)
    (case k11 => k_is)
    (case a12 => k_is)
    (case l12 => k_is)
    (case c12 => k_is)
    (case k12 => k_is)
    (case a13 => k_is)
    (case l13 => k_is)
    (case c13 => k_is)
    (case k13 => k_is)
    (case zValueError => k_is)
    (case zabs => k_is)
    (case zdict => k_is)
    (case zint => k_is)
    (case zisinstance => k_is)
    (case zlen => k_is)
    (case zlist => k_is)
    (case zmin => k_is)
    (case zrange => k_is)
    (case zstr => k_is)
    (case zsuper => k_is)
    (case ztuple => k_is)
    (case xL_InvalidSignature => k_is)
    (case xR_InvalidSignature => decide +kernel)
    (case sa_InvalidSignature => k_is)
    (case eC_InvalidSignature => k_is)
    (case tC_InvalidSignature => k_is)
    (case kc_InvalidSignature => k_is)
    (case nw_InvalidSignature => k_is)
    (case ii_InvalidSignature => k_is)
    (case ga_InvalidSignature => k_is)
    (case gg_InvalidSignature => k_is)
    (case hd_InvalidSignature => k_is)
    (case ha_InvalidSignature => k_is)
    (case hm_InvalidSignature => k_is)
    (case xL_DuplicateFunction => k_is)
    (case xR_DuplicateFunction => decide +kernel)
    (case sa_DuplicateFunction => k_is)
    (case eC_DuplicateFunction => k_is)
    (case tC_DuplicateFunction => k_is)
    (case kc_DuplicateFunction => k_is)
    (case nw_DuplicateFunction => k_is)
    (case ii_DuplicateFunction => k_is)
    (case ga_DuplicateFunction => k_is)
    (case gg_DuplicateFunction => k_is)
    (case hd_DuplicateFunction => k_is)
    (case ha_DuplicateFunction => k_is)
    (case hm_DuplicateFunction => k_is)
    (case xL_UnknownFunction => k_is)
    (case xR_UnknownFunction => decide +kernel)
    (case sa_UnknownFunction => k_is)
    (case eC_UnknownFunction => k_is)
    (case tC_UnknownFunction => k_is)
    (case kc_UnknownFunction => k_is)
    (case nw_UnknownFunction => k_is)
    (case ii_UnknownFunction => k_is)
    (case ga_UnknownFunction => k_is)
    (case gg_UnknownFunction => k_is)
    (case hd_UnknownFunction => k_is)
    (case ha_UnknownFunction => k_is)
    (case hm_UnknownFunction => k_is)
    (case xL_InvalidExpression => k_is)
    (case xR_InvalidExpression => decide +kernel)
    (case sa_InvalidExpression => k_is)
    (case eC_InvalidExpression => k_is)
    (case tC_InvalidExpression => k_is)
    (case kc_InvalidExpression => k_is)
    (case nw_InvalidExpression => k_is)
    (case ii_InvalidExpression => k_is)
    (case ga_InvalidExpression => k_is)
    (case gg_InvalidExpression => k_is)
    (case hd_InvalidExpression => k_is)
    (case ha_InvalidExpression => k_is)
    (case hm_InvalidExpression => k_is)
    (case xL_InvalidRow => k_is)
    (case xR_InvalidRow => decide +kernel)
    (case sa_InvalidRow => k_is)
    (case eC_InvalidRow => k_is)
    (case tC_InvalidRow => k_is)
    (case kc_InvalidRow => k_is)
    (case nw_InvalidRow => k_is)
    (case ii_InvalidRow => k_is)
    (case ga_InvalidRow => k_is)
    (case gg_InvalidRow => k_is)
    (case hd_InvalidRow => k_is)
    (case ha_InvalidRow => k_is)
    (case hm_InvalidRow => k_is)
    (case xL_InvalidLine => k_is)
    (case xR_InvalidLine => decide +kernel)
    (case sa_InvalidLine => k_is)
    (case eC_InvalidLine => k_is)
    (case tC_InvalidLine => k_is)
    (case kc_InvalidLine => k_is)
    (case nw_InvalidLine => k_is)
    (case ii_InvalidLine => k_is)
    (case ga_InvalidLine => k_is)
    (case gg_InvalidLine => k_is)
    (case hd_InvalidLine => k_is)
    (case ha_InvalidLine => k_is)
    (case hm_InvalidLine => k_is)
    (case xL_UnknownName => k_is)
    (case xR_UnknownName => decide +kernel)
    (case sa_UnknownName => k_is)
    (case eC_UnknownName => k_is)
    (case tC_UnknownName => k_is)
    (case kc_UnknownName => k_is)
    (case nw_UnknownName => k_is)
    (case ii_UnknownName => k_is)
    (case ga_UnknownName => k_is)
    (case gg_UnknownName => k_is)
    (case hd_UnknownName => k_is)
    (case ha_UnknownName => k_is)
    (case hm_UnknownName => k_is)
    (case xL_DuplicateName => k_is)
    (case xR_DuplicateName => decide +kernel)
    (case sa_DuplicateName => k_is)
    (case eC_DuplicateName => k_is)
    (case tC_DuplicateName => k_is)
    (case kc_DuplicateName => k_is)
    (case nw_DuplicateName => k_is)
    (case ii_DuplicateName => k_is)
    (case ga_DuplicateName => k_is)
    (case gg_DuplicateName => k_is)
    (case hd_DuplicateName => k_is)
    (case ha_DuplicateName => k_is)
    (case hm_DuplicateName => k_is)
    (case xL_NotReference => k_is)
    (case xR_NotReference => decide +kernel)
    (case sa_NotReference => k_is)
    (case eC_NotReference => k_is)
    (case tC_NotReference => k_is)
    (case kc_NotReference => k_is)
    (case nw_NotReference => k_is)
    (case ii_NotReference => k_is)
    (case ga_NotReference => k_is)
    (case gg_NotReference => k_is)
    (case hd_NotReference => k_is)
    (case ha_NotReference => k_is)
    (case hm_NotReference => k_is)
    (case xL_WrongCount => k_is)
    (case xR_WrongCount => decide +kernel)
    (case sa_WrongCount => k_is)
    (case eC_WrongCount => k_is)
    (case tC_WrongCount => k_is)
    (case kc_WrongCount => k_is)
    (case nw_WrongCount => k_is)
    (case ii_WrongCount => k_is)
    (case ga_WrongCount => k_is)
    (case gg_WrongCount => k_is)
    (case hd_WrongCount => k_is)
    (case ha_WrongCount => k_is)
    (case hm_WrongCount => k_is)
    (case xL_Unbalanced => k_is)
    (case xR_Unbalanced => decide +kernel)
    (case sa_Unbalanced => k_is)
    (case eC_Unbalanced => k_is)
    (case tC_Unbalanced => k_is)
    (case kc_Unbalanced => k_is)
    (case nw_Unbalanced => k_is)
    (case ii_Unbalanced => k_is)
    (case ga_Unbalanced => k_is)
    (case gg_Unbalanced => k_is)
    (case hd_Unbalanced => k_is)
    (case ha_Unbalanced => k_is)
    (case hm_Unbalanced => k_is)
    (case xL_TooLarge => k_is)
    (case xR_TooLarge => decide +kernel)
    (case sa_TooLarge => k_is)
    (case eC_TooLarge => k_is)
    (case tC_TooLarge => k_is)
    (case kc_TooLarge => k_is)
    (case nw_TooLarge => k_is)
    (case ii_TooLarge => k_is)
    (case ga_TooLarge => k_is)
    (case gg_TooLarge => k_is)
    (case hd_TooLarge => k_is)
    (case ha_TooLarge => k_is)
    (case hm_TooLarge => k_is)
    (case xL_BadChoice => k_is)
    (case xR_BadChoice => decide +kernel)
    (case sa_BadChoice => k_is)
    (case eC_BadChoice => k_is)
    (case tC_BadChoice => k_is)
    (case kc_BadChoice => k_is)
    (case nw_BadChoice => k_is)
    (case ii_BadChoice => k_is)
    (case ga_BadChoice => k_is)
    (case gg_BadChoice => k_is)
    (case hd_BadChoice => k_is)
    (case ha_BadChoice => k_is)
    (case hm_BadChoice => k_is)
    (case xL_Ended => k_is)
    (case xR_Ended => decide +kernel)
    (case sa_Ended => k_is)
    (case eC_Ended => k_is)
    (case tC_Ended => k_is)
    (case kc_Ended => k_is)
    (case nw_Ended => k_is)
    (case ii_Ended => k_is)
    (case ga_Ended => k_is)
    (case gg_Ended => k_is)
    (case hd_Ended => k_is)
    (case ha_Ended => k_is)
    (case hm_Ended => k_is)
    (case xL_NoPlace => k_is)
    (case xR_NoPlace => decide +kernel)
    (case sa_NoPlace => k_is)
    (case eC_NoPlace => k_is)
    (case tC_NoPlace => k_is)
    (case kc_NoPlace => k_is)
    (case nw_NoPlace => k_is)
    (case ii_NoPlace => k_is)
    (case ga_NoPlace => k_is)
    (case gg_NoPlace => k_is)
    (case hd_NoPlace => k_is)
    (case ha_NoPlace => k_is)
    (case hm_NoPlace => k_is)
    (case xL_NoValue => k_is)
    (case xR_NoValue => decide +kernel)
    (case sa_NoValue => k_is)
    (case eC_NoValue => k_is)
    (case tC_NoValue => k_is)
    (case kc_NoValue => k_is)
    (case nw_NoValue => k_is)
    (case ii_NoValue => k_is)
    (case ga_NoValue => k_is)
    (case gg_NoValue => k_is)
    (case hd_NoValue => k_is)
    (case ha_NoValue => k_is)
    (case hm_NoValue => k_is)
    (case xL_NeverTogether => k_is)
    (case xR_NeverTogether => decide +kernel)
    (case sa_NeverTogether => k_is)
    (case eC_NeverTogether => k_is)
    (case tC_NeverTogether => k_is)
    (case kc_NeverTogether => k_is)
    (case nw_NeverTogether => k_is)
    (case ii_NeverTogether => k_is)
    (case ga_NeverTogether => k_is)
    (case gg_NeverTogether => k_is)
    (case hd_NeverTogether => k_is)
    (case ha_NeverTogether => k_is)
    (case hm_NeverTogether => k_is)
    (case xL_NoFact => k_is)
    (case xR_NoFact => decide +kernel)
    (case sa_NoFact => k_is)
    (case eC_NoFact => k_is)
    (case tC_NoFact => k_is)
    (case kc_NoFact => k_is)
    (case nw_NoFact => k_is)
    (case ii_NoFact => k_is)
    (case ga_NoFact => k_is)
    (case gg_NoFact => k_is)
    (case hd_NoFact => k_is)
    (case ha_NoFact => k_is)
    (case hm_NoFact => k_is)
    (case xL_NoWay => k_is)
    (case xR_NoWay => decide +kernel)
    (case sa_NoWay => k_is)
    (case eC_NoWay => k_is)
    (case tC_NoWay => k_is)
    (case kc_NoWay => k_is)
    (case nw_NoWay => k_is)
    (case ii_NoWay => k_is)
    (case ga_NoWay => k_is)
    (case gg_NoWay => k_is)
    (case hd_NoWay => k_is)
    (case ha_NoWay => k_is)
    (case hm_NoWay => k_is)
    (case xL_NotLoose => k_is)
    (case xR_NotLoose => decide +kernel)
    (case sa_NotLoose => k_is)
    (case eC_NotLoose => k_is)
    (case tC_NotLoose => k_is)
    (case kc_NotLoose => k_is)
    (case nw_NotLoose => k_is)
    (case ii_NotLoose => k_is)
    (case ga_NotLoose => k_is)
    (case gg_NotLoose => k_is)
    (case hd_NotLoose => k_is)
    (case ha_NotLoose => k_is)
    (case hm_NotLoose => k_is)
    (case xL_NoMend => k_is)
    (case xR_NoMend => decide +kernel)
    (case sa_NoMend => k_is)
    (case eC_NoMend => k_is)
    (case tC_NoMend => k_is)
    (case kc_NoMend => k_is)
    (case nw_NoMend => k_is)
    (case ii_NoMend => k_is)
    (case ga_NoMend => k_is)
    (case gg_NoMend => k_is)
    (case hd_NoMend => k_is)
    (case ha_NoMend => k_is)
    (case hm_NoMend => k_is)
    (case xL_OtherOuts => k_is)
    (case xR_OtherOuts => decide +kernel)
    (case sa_OtherOuts => k_is)
    (case eC_OtherOuts => k_is)
    (case tC_OtherOuts => k_is)
    (case kc_OtherOuts => k_is)
    (case nw_OtherOuts => k_is)
    (case ii_OtherOuts => k_is)
    (case ga_OtherOuts => k_is)
    (case gg_OtherOuts => k_is)
    (case hd_OtherOuts => k_is)
    (case ha_OtherOuts => k_is)
    (case hm_OtherOuts => k_is)
    (case xL_DeadLook => k_is)
    (case xR_DeadLook => decide +kernel)
    (case sa_DeadLook => k_is)
    (case eC_DeadLook => k_is)
    (case tC_DeadLook => k_is)
    (case kc_DeadLook => k_is)
    (case nw_DeadLook => k_is)
    (case ii_DeadLook => k_is)
    (case ga_DeadLook => k_is)
    (case gg_DeadLook => k_is)
    (case hd_DeadLook => k_is)
    (case ha_DeadLook => k_is)
    (case hm_DeadLook => k_is)
    (case xL_LivesError => k_is)
    (case xR_LivesError => decide +kernel)
    (case sa_LivesError => k_is)
    (case eC_LivesError => k_is)
    (case tC_LivesError => k_is)
    (case kc_LivesError => k_is)
    (case nw_LivesError => k_is)
    (case ii_LivesError => k_is)
    (case ga_LivesError => k_is)
    (case gg_LivesError => k_is)
    (case hd_LivesError => k_is)
    (case ha_LivesError => k_is)
    (case hm_LivesError => k_is)
    (case hnO => k_is)
    (case htO => k_is)
    (case fa_kk => kernel_rfl)
    (case fa_kl => kernel_rfl)
    (case fa_nr => k_is)
    (case fa_mD => k_is)
    (case fa_sD => ks_is)
    (case fa_fL => k_is)
