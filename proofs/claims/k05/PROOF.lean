import PyProof.Rows.All
import Wide.All
import OpenK.AllK
import Wide.FinOn
import HandS.ForMost
import HandS.Walk
import HandS.Evl
import HandS.IsInst
import HandS.Exc
import HandS.TryOnly
import HandS.ExcOwn
import HandS.ExcInit
import HandS.ExcField
import HandS.WordsExc
import HandS.Defaults
import HandS.MakeKw
import HandS.MakeKwOnly
import HandS.Property
import KE.KExcIs
import HandS.ClsMeth
import HandS.Star
import OpenK.KMeth
import OpenK.KOps
import HandS.IterVal
import HandS.OwnIter
import HandS.ExcValue
import PyProof.InstNe
import PySem.Challenge.RW_unnamedlives_k05_books_joined
set_option Elab.async false
set_option linter.all false
set_option maxRecDepth 100000
/-! own: a list of draws as ONE unchanging thing of the abstract heap; small words -/
namespace UL
open PySem PySem.Spec PyProof.Rows L2 Evl TL

/-! ### draws -/
def Good (ns : List Int) : Prop := (∀ m ∈ ns, 0 ≤ m ∧ m < 1000003) ∧ ns.length ≤ 4000
def drObj (d : Addr) (h : Heap) : Prop := ∃ (ns : List Int) (its : List Value) (n : Nat), Good ns ∧ Vals (ns.map V.int) its ∧ h.get? d = some { cls := .type "list", data := .seq its.toArray n }
def DrO (d : Addr) : HO := .ext (drObj d)
theorem good_sz {ns : List Int} (g : Good ns) : (ns.map V.int).length ≤ sizeLine := by
  rw [List.length_map]
  exact Nat.le_trans g.2 (by decide)
section
variable {X : Cx} {pins : List (Addr × Obj)} {σ : L2.St} {H : Hp} {s : Shared} {d : Addr}
theorem inv_open (I : Inv X pins σ H s) (h : H d = some (DrO d)) : ∃ ns, Good ns ∧ Inv X pins σ (upd H d (.lst (ns.map V.int))) s := by
  obtain ⟨⟨ns, its, n, g, r, e⟩, _, _⟩ := I.hok d _ h
  exact ⟨ns, g, I.write (x := d) (e := d) (h' := s.heap) (t' := s.toks) (by rw [h]; trivial) (.inl rfl) (fun _ _ _ q => q) ⟨_, e⟩ ⟨good_sz g, its, n, r, e⟩⟩
theorem inv_close {ns : List Int} (I : Inv X pins σ H s) (h : H d = some (.lst (ns.map V.int))) (g : Good ns) : Inv X pins σ (upd H d (DrO d)) s := by
  obtain ⟨z, its, n, r, e⟩ := I.hok d _ h
  exact I.write (x := d) (e := d) (h' := s.heap) (t' := s.toks) (by rw [h]; trivial) (.inl rfl) (fun _ _ _ q => q) ⟨_, e⟩
    ⟨⟨ns, its, n, g, r, e⟩, ⟨_, e⟩, fun h1 h2 ⟨ns', its', n', g', r', e'⟩ k => ⟨ns', its', n', g', r', k _ e'⟩⟩
/-- the list of draws in slot i is opened ahead of the statements -/
def tOpen (i : Nat) (t : TS) : TS := fun D σ H => ∃ d, σ[i]? = some (some (.ref d)) ∧ H d = some (DrO d) ∧ ∀ ns, Good ns → t D σ (upd H d (.lst (ns.map V.int)))
theorem pss_open (i : Nat) {sts : List Stmt} {t : TS} (h : PSs X sts t) : PSs X sts (tOpen i t) := by
  refine ⟨fun pins s σ H D I q => ?_⟩
  obtain ⟨d, _, hd, k⟩ := q
  obtain ⟨ns, g, J⟩ := inv_open I hd
  exact h.run pins s σ _ D J (k ns g)
/-- .. and closed behind an expression -/
def tClose (t : TE) : TE := fun σ H Q => t σ H fun v H1 => ∃ d ns, H1 d = some (.lst (ns.map V.int)) ∧ Good ns ∧ Q v (upd H1 d (DrO d))
theorem pe_close {e : Expr} {t : TE} (h : PE X e t) : PE X e (tClose t) := by
  refine ⟨fun pins s σ H Q I q => ?_⟩
  refine thn (h.run pins s σ H _ I q) fun u s1 ⟨v, H1, I1, r, d, ns, hd, g, k⟩ => ?_
  exact ⟨v, _, inv_close I1 hd g, r, k⟩
end
theorem upd_back {H : Hp} {d : Addr} {o u : HO} (h : H d = some o) : upd (upd H d u) d o = H := by
  funext b
  unfold upd
  by_cases e : b = d
  · rw [if_pos e, e, h]
  · rw [if_neg e, if_neg e]
theorem upd_id {H : Hp} {d : Addr} {o : HO} (h : H d = some o) : upd H d o = H := by
  funext b
  unfold upd
  by_cases e : b = d
  · rw [if_pos e, e, h]
  · rw [if_neg e]
theorem same_upd {H : Hp} {p : Addr} {o : HO} (h : H p = none) : Same H (upd H p o) := fun b x e => by
  rw [upd_ne (ne_of_none e h)]
  exact e
theorem _root_.Evl.Ex.free' {H H' : Hp} {p : Addr} (e : Ex H H') (h : H' p = none) : H p = none := fresh_back e h
theorem good_tail {n : Int} {ns : List Int} (g : Good (n :: ns)) : 0 ≤ n ∧ n < 1000003 ∧ Good ns :=
  ⟨(g.1 n List.mem_cons_self).1, (g.1 n List.mem_cons_self).2, fun m hm => g.1 m (List.mem_cons_of_mem _ hm), Nat.le_trans (Nat.le_succ _) g.2⟩
theorem good_nil : Good [] := ⟨fun _ h => (nomatch h), by decide⟩
theorem good_add {ns : List Int} {n : Int} (g : ∀ m ∈ ns, 0 ≤ m ∧ m < 1000003) (h : 0 ≤ n ∧ n < 1000003) : ∀ m ∈ ns ++ [n], 0 ≤ m ∧ m < 1000003 := fun m hm => by
  rcases List.mem_append.mp hm with h1 | h1
  · exact g m h1
  · rw [List.mem_singleton.mp h1]
    exact h

/-! ### text * int -/
theorem op_mul_str {X : Cx} : OpR X (binaryOp .Mult) (fun x y H Q => ∃ (z : Str) (n : Int), x = .str z ∧ y = .int n ∧ MulOk z n ∧ Q (.str (Txt.mul z n)) H) := by
  intro pins s σ H x y v u Q I rx ry h
  obtain ⟨i, j, rfl, rfl, hz, q⟩ := h
  obtain ⟨t, rfl⟩ := rx
  obtain ⟨t', rfl⟩ := ry
  exact SB.mul hz (fun t' tk => ⟨.str (Txt.mul i j), H, I.tok _, ⟨_, rfl⟩, q⟩)
theorem mulOk_small {z : Str} {n : Int} (hz : z.length ≤ 64) (h0 : 0 ≤ n) (h1 : n ≤ 64) : MulOk z n := by
  refine ⟨?_, fun h2 _ => ?_, fun _ _ => ?_⟩
  · rw [decide_eq_false (by omega), decide_eq_false (by omega)]
    rfl
  · intro h
    have h3 : (64 : Int) ≤ (2 ^ 63 - 1) / n := (Int.le_ediv_iff_mul_le (by omega)).mpr (by omega)
    omega
  · unfold PySem.Builtin.Str.tooLong
    refine decide_eq_false ?_
    have h3 : z.length * n.toNat ≤ 64 * 64 := Nat.mul_le_mul hz (by omega)
    have h4 : (64 * 64 : Nat) ≤ sizeLine := by decide
    omega
theorem tl_reps (x : Array Nat) : ∀ (k : Nat) (a : Array Nat), ((List.replicate k x).foldl (· ++ ·) a).toList = a.toList ++ (List.replicate k x.toList).flatten
  | 0, a => by simp
  | k + 1, a => by
    rw [List.replicate_succ, List.foldl_cons, tl_reps x k (a ++ x), List.replicate_succ, List.flatten_cons, Array.toList_append, List.append_assoc]
theorem tl_mul (z : Str) (n : Int) : tl (Txt.mul z n) = (List.replicate n.toNat (tl z)).flatten := by
  unfold Txt.mul
  by_cases h1 : n < 1
  · rw [if_pos h1, show n.toNat = 0 by omega]
    rfl
  · rw [if_neg h1]
    by_cases h2 : (n == 1 || z.length == 0) = true
    · rw [if_pos h2]
      rcases Bool.or_eq_true _ _ ▸ h2 with h3 | h3
      · have : n = 1 := by simpa using h3
        subst this
        show tl z = (List.replicate 1 (tl z)).flatten
        simp
      · have h4 : (tl z) = [] := by
          have : z.length = 0 := by simpa using h3
          rw [len_tl] at this
          exact List.eq_nil_of_length_eq_zero this
        rw [h4]
        simp
    · rw [if_neg h2]
      show ((List.replicate n.toNat z.cps).foldl (· ++ ·) #[]).toList = _
      rw [tl_reps]
      rfl

theorem rel_of {x : V} {u : Value} (h : absV u = some x) : RelV x u := by
  cases u <;> first | (cases h; done) | (cases h; exact rfl) | (cases h; exact ⟨_, rfl⟩)
theorem vals_of : ∀ {xs : List V} {us : List Value}, us.map absV = xs.map some → Vals xs us
  | [], [], _ => .nil
  | [], _ :: _, h => (nomatch h)
  | _ :: _, [], h => (nomatch h)
  | x :: xs, u :: us, h => by
    rw [List.map_cons, List.map_cons] at h
    exact .cons (rel_of (List.cons.inj h).1) (vals_of (List.cons.inj h).2)
theorem dp_strs {K : PySem.W.Frag} {H : Hp} : ∀ zs : List Str, DpAll K H (zs.map V.str) (zs.map PyData.str)
  | [] => .nil
  | z :: r => .cons (.str z) (dp_strs r)
/-! ### loops -/
section
variable {D : Ends} {tb : TS} {j : Nat} {σ : L2.St} {H : Hp}
theorem forR1 {n : Int} (hn : -(2 ^ 62) ≤ n ∧ n < 2 ^ 62) (Pv : Nat → L2.St → Hp → Prop) (h0 : Pv 0 σ H)
    (hs : ∀ (i : Nat) σ' H', (i : Int) < n → Pv i σ' H' → tb { D with nx := Pv (i + 1), ct := Pv (i + 1), bk := D.nx } (σ'.set j (some (.int (i : Int)))) H') (hd : ∀ σ' H', Pv n.toNat σ' H' → D.nx σ' H') :
    -(2 ^ 62) ≤ n ∧ n < 2 ^ 62 ∧ ∃ W : Nat → Nat → L2.St → Hp → Prop, (∃ m, W 0 m σ H) ∧ ∀ i m σ H, W i m σ H →
      ((Itr 0 n.toNat).stop i H ∧ D.nx σ H) ∨ ((Itr 0 n.toNat).go i H ∧ ∃ N : L2.St → Hp → Prop, (∀ σ' H', N σ' H' → ∃ m', m' < m ∧ W (i + 1) m' σ' H') ∧ ∀ x H', (Itr 0 n.toNat).yld i H x H' → gName j x σ H' fun σ2 H2 => tb { D with nx := N, ct := N, bk := D.nx } σ2 H2) :=
  ⟨hn.1, hn.2, for_range (lo := 0) (n := n.toNat) Pv h0 (fun i σ' H' hi p => by
    have e0 : (0 : Int) + (i : Int) = (i : Int) := Int.zero_add _
    show tb { D with nx := Pv (i + 1), ct := Pv (i + 1), bk := D.nx } (σ'.set j (some (.int ((0 : Int) + (i : Int))))) H'
    rw [e0]
    exact hs i σ' H' (by omega) p) hd⟩
end
theorem seq0 (n : Nat) : seqIndex? 0 (n + 1) = some 0 := by
  unfold seqIndex?
  have h : (0 : Int) < ((n + 1 : Nat) : Int) := by omega
  have h2 : (0 ≤ (0 : Int) && decide ((0 : Int) < ((n + 1 : Nat) : Int))) = true := by
    rw [decide_eq_true h]
    rfl
  show (if (0 ≤ (0 : Int) && decide ((0 : Int) < ((n + 1 : Nat) : Int))) = true then some (0 : Int).toNat else none) = some 0
  rw [if_pos h2]
  rfl
theorem at_lt {α : Type} {xs : List α} {n : Int} (h0 : 0 ≤ n) (h1 : n < (xs.length : Int)) : ∃ c, atI xs n = some c := by
  obtain ⟨m, rfl⟩ := Int.eq_ofNat_of_zero_le h0
  have hm : m < xs.length := by omega
  exact ⟨xs[m], atI_nat (List.getElem?_eq_getElem hm)⟩
theorem at_in {α : Type} {xs : List α} {n : Int} (h0 : 0 ≤ n) (h1 : n < (xs.length : Int)) : ∃ c, atI xs n = some c ∧ c ∈ xs := by
  obtain ⟨m, rfl⟩ := Int.eq_ofNat_of_zero_le h0
  have hm : m < xs.length := by omega
  exact ⟨xs[m], atI_nat (List.getElem?_eq_getElem hm), List.getElem_mem hm⟩
theorem emod_in {a : Int} : 0 ≤ a % 1000003 ∧ a % 1000003 < 1000003 := ⟨Int.emod_nonneg _ (by decide), Int.emod_lt_of_pos _ (by decide)⟩
theorem int_get {ns : List Int} {i : Nat} (h : i < ns.length) : (ns.map V.int)[i]? = some (.int ns[i]) := by
  rw [List.getElem?_map, List.getElem?_eq_getElem h]
  rfl
/-! ### comprehensions over a text -/
theorem lc_str {z : Str} {f : Nat → V} {j : Nat} {te : TE} {vs : List Nat} {σ : L2.St} {H1 : Hp} {D : Addr} {Qd : Hp → Prop} (hz : z.length ≤ 100000) (hD : H1 D = none) (hw : ∀ x, wipe ((wipe σ vs).set j (some x)) vs = wipe σ vs)
    (he : ∀ (c : Nat) H', Ex H1 H' → ∀ Q : VK, Q (f c) H' → te ((wipe σ vs).set j (some (.str ⟨#[c]⟩))) H' Q) (hd : Qd (upd H1 D (.lst ((tl z).map f)))) :
    ∃ W : Nat → Nat → Hp → Prop, (∃ m, W 0 m (upd H1 D (.lst []))) ∧ ∀ i m H, W i m H →
      ((Its z).stop i H ∧ Qd H) ∨ ((Its z).go i H ∧ ∃ Nx : Hp → Prop, (∀ H', Nx H' → ∃ m', m' < m ∧ W (i + 1) m' H') ∧ ∀ x H', (Its z).yld i H x H' → gName j x (wipe σ vs) H' fun σ2 H2 => wipe σ2 vs = wipe σ vs ∧ tYes σ2 H2 fun b H3 =>
        if b = true then te σ2 H3 fun y H4 => ∃ acc, H4 D = some (.lst acc) ∧ acc.length < sizeLine ∧ Nx (upd H4 D (.lst (acc ++ [y]))) else Nx H3) := by
  refine lc_it walk_str (fun i H' => H' = upd H1 D (.lst (((tl z).take i).map f))) rfl (fun _ _ _ _ => trivial) ?_ ?_
  · rintro i x H H' hi rfl ⟨rfl, c, hc, rfl⟩
    refine ⟨hw _, ?_⟩
    show te _ _ _
    refine he c _ (Ex.new hD) _ ?_
    have hc' : (tl z)[i]? = some c := by rw [← hc]; exact Array.getElem?_toList
    refine ⟨_, upd_same, ?_, ?_⟩
    · rw [List.length_map, List.length_take]
      exact sz_lt (by have := len_tl z; have hs : i < z.length := hi; omega)
    · rw [upd_upd, List.take_add_one, hc', List.map_append]
      rfl
  · rintro H rfl
    have e : (tl z).take z.cps.size = tl z := List.take_of_length_le (by rw [← len_tl]; exact Nat.le_refl _)
    rw [e]
    exact hd
theorem for_str {z : Str} {j : Nat} {tb : TS} {D : Ends} {σ : L2.St} {H : Hp} (Pv : Nat → L2.St → Hp → Prop) (h0 : Pv 0 σ H)
    (hs : ∀ i c σ' H', (tl z)[i]? = some c → Pv i σ' H' → tb { D with nx := Pv (i + 1), ct := Pv (i + 1), bk := D.nx } (σ'.set j (some (.str ⟨#[c]⟩))) H') (hd : ∀ σ' H', Pv (tl z).length σ' H' → D.nx σ' H') :
    ∃ W : Nat → Nat → L2.St → Hp → Prop, (∃ m, W 0 m σ H) ∧ ∀ i m σ H, W i m σ H →
      ((Its z).stop i H ∧ D.nx σ H) ∨ ((Its z).go i H ∧ ∃ N : L2.St → Hp → Prop, (∀ σ' H', N σ' H' → ∃ m', m' < m ∧ W (i + 1) m' σ' H') ∧ ∀ x H', (Its z).yld i H x H' → gName j x σ H' fun σ2 H2 => tb { D with nx := N, ct := N, bk := D.nx } σ2 H2) := by
  refine for_it walk_str Pv h0 (fun _ _ _ _ _ => trivial) ?_ ?_
  · rintro i x σ' H1 H2 hi p ⟨rfl, c, hc, rfl⟩
    exact hs i c σ' _ (by rw [← hc]; exact Array.getElem?_toList) p
  · intro σ' H' p
    exact hd σ' H' p
/-- [te for _ in range(n)]: things of a kind that stays true, also when a list is written -/
theorem lc_n {G : Hp → V → Prop} {n : Int} {j : Nat} {te : TE} {vs : List Nat} {σ : L2.St} {H1 : Hp} {D : Addr} {Qd : Hp → Prop} (hn : 0 ≤ n ∧ n ≤ 100000) (hD : H1 D = none) (hG : ∀ H H' v, Ex H H' → G H v → G H' v)
    (hG2 : ∀ H xs ys v, H D = some (.lst xs) → G H v → G (upd H D (.lst ys)) v) (hw : ∀ x, wipe ((wipe σ vs).set j (some x)) vs = wipe σ vs)
    (he : ∀ (i : Nat) H', (i : Int) < n → Ex H1 H' → ∀ Q : VK, (∀ v H2, Ex H' H2 → G H2 v → Q v H2) → te ((wipe σ vs).set j (some (.int (i : Int)))) H' Q) (hd : ∀ H' xs, Ex H1 H' → H' D = some (.lst xs) → (xs.length : Int) = n → (∀ x ∈ xs, G H' x) → Qd H') :
    ∃ W : Nat → Nat → Hp → Prop, (∃ m, W 0 m (upd H1 D (.lst []))) ∧ ∀ i m H, W i m H →
      ((Itr 0 n.toNat).stop i H ∧ Qd H) ∨ ((Itr 0 n.toNat).go i H ∧ ∃ Nx : Hp → Prop, (∀ H', Nx H' → ∃ m', m' < m ∧ W (i + 1) m' H') ∧ ∀ x H', (Itr 0 n.toNat).yld i H x H' → gName j x (wipe σ vs) H' fun σ2 H2 => wipe σ2 vs = wipe σ vs ∧ tYes σ2 H2 fun b H3 =>
        if b = true then te σ2 H3 fun y H4 => ∃ acc, H4 D = some (.lst acc) ∧ acc.length < sizeLine ∧ Nx (upd H4 D (.lst (acc ++ [y]))) else Nx H3) := by
  refine lc_range (lo := 0) (n := n.toNat) (fun i H' => ∃ xs : List V, Ex H1 H' ∧ H' D = some (.lst xs) ∧ xs.length = i ∧ ∀ x ∈ xs, G H' x) ⟨[], Ex.new hD, upd_same, rfl, fun _ h => (nomatch h)⟩ ?_ ?_
  · rintro i H' hi ⟨xs, e1, hL, hl, hx⟩
    have e0 : (0 : Int) + (i : Int) = (i : Int) := Int.zero_add _
    show wipe ((wipe σ vs).set j (some (.int ((0 : Int) + (i : Int))))) vs = wipe σ vs ∧ _
    refine ⟨hw _, ?_⟩
    show te ((wipe σ vs).set j (some (.int ((0 : Int) + (i : Int))))) _ _
    rw [e0]
    refine he i H' (by omega) e1 _ fun v H2 e2 g => ⟨xs, e2 _ _ hL, sz_lt (by omega), xs ++ [v], (e1.trans e2).mut hD, upd_same, by rw [List.length_append, hl]; rfl, fun x hm => ?_⟩
    rcases List.mem_append.mp hm with h | h
    · exact hG2 _ _ _ _ (e2 _ _ hL) (hG _ _ _ e2 (hx x h))
    · rw [List.mem_singleton.mp h]
      exact hG2 _ _ _ _ (e2 _ _ hL) g
  · rintro H' ⟨xs, e1, hL, hl, hx⟩
    exact hd H' xs e1 hL (by omega) hx
end UL

set_option Elab.async false
set_option linter.all false
set_option maxRecDepth 100000
/-! own: one of two readings; objects made with keywords where an error may leave; own ==; isinstance of an error that has a dict -/
namespace UL
open PySem PySem.Spec PyProof.Rows L2 Evl TL

/-! ### one of two readings -/
section
variable {X : Cx} {e : Expr} {t1 t2 : TE} {op : CmpOp} {tg iter : Expr} {w1 w2 : TI}
def tAlt (t1 t2 : TE) : TE := fun σ H Q => t1 σ H Q ∨ t2 σ H Q
theorem pe_alt (h1 : PE X e t1) (h2 : PE X e t2) : PE X e (tAlt t1 t2) :=
  ⟨fun pins s σ H Q I h => h.elim (fun q => h1.run pins s σ H Q I q) (fun q => h2.run pins s σ H Q I q)⟩
def iAlt (w1 w2 : TI) : TI := fun σ H R => w1 σ H R ∨ w2 σ H R
theorem pi_alt (h1 : PI X tg iter w1) (h2 : PI X tg iter w2) : PI X tg iter (iAlt w1 w2) :=
  ⟨fun pins s σ H R I h => h.elim (fun q => h1.run pins s σ H R I q) (fun q => h2.run pins s σ H R I q)⟩
def rAlt (r1 r2 : R2) : R2 := fun x y H Q => r1 x y H Q ∨ r2 x y H Q
theorem op_alt {f : Value → Value → Sem Value} {r1 r2 : R2} (h1 : OpR X f r1) (h2 : OpR X f r2) : OpR X f (rAlt r1 r2) :=
  fun pins s σ H x y v u Q I rx ry h => h.elim (fun q => h1 pins s σ H x y v u Q I rx ry q) (fun q => h2 pins s σ H x y v u Q I rx ry q)
def cAlt (r1 r2 : List V → Hp → VK → Prop) : List V → Hp → VK → Prop := fun xs H Q => r1 xs H Q ∨ r2 xs H Q
theorem call_alt {f : Value} {r1 r2 : List V → Hp → VK → Prop} (h1 : CallR X f r1) (h2 : CallR X f r2) : CallR X f (cAlt r1 r2) :=
  fun pins s σ H xs us Q I r h => h.elim (fun q => h1 pins s σ H xs us Q I r q) (fun q => h2 pins s σ H xs us Q I r q)
end

/-! ### C(e, .., k = v, ..) where what is raised is wished for at the caller's slots -/
def tMakeS (C : Addr) (n m : Nat) (sp : Sp) (gV : List V → List V → List V) (E : L2.St → XK) (t tk : TA) : TE := fun σ H Q => t σ H fun vs H1 => tk σ H1 fun zs H2 => vs.length = n ∧ zs.length = m ∧
  ∀ x dx, H2 x = none → H2 dx = none → dx ≠ x → sp (gV (.ref x :: vs) zs) (upd (upd H2 dx (.own x)) x (.ins C dx [])) (fun v H3 => v = .non ∧ Q (.ref x) H3) (E σ)
section
variable {X : Cx} {CX : CXT} {k n : Nat} {f C : Addr} {fd : FuncData} {ps ks : List Str} {sp : Sp} {E : L2.St → XK} {x : Str} {p pos : Pos} {e : Expr} {es : List Expr} {kws : List Keyword} {t tk : TA} {g : List Value → List Value → List Value} {gV : List V → List V → List V}
theorem mk_run {pins : List (Addr × Obj)} {σ : L2.St} {H : Hp} {s : Shared} {Q : VK} {us ws : List Value} {vs zs : List V} (M : Mk X.K C f) (F : FnOk X.prog X.w X.K X.mg X.base CX k f fd ps sp) (hr : Room (k + 1) X.A)
    (hb : KBn X.K fd ps (n + 1) ks g gV) (hx : PassesAt CX X σ (E σ)) (I : Inv X pins σ H s) (r : Vals vs us) (rz : Vals zs ws) (l1 : vs.length = n) (l2 : zs.length = ks.length)
    (h : ∀ x dx, H x = none → H dx = none → dx ≠ x → sp (gV (.ref x :: vs) zs) (upd (upd H dx (.own x)) x (.ins C dx [])) (fun v H2 => v = .non ∧ Q (.ref x) H2) (E σ)) :
    wpAny (model X.prog X.w) X.A (call (.ref C) us (ks.zip ws)) (EP X pins σ Q) X.xe s := by
  let sz := s.heap.objs.size
  have J := Inv.made (C := C) I
  have q0 := h (sz + 1) sz (I.hok.fresh (Nat.le_succ _)) (I.hok.fresh (Nat.le_refl _)) (Nat.ne_of_lt (Nat.lt_succ_self _))
  have ra : Vals (V.ref (sz + 1) :: vs) (Value.ref (sz + 1) :: us) := .cons rfl r
  have na : (Value.ref (sz + 1) :: us).length = n + 1 := by rw [← ra.length, List.length_cons, l1]
  have run := F.run _ X.stack _ _ ⟨Value.ref (sz + 1) :: us, ks.zip ws⟩ (g (Value.ref (sz + 1) :: us) ws) _ _ (E σ) (hr.make C us (ks.zip ws)) (J.env0.make C us (ks.zip ws)) (hb.to _ (Value.ref (sz + 1) :: us) ws J.kIn na (rz.length.symm.trans l2)) (hb.rel ra rz) q0
  refine wpAny_call (make_map (f := f) I.kIn M.makes M.init (beq_iff_eq.mp M.fn) (codeAny_mono run fun rr s' z => ?_))
  match rr, z with
  | .error er, z => exact hx pins _ _ er s' J z
  | .ok (.ret u), z =>
    obtain ⟨v, H', J', rv, ev, q⟩ := J.after z
    subst ev
    exact ⟨rv, ⟨V.ref (sz + 1), H', J', rfl, q⟩⟩
  | .ok .next, z => exact False.elim z
  | .ok .brk, z => exact False.elim z
  | .ok .cont, z => exact False.elim z
theorem pe_makeS (M : Mk X.K C f) (F : FnOk X.prog X.w X.K X.mg X.base CX k f fd ps sp) (hr : Room (k + 1) X.A) (hg : Gl X x) (hm : X.mg x = some (.ref C)) (hb : KBn X.K fd ps (n + 1) ks g gV) (hx : ∀ σ, PassesAt CX X σ (E σ)) (ha : PA X (e :: es) t) (hkw : PK X kws tk)
    (a1 : (backToKw pos (keywordEach kws X.env)).all (·.1.isSome) = true := by rfl) (a2 : (backToKw pos (keywordEach kws X.env)).filterMap (·.1) = ks := by rfl) (a3 : (x == ("__debug__" : Str)) = false := by decide)
    (a4 : starEach (e :: es) X.env = (false, eval e X.env) :: starEach es X.env := by rfl) (a5 : ((backTo pos (starEach (e :: es) X.env)).any (·.1) || (backToKw pos (keywordEach kws X.env)).any (·.1.isNone)) = false := by rfl) :
    PE X (.Call (.Name x p) (e :: es) kws pos) (tMakeS C n ks.length sp gV E t tk) := by
  refine ⟨fun pins s σ H Q I h => wpAny_Call_Name_kw (ld_glob I hg hm ?_ a3)⟩
  refine PySem.W.callWith_KW (h₀ := X.base) I.ok.mod.kin M.kp a1 (thn (ha.run pos pins s σ H _ I h) fun us s1 hh => ?_) a5 a4
  obtain ⟨vs, H1, I1, r, q⟩ := hh
  refine thn (hkw.run pos pins s1 σ H1 _ I1 q) fun ws s2 hh => ?_
  obtain ⟨zs, H2, I2, rz, l1, l2, q2⟩ := hh
  exact ⟨I2.kIn, by rw [a2]; exact mk_run M F hr hb (hx σ) I2 r rz l1 l2 q2⟩
end
/-- what leaves a call is wished for wherever the slots stand -/
theorem passAny {X : Cx} {W : WX} (tk : Takes X W) : ∀ σ, PassesAt (L2.CX X.prog X.w) X σ (WE W σ) := fun σ => passAt tk σ
/-- .. in a def that lets it out: the wish E is the caller's -/
theorem passOut {X : Cx} {E : XK} (tk : Takes X fun cls d _ H => E cls d H) : ∀ σ, PassesAt (L2.CX X.prog X.w) X σ E := fun σ => passAt tk σ

/-! ### own == -/
/-- what may stand on the right of an own ==: of its class, or of a type beside it -/
def RSide (K : PySem.W.Frag) (C : Addr) (y : V) (H : Hp) : Prop := (∃ b dy gs, y = .ref b ∧ H b = some (.ins C dy gs)) ∨ (∃ z, y = .str z ∧ PySem.W.subIn K (.type "str") (.ref C) = some false) ∨ ∃ b ys, y = .ref b ∧ H b = some (.tup ys) ∧ PySem.W.subIn K (.type "tuple") (.ref C) = some false
def rOwnEq (K : PySem.W.Frag) (C : Addr) (sp : Sp) (E : XK) : R2 := fun x y H Q => ∃ a dx fs, x = .ref a ∧ H a = some (.ins C dx fs) ∧ RSide K C y H ∧ sp [.ref a, y] H (fun v H' => (∃ b, v = .bl b) ∧ Q v H') E
section
variable {X : Cx} {CX : CXT} {k : Nat} {f C : Addr} {fd : FuncData} {ps : List Str} {sp : Sp} {E : XK}
theorem op_ownEq (F : FnOk X.prog X.w X.K X.mg X.base CX k f fd ps sp) (hr : Room k X.A) (hs : PySem.W.findIn X.K (.ref C) "__eq__" = some (some (.ref f))) (hf : PySem.W.isFn X.K (.ref f) = true) (hb : L2.Binds X.K fd ps []) (hx : Passes CX X E) :
    OpR X (compareOp .Eq) (rOwnEq X.K C sp E) := by
  intro pins s σ H x y v u Q I rx ry h
  obtain ⟨a, dx, fs, rfl, ha, hy, q⟩ := h
  cases rx
  obtain ⟨mA, J, _⟩ := ins_get I.hok ha
  obtain ⟨od, J, _⟩ := J.look
  obtain ⟨m, hF⟩ := I.fr
  have side : ∃ tb, PySem.W.Looks (model X.prog X.w) s.heap (typeOf u) tb ∧ PySem.W.notFirst X.K C tb = true := by
    rcases hy with ⟨b, dy, gs, rfl, hb2⟩ | ⟨z, rfl, hn⟩ | ⟨b, ys, rfl, hb2, hn⟩
    · cases ry
      obtain ⟨mB, J', _⟩ := ins_get I.hok hb2
      obtain ⟨od', J', _⟩ := J'.look
      exact ⟨_, J'.type, by simp [PySem.W.notFirst]⟩
    · obtain ⟨t, rfl⟩ := ry
      exact ⟨.type "str", .now, by simp [PySem.W.notFirst, hn]⟩
    · cases ry
      obtain ⟨z, its, r, o, hg, hc, n, hd⟩ := I.hok b _ hb2
      exact ⟨.type "tuple", hc ▸ (PySem.W.Looks.ld hg).andThen .now, by simp [PySem.W.notFirst, hn]⟩
  obtain ⟨tb, ty, nf⟩ := side
  show wpAny _ _ (richCompare .Eq (.ref a) u) _ _ _
  refine PySem.W.cmp_K (op := .Eq) (tb := tb) hr.units0 hF I.ok.mod.kin J ty nf hs hf ?_
  have r2 : Vals [V.ref a, y] [Value.ref a, u] := .cons rfl (.cons ry .nil)
  have hl : [Value.ref a, u].length = ps.length := by rw [← r2.length]; exact F.len _ _ _ _ q
  have bd := hb s [Value.ref a, u] I.kIn (by rw [List.append_nil]; exact hl)
  rw [List.append_nil] at bd
  refine wpAny_call (codeAny_mono (F.run X.A X.stack s H ⟨[.ref a, u], []⟩ [.ref a, u] [.ref a, y] _ E hr I.env0 bd r2 q) fun rr s' z => ?_)
  match rr, z with
  | .error er, z => exact hx pins σ H s er s' I z
  | .ok (.ret w), z =>
    obtain ⟨v, H', I', rv, ⟨b, rfl⟩, q'⟩ := I.after z
    cases rv
    exact ⟨V.bl b, H', I', rfl, q'⟩
  | .ok .next, z => exact False.elim z
  | .ok .brk, z => exact False.elim z
  | .ok .cont, z => exact False.elim z
end

/-! ### isinstance of a caught error that has a dict -/
def rIsX (K : PySem.W.Frag) (D a : Addr) (cls : Value) (d : Option Addr) : List V → Hp → VK → Prop := fun xs H Q => ∃ (c : V) (cv : Value) (b : Bool) (dd : Addr) (fs : List (Str × V)), xs = [.ref a, c] ∧ cls = .ref D ∧ (∀ u, RelV c u → u = cv) ∧ d = some dd ∧ H dd = some (.xd fs) ∧ PySem.W.kitOne K (.ref D) cv = some b ∧ Q (.bl b) H
structure ExI (K : PySem.W.Frag) (D : Addr) : Prop where
  c1 : (PySem.W.clsIn K D).isSome = true
  c2 : PySem.W.findIn K (.ref D) "__getattribute__" = some (some (.builtin "BaseException.__getattribute__"))
  c3 : PySem.W.findIn K (.ref D) "__getattr__" = some none
  c4 : PySem.W.subIn K (.ref D) (.type "BaseException") = some true
  c5 : PySem.W.findIn K (.ref D) "__class__" = some (some (.builtin "object.__class__"))
  c6 : PySem.W.specialIn K (.builtin "object.__class__") "__get__" = some (some (.builtin "getset_descriptor.__get__"))
  c7 : PySem.W.takesIn K (.builtin "object.__class__") = some true
  c8 : PySem.W.mroIn K D (.type "object") = some true
theorem call_isX {X : Cx} {a D : Addr} {cls : Value} {d : Option Addr} {oe : Obj} {pn : List (Addr × Obj)} (T : ExI X.K D) (hz : Zc cls d oe) (hf : ∃ vs, oe.data = .fields vs) : CallR (X.suite a ((a, oe) :: pn)) (.builtin "isinstance") (rIsX X.K D a cls d) := by
  intro pins s σ H xs us Q I r h
  obtain ⟨c, cv, b, dd, fs, rfl, rfl, hcv, rfl, hd, ek, q⟩ := h
  obtain ⟨u1, w1, e1, r1, rr1⟩ : ∃ u1 w1, us = [u1, w1] ∧ RelV (.ref a) u1 ∧ RelV c w1 := by
    cases r with
    | cons q1 q2 =>
      cases q2 with
      | cons q3 q4 =>
        cases q4
        exact ⟨_, _, rfl, q1, q3⟩
  subst e1
  cases r1
  have e2 := hcv _ rr1
  subst e2
  obtain ⟨hget, _⟩ := I.pin (a, oe) (List.mem_append.mpr (.inl List.mem_cons_self))
  obtain ⟨vs, hv⟩ := hf
  have hx : ObjOk X.prog X.w H s.heap dd (.xd fs) := I.hok dd _ hd
  obtain ⟨mA, hns, _⟩ := hx
  obtain ⟨od, ho, _⟩ := lookIn_ns hns
  have J : PySem.W.InstAt s.heap a oe D (some od) := ⟨hget, hz.1, by unfold PySem.W.notCls; rw [hv] <;> rfl, by rw [hz.2]; exact ho⟩
  exact PySem.W.kia_one (PySem.W.kitx_exc T.c1 T.c2 T.c3 T.c4 T.c5 T.c6 T.c7 T.c8) I.kIn J ek (fun z => nomatch z) fun tk => ⟨.bl b, H, I.kept (t' := tk) fun _ _ z => z, rfl, q⟩
/-! ### what the written part says of a class -/
structure TyF (K : PySem.W.Frag) (C : Addr) : Prop where
  ha : PySem.W.findIn K (.ref C) "__class__" = some (some (.builtin "object.__class__"))
  hn : PySem.W.specialIn K (.builtin "object.__class__") "__get__" = some (some (.builtin "getset_descriptor.__get__"))
  ht : PySem.W.takesIn K (.builtin "object.__class__") = some true
  hm : PySem.W.mroIn K C (.type "object") = some true
theorem tyx_ins {K : PySem.W.Frag} {H : Hp} {a C dx : Addr} {fs : List (Str × V)} (e : H a = some (.ins C dx fs)) (c : Cls K C) (t : TyF K C) : TyX K H (.ref a) (.ref C) := .base (.ins e c t.ha t.hn t.ht t.hm)
structure ExF (K : PySem.W.Frag) (C I : Addr) : Prop where
  ox : OexC K C
  ii : PySem.W.findIn K (.ref C) "__init__" = some (some (.ref I))
  nw : PySem.W.findIn K (.ref C) "what" = some none
  xf : XfC K C

/-! ### errors that keep what they are made with -/
/-- the promise of the base class's __init__: self.what = what -/
def spWhat (K : PySem.W.Frag) : Sp := fun vs H Q _ => ∃ (a C : Addr) (v : V), vs = [.ref a, v] ∧ flatV v = true ∧ H a = some (exo a C none) ∧ OexC K C ∧ PySem.W.findIn K (.ref C) "what" = some none ∧
  ∀ dx, H dx = none → dx ≠ a → Q .non (upd (upd H dx (exd dx [("what", v)])) a (exo a C (some dx)))
theorem raise_what {K : PySem.W.Frag} {C I : Addr} {H : Hp} {v : V} {Q : XK} (F : ExF K C I) (hv : flatV v = true) (k : ∀ d H', Ex H H' → H' d = some (.xd [("what", v)]) → Q (.ref C) (some d) H') :
    ∀ a, H a = none → spWhat K [.ref a, v] (upd H a (exo a C none)) (fun u H2 => u = .non ∧ ∃ (d : Addr) (fs : List (Str × V)), H2 a = some (exo a C (some d)) ∧ H2 d = some (exd d fs) ∧ H d = none ∧ Q (.ref C) (some d) (upd (L2.del H2 a) d (.xd fs))) (fun _ _ _ => False) := by
  intro a ha
  refine ⟨a, C, v, rfl, hv, upd_same, F.ox, F.nw, fun dx hd hne => ⟨rfl, dx, [("what", v)], upd_same, ?_, ?_, ?_⟩⟩
  · rw [upd_ne hne, upd_same]
  · rw [upd_ne hne] at hd
    exact hd
  · have hd0 : H dx = none := by
      rw [upd_ne hne] at hd
      exact hd
    refine k dx _ (fun b o hb => ?_) upd_same
    have b1 : b ≠ a := ne_of_none hb ha
    have b2 : b ≠ dx := ne_of_none hb hd0
    rw [upd_ne b2]
    show (if b = a then none else _) = _
    rw [if_neg b1, upd_ne b1, upd_ne b2, upd_ne b1]
    exact hb
theorem flat_ty {K : PySem.W.Frag} {H : Hp} {v : V} (h : flatV v = true) : ∃ t, TyX K H v t ∧ PySem.W.kitOne K t (.type "list") = some false ∧ PySem.W.kitOne K t (.type "tuple") = some false ∧ PySem.W.kitOne K t (.type "dict") = some false := by
  cases v with
  | non => exact ⟨_, .base .non, kit_ty (r := false) (by decide +kernel), kit_ty (r := false) (by decide +kernel), kit_ty (r := false) (by decide +kernel)⟩
  | bl b => exact ⟨_, .base (.bl b), kit_ty (r := false) (by decide +kernel), kit_ty (r := false) (by decide +kernel), kit_ty (r := false) (by decide +kernel)⟩
  | int i => exact ⟨_, .base (.int i), kit_ty (r := false) (by decide +kernel), kit_ty (r := false) (by decide +kernel), kit_ty (r := false) (by decide +kernel)⟩
  | str z => exact ⟨_, .base (.str z), kit_ty (r := false) (by decide +kernel), kit_ty (r := false) (by decide +kernel), kit_ty (r := false) (by decide +kernel)⟩
  | _ => cases h

/-! ### sequences: a list or a tuple -/
section
variable {K : PySem.W.Frag} {H H' : Hp} {v : V} {xs : List V}
def SeqV (K : PySem.W.Frag) (H : Hp) (v : V) (xs : List V) : Prop := ∃ a, v = .ref a ∧ (H a = some (.lst xs) ∨ H a = some (.tup xs) ∨ (SqT K H a xs ∧ ∃ o, K.lookup a = some o ∧ o.cls = .type "tuple"))
theorem SeqV.mono (e : Ex H H') (h : SeqV K H v xs) : SeqV K H' v xs := by
  obtain ⟨a, rfl, h | h | ⟨h, o⟩⟩ := h
  · exact ⟨a, rfl, .inl (e _ _ h)⟩
  · exact ⟨a, rfl, .inr (.inl (e _ _ h))⟩
  · exact ⟨a, rfl, .inr (.inr ⟨ex_t e h, o⟩)⟩
theorem SeqV.ty (h : SeqV K H v xs) : ∃ t, TyX K H v t ∧ PySem.W.kitAny K t [.type "list", .type "tuple"] = some true := by
  obtain ⟨a, rfl, h | h | ⟨_, o, ho, hc⟩⟩ := h
  · exact ⟨_, .base (.lst h), rfl⟩
  · exact ⟨_, .base (.tup h), rfl⟩
  · exact ⟨_, .kTuple ho hc, rfl⟩
theorem SeqV.two (h : SeqV K H v xs) : ∃ a, v = .ref a ∧ (SqL K H a xs ∨ SqT K H a xs) := by
  obtain ⟨a, rfl, h | h | ⟨h, o⟩⟩ := h
  · exact ⟨a, rfl, .inl (SqL.of h)⟩
  · exact ⟨a, rfl, .inr (SqT.of h)⟩
  · exact ⟨a, rfl, .inr h⟩
def NSeq (H : Hp) (v : V) : Prop := v = .non ∨ (∃ b, v = .bl b) ∨ (∃ i, v = .int i) ∨ (∃ z, v = .str z) ∨ ∃ a kvs, v = .ref a ∧ H a = some (.dK kvs)
theorem NSeq.mono (e : Ex H H') (h : NSeq H v) : NSeq H' v := by
  rcases h with h | h | h | h | ⟨a, kvs, h, h1⟩
  · exact .inl h
  · exact .inr (.inl h)
  · exact .inr (.inr (.inl h))
  · exact .inr (.inr (.inr (.inl h)))
  · exact .inr (.inr (.inr (.inr ⟨a, kvs, h, e _ _ h1⟩)))
theorem NSeq.ty (h : NSeq H v) : ∃ t, TyX K H v t ∧ PySem.W.kitAny K t [.type "list", .type "tuple"] = some false := by
  rcases h with rfl | ⟨b, rfl⟩ | ⟨i, rfl⟩ | ⟨z, rfl⟩ | ⟨a, kvs, rfl, h⟩
  · exact ⟨_, .base .non, rfl⟩
  · exact ⟨_, .base (.bl b), rfl⟩
  · exact ⟨_, .base (.int i), rfl⟩
  · exact ⟨_, .base (.str z), rfl⟩
  · exact ⟨_, .base (.dK h), rfl⟩
theorem for_seq {a : Addr} {tl : TE} {g : TG} {tb : TS} {D : Ends} {σ : L2.St} (htl : ∀ Q : VK, Q (.ref a) H → tl σ H Q) (hx : SqL K H a xs ∨ SqT K H a xs) (Pv : Nat → L2.St → Hp → Prop) (h0 : Pv 0 σ H) (stay : ∀ i σ' H', Pv i σ' H' → Ex H H')
    (hs : ∀ i x σ' H', xs[i]? = some x → Pv i σ' H' → g x σ' H' fun σ2 H2 => tb { D with nx := Pv (i + 1), ct := Pv (i + 1), bk := D.nx } σ2 H2) (hd : ∀ σ' H', Pv xs.length σ' H' → D.nx σ' H') : tFor (iAlt (iList K tl) (iTup K tl)) g tb D σ H := by
  rcases hx with hx | hx
  · exact .inl (htl _ ⟨a, rfl, ⟨_, hx⟩, for_list Pv h0 (fun i σ' H' _ p => ex_l (stay i σ' H' p) hx) hs hd⟩)
  · exact .inr (htl _ ⟨a, rfl, ⟨_, hx⟩, for_tup Pv h0 (fun i σ' H' _ p => ex_t (stay i σ' H' p) hx) hs hd⟩)
end

theorem del_at {H : Hp} {x b : Addr} {o : HO} (h : H b = some o) (n : b ≠ x) : L2.del H x b = some o := by
  show (if b = x then none else H b) = _
  rw [if_neg n]
  exact h
theorem sqT_del {K : PySem.W.Frag} {H : Hp} {x a C dx : Addr} {fs : List (Str × V)} {xs : List V} (hx : H x = some (.ins C dx fs)) (h : SqT K H a xs) : SqT K (L2.del H x) a xs := by
  rcases h with (h | ⟨o, h⟩) | h
  · exact .inl (.inl (del_at h (ne_of h hx (by intro z; cases z))))
  · exact .inl (.inr ⟨o, del_at h (ne_of h hx (by intro z; cases z))⟩)
  · exact .inr h
/-- all but the object at x stands -/
theorem ex_del {H H1 H' : Hp} {x : Addr} (e : Ex H H1) (k : ∀ b o, b ≠ x → H1 b = some o → H' b = some o) : Ex (L2.del H x) H' := fun b o hb => by
  by_cases n : b = x
  · rw [show L2.del H x b = none from if_pos n] at hb
    cases hb
  · rw [show L2.del H x b = H b from if_neg n] at hb
    exact k b o n (e b o hb)

def rLen (K : PySem.W.Frag) : List V → Hp → VK → Prop := fun xs H Q => ∃ p ys, xs = [.ref p] ∧ (SqL K H p ys ∨ SqT K H p ys) ∧ Q (.int ys.length) H
theorem cutV_mem {xs : List V} {lo hi : Option Int} : (∀ x ∈ cutV xs lo hi, x ∈ xs) ∧ (cutV xs lo hi).length ≤ xs.length := by
  unfold cutV
  refine ⟨fun x hx => List.mem_of_mem_drop (List.mem_of_mem_take hx), ?_⟩
  rw [List.length_take, List.length_drop]
  omega

theorem made_in {H : Hp} {x dx C : Addr} (hx : H x = none) (hd : H dx = none) : Ex H (upd (upd H dx (.own x)) x (.ins C dx [])) := fun b o hb => by
  rw [upd_ne (ne_of_none hb hx), upd_ne (ne_of_none hb hd)]
  exact hb
theorem made_ex {H H' : Hp} {x dx C : Addr} (hx : H x = none) (hd : H dx = none) (e : Ex (L2.del (upd (upd H dx (.own x)) x (.ins C dx [])) x) H') : Ex H H' := fun b o hb =>
  e b o (del_at (made_in hx hd b o hb) (ne_of_none hb hx))
theorem sqT_ty {K : PySem.W.Frag} {H : Hp} {t : Addr} {xs : List V} (h : SqT K H t xs) : TyX K H (.ref t) (.type "tuple") := by
  rcases h with (h | ⟨o, h⟩) | ⟨o, its, n, ho, hc, _⟩
  · exact .base (.tup h)
  · exact .fTuple h
  · exact .kTuple ho hc

theorem SeqV.isl {K : PySem.W.Frag} {H : Hp} {v : V} {xs : List V} (h : SeqV K H v xs) : (∃ a, v = .ref a ∧ H a = some (.lst xs) ∧ TyX K H v (.type "list")) ∨ (∃ a, v = .ref a ∧ SqT K H a xs ∧ TyX K H v (.type "tuple")) := by
  obtain ⟨a, rfl, h | h | ⟨h, o, ho, hc⟩⟩ := h
  · exact .inl ⟨a, rfl, h, .base (.lst h)⟩
  · exact .inr ⟨a, rfl, SqT.of h, .base (.tup h)⟩
  · exact .inr ⟨a, rfl, h, .kTuple ho hc⟩

theorem cut_one (xs : List V) : cutV xs (some 1) none = xs.drop 1 := by
  unfold cutV
  rw [show HT.sIx xs.length 0 (some 1) = min 1 xs.length from HT.sIx_nat xs.length 0 1, HT.sIx_none]
  cases xs with
  | nil => rfl
  | cons x r =>
    rw [show min 1 (x :: r).length = 1 by rw [List.length_cons]; omega]
    exact List.take_of_length_le (by rw [List.length_drop]; omega)

section
variable {K : PySem.W.Frag} {C D : Addr} {T : String} {b : Bool}
theorem cls_some (h : PySem.W.hasDictIn K C = true) : (PySem.W.clsIn K C).isSome = true := by
  obtain ⟨cd, hc, _⟩ := PySem.W.any_some h
  rw [hc]
  rfl
theorem kit_own : PySem.W.kitOne K (.ref C) (.ref C) = some true := by
  unfold PySem.W.kitOne
  rw [if_pos (beq_self_eq_true _)]
theorem both_cls (h1 : PySem.W.hasDictIn K C = true) (h2 : PySem.W.typeIn K (.ref C) = some (.type "type")) : ((PySem.W.clsIn K C).isSome && PySem.W.typeIn K (.ref C) == some (.type "type")) = true := by
  rw [cls_some h1, h2] <;> rfl
theorem kit_type_ref (h1 : PySem.W.hasDictIn K C = true) (h2 : PySem.W.typeIn K (.ref C) = some (.type "type")) (h3 : PySem.W.subIn K (.type T) (.ref C) = some b) : PySem.W.kitOne K (.type T) (.ref C) = some b := by
  unfold PySem.W.kitOne
  rw [if_neg (by intro z; cases (beq_iff_eq.mp z))]
  exact (show PySem.W.kitCls K (.type T) (.ref C) = PySem.W.subIn K (.type T) (.ref C) from if_pos (both_cls h1 h2)).trans h3
theorem kit_ref_type (hm : PySem.W.kitMeta T = true) (h : PySem.W.subIn K (.ref D) (.type T) = some b) : PySem.W.kitOne K (.ref D) (.type T) = some b := by
  unfold PySem.W.kitOne
  rw [if_neg (by intro z; cases (beq_iff_eq.mp z))]
  exact (show PySem.W.kitCls K (.ref D) (.type T) = PySem.W.subIn K (.ref D) (.type T) from if_pos hm).trans h
theorem kit_ref_ref (ne : D ≠ C) (h1 : PySem.W.hasDictIn K C = true) (h2 : PySem.W.typeIn K (.ref C) = some (.type "type")) (h3 : PySem.W.subIn K (.ref D) (.ref C) = some b) : PySem.W.kitOne K (.ref D) (.ref C) = some b := by
  unfold PySem.W.kitOne
  rw [if_neg (by intro z; exact ne (Value.ref.inj (beq_iff_eq.mp z)))]
  exact (show PySem.W.kitCls K (.ref D) (.ref C) = PySem.W.subIn K (.ref D) (.ref C) from if_pos (both_cls h1 h2)).trans h3
theorem exm_cls (h0 : PySem.W.subIn K (.ref C) (.type "BaseException") = some true) (h1 : PySem.W.hasDictIn K C = true) (h2 : PySem.W.typeIn K (.ref C) = some (.type "type")) (h3 : PySem.W.subIn K (.ref D) (.ref C) = some b) : PySem.W.exmOne K (.ref D) (.ref C) = some b := by
  have e1 : (PySem.W.subIn K (.ref C) (.type "BaseException") == some true) = true := by rw [h0] <;> rfl
  show (if (PySem.W.subIn K (.ref C) (.type "BaseException") == some true) = true then (if ((PySem.W.clsIn K C).isSome && PySem.W.typeIn K (.ref C) == some (.type "type")) = true then PySem.W.subIn K (.ref D) (.ref C) else none) else none) = some b
  rw [if_pos e1, if_pos (both_cls h1 h2)]
  exact h3
end

theorem cut_from (xs : List V) (k : Nat) : cutV xs (some (k : Int)) none = xs.drop k := by
  unfold cutV
  rw [HT.sIx_nat, HT.sIx_none]
  by_cases h : k ≤ xs.length
  · rw [Nat.min_eq_left h]
    exact List.take_of_length_le (by rw [List.length_drop]; omega)
  · rw [Nat.min_eq_right (by omega), List.drop_length, List.drop_eq_nil_of_le (by omega), List.take_nil]
end UL

set_option Elab.async false
set_option linter.all false
set_option maxRecDepth 100000
/-! own: a static method called off its class -/
namespace UL
open PySem PySem.Spec PyProof.Rows L2 Evl TL

/-- C.m is a staticmethod: its record at p, its def at g -/
structure SMet (K : PySem.W.Frag) (C : Addr) (mc : Value) (m : Str) (p g : Addr) : Prop where
  rd : PySem.W.readsIn K C mc = true
  ga : PySem.W.specialIn K (.ref C) "__getattribute__" = some (some (.builtin "type.__getattribute__"))
  fc : PySem.W.findCls K (.ref C) mc m = some (.get (.builtin "staticmethod.__get__") (.ref p) .none (.ref C))
  rc : ∃ rest, PySem.W.recIn K p "staticmethod" = some (.ref g :: rest)
  kg : PySem.W.keepIn K (.ref g) = true
def tSm (C : Addr) (sp : Sp) (E : L2.St → XK) (ta : TE) (t : TA) : TE := fun σ H Q => ta σ H fun x H1 => x = .ref C ∧ t σ H1 fun vs H2 => sp vs H2 Q (E σ)
section
variable {X : Cx} {CX : CXT} {k : Nat} {C p g : Addr} {mc : Value} {fd : FuncData} {ps : List Str} {sp : Sp} {E : L2.St → XK} {o e : Expr} {es : List Expr} {m : Str} {pos apos : Pos} {ta : TE} {t : TA} {pl : Sem Bool}
theorem pe_smS (he : PE X o ta) (c : SMet X.K C mc m p g) (F : FnOk X.prog X.w X.K X.mg X.base CX k g fd ps sp) (hr : Room k X.A) (hb : L2.Binds X.K fd ps []) (hx : ∀ σ, PassesAt CX X σ (E σ)) (ha : PA X (e :: es) t)
    (h1 : starEach (e :: es) X.env = (false, eval e X.env) :: starEach es X.env := by rfl) (h2 : (backTo pos (starEach es X.env)).any (·.1) = false := by rfl)
    (h3 : eval (.Call (.Attribute o m apos) (e :: es) [] pos) X.env = (do
      let who ← eval o X.env
      standAt apos.atName
      let (fn, fst) ← holding [who] (getMethod who m pl)
      callWith pos fn fst (backTo pos (starEach (e :: es) X.env)) (backToKw pos (keywordEach [] X.env))) := by rfl) :
    PE X (.Call (.Attribute o m apos) (e :: es) [] pos) (tSm C sp E ta t) := by
  refine ⟨fun pins s σ H Q I h => PySem.W.methodCall_KW (pl := pl) (thn (he.run pins s σ H _ I h) fun u s1 hh => ?_) h3⟩
  obtain ⟨x, H1, I1, rx, rfl, q⟩ := hh
  obtain rfl : u = Value.ref C := rx
  obtain ⟨rest, hrc⟩ := c.rc
  refine PySem.W.method_cls I1.kIn c.ga (PySem.W.cls_bind I1.kIn c.rd c.fc (wpAny_call (PySem.W.sm_get (s := { s1 with toks := s1.toks + 1 }) I1.kIn hrc (PySem.W.handed_on rfl ?_))))
  have I2 : Inv X pins σ H1 { s1 with toks := s1.toks + 1 } := I1.tok _
  refine PySem.W.callWith_K (h₀ := X.base) I1.ok.mod.kin c.kg (thn (ha.run pos pins _ σ H1 _ I2 q) fun us s3 hh => ?_) h1 h2
  obtain ⟨vs, H2, I3, rv, q2⟩ := hh
  exact ⟨I3.kIn, run_fnS F hr hb (hx σ) I3 rv q2⟩
end

/-- [f x for x in a sequence]: any walk over fixed items, an element each, nothing else changed -/
theorem lc_map {K : PySem.W.Frag} {J : It} {xs : List V} {G : Hp → Prop} {f : V → V} {j : Nat} {te : TE} {vs : List Nat} {σ : L2.St} {H1 : Hp} {D : Addr} {Qd : Hp → Prop} (w : L2.Walk J xs.length G (YAt xs)) (hz : xs.length ≤ 100000) (hD : H1 D = none)
    (hG : ∀ H', Ex H1 H' → G H') (hw : ∀ x, wipe ((wipe σ vs).set j (some x)) vs = wipe σ vs) (he : ∀ x H', x ∈ xs → Ex H1 H' → ∀ Q : VK, Q (f x) H' → te ((wipe σ vs).set j (some x)) H' Q) (hd : Qd (upd H1 D (.lst (xs.map f)))) :
    ∃ W : Nat → Nat → Hp → Prop, (∃ m, W 0 m (upd H1 D (.lst []))) ∧ ∀ i m H, W i m H →
      (J.stop i H ∧ Qd H) ∨ (J.go i H ∧ ∃ Nx : Hp → Prop, (∀ H', Nx H' → ∃ m', m' < m ∧ W (i + 1) m' H') ∧ ∀ x H', J.yld i H x H' → gName j x (wipe σ vs) H' fun σ2 H2 => wipe σ2 vs = wipe σ vs ∧ tYes σ2 H2 fun b H3 =>
        if b = true then te σ2 H3 fun y H4 => ∃ acc, H4 D = some (.lst acc) ∧ acc.length < sizeLine ∧ Nx (upd H4 D (.lst (acc ++ [y]))) else Nx H3) := by
  refine lc_it w (fun i H' => H' = upd H1 D (.lst ((xs.take i).map f))) rfl (fun i H' _ h => by rw [h]; exact hG _ (Ex.new hD)) ?_ ?_
  · rintro i x H H' hi rfl ⟨rfl, hx⟩
    refine ⟨hw _, ?_⟩
    show te _ _ _
    refine he x _ (List.mem_of_getElem? hx) (Ex.new hD) _ ⟨_, upd_same, ?_, ?_⟩
    · rw [List.length_map, List.length_take]
      exact sz_lt (by omega)
    · rw [upd_upd, List.take_add_one, hx, List.map_append]
      rfl
  · rintro H rfl
    rw [List.take_length]
    exact hd
/-- [f x for x in a sequence if p x] -/
theorem lc_filter {K : PySem.W.Frag} {J : It} {xs : List V} {G : Hp → Prop} {p : V → Bool} {f : V → V} {j : Nat} {tt : TT} {te : TE} {vs : List Nat} {σ : L2.St} {H1 : Hp} {D : Addr} {Qd : Hp → Prop} (w : L2.Walk J xs.length G (YAt xs)) (hz : xs.length ≤ 100000) (hD : H1 D = none)
    (hG : ∀ H', Ex H1 H' → G H') (hw : ∀ x, wipe ((wipe σ vs).set j (some x)) vs = wipe σ vs) (ht : ∀ x H', x ∈ xs → Ex H1 H' → ∀ Q : Bool → Hp → Prop, Q (p x) H' → tt ((wipe σ vs).set j (some x)) H' Q)
    (he : ∀ x H', x ∈ xs → p x = true → Ex H1 H' → ∀ Q : VK, Q (f x) H' → te ((wipe σ vs).set j (some x)) H' Q) (hd : Qd (upd H1 D (.lst ((xs.filter p).map f)))) :
    ∃ W : Nat → Nat → Hp → Prop, (∃ m, W 0 m (upd H1 D (.lst []))) ∧ ∀ i m H, W i m H →
      (J.stop i H ∧ Qd H) ∨ (J.go i H ∧ ∃ Nx : Hp → Prop, (∀ H', Nx H' → ∃ m', m' < m ∧ W (i + 1) m' H') ∧ ∀ x H', J.yld i H x H' → gName j x (wipe σ vs) H' fun σ2 H2 => wipe σ2 vs = wipe σ vs ∧ tt σ2 H2 fun b H3 =>
        if b = true then te σ2 H3 fun y H4 => ∃ acc, H4 D = some (.lst acc) ∧ acc.length < sizeLine ∧ Nx (upd H4 D (.lst (acc ++ [y]))) else Nx H3) := by
  refine lc_it w (fun i H' => H' = upd H1 D (.lst (((xs.take i).filter p).map f))) rfl (fun i H' _ h => by rw [h]; exact hG _ (Ex.new hD)) ?_ ?_
  · rintro i x H H' hi rfl ⟨rfl, hx⟩
    refine ⟨hw _, ?_⟩
    refine ht x _ (List.mem_of_getElem? hx) (Ex.new hD) _ ?_
    have e1 : (xs.take (i + 1)).filter p = (xs.take i).filter p ++ [x].filter p := by
      rw [List.take_add_one, hx, List.filter_append]
      rfl
    cases hp : p x with
    | true =>
      refine iteT (he x _ (List.mem_of_getElem? hx) hp (Ex.new hD) _ ⟨_, upd_same, ?_, ?_⟩)
      · rw [List.length_map]
        refine sz_lt (Nat.lt_of_le_of_lt (List.length_filter_le _ _) ?_)
        rw [List.length_take]
        omega
      · rw [upd_upd, e1, List.map_append]
        simp [hp]
    | false =>
      refine iteF ?_
      rw [e1]
      simp [hp]
  · rintro H rfl
    rw [List.take_length]
    exact hd
end UL

set_option Elab.async false
set_option linter.all false
set_option maxRecDepth 100000
/-! own module: `in`, an index and len of an object of an own class -/
namespace UL
open PySem PySem.Spec PyProof.Rows L2 Evl TL
section
variable {X : Cx} {CX : CXT} {k : Nat} {f C : Addr} {fd : FuncData} {ps : List Str} {sp : Sp} {E : XK}
/-- x in y, y of an own class; the answer is a truth -/
def rOwnIn (C : Addr) (neg : Bool) (sp : Sp) (E : XK) : R2 := fun x y H Q => ∃ a dx fs, y = .ref a ∧ H a = some (.ins C dx fs) ∧ sp [.ref a, x] H (fun v H' => ∃ b, v = .bl b ∧ Q (.bl (if neg then !b else b)) H') E
theorem op_ownIn (F : FnOk X.prog X.w X.K X.mg X.base CX k f fd ps sp) (hr : Room k X.A) (hs : PySem.W.findIn X.K (.ref C) "__contains__" = some (some (.ref f))) (hf : PySem.W.isFn X.K (.ref f) = true) (hb : L2.Binds X.K fd ps []) (hx : Passes CX X E) :
    OpR X (compareOp .In) (rOwnIn C false sp E) := by
  intro pins s σ H x y v u Q I rx ry h
  obtain ⟨a, dx, fs, rfl, ha, q⟩ := h
  cases ry
  obtain ⟨mA, J, _⟩ := ins_get I.hok ha
  obtain ⟨od, J, _⟩ := J.look
  obtain ⟨m, hF⟩ := I.fr
  refine PySem.W.in_K hF I.ok.mod.kin J hs hf ?_
  have r2 : Vals [V.ref a, x] [Value.ref a, v] := .cons rfl (.cons rx .nil)
  have hl : [Value.ref a, v].length = ps.length := by rw [← r2.length]; exact F.len _ _ _ _ q
  have bd := hb s [Value.ref a, v] I.kIn (by rw [List.append_nil]; exact hl)
  rw [List.append_nil] at bd
  refine wpAny_call (codeAny_mono (F.run X.A X.stack s H ⟨[.ref a, v], []⟩ [.ref a, v] [.ref a, x] _ E hr I.env0 bd r2 q) fun rr s' z => ?_)
  match rr, z with
  | .error er, z => exact hx pins σ H s er s' I z
  | .ok (.ret w), z =>
    obtain ⟨v, H', I', rv, b, rfl, q'⟩ := I.after z
    cases rv
    exact wpAny_pure ⟨V.bl b, H', I', rfl, q'⟩
  | .ok .next, z => exact False.elim z
  | .ok .brk, z => exact False.elim z
  | .ok .cont, z => exact False.elim z
theorem op_ownNotIn (F : FnOk X.prog X.w X.K X.mg X.base CX k f fd ps sp) (hr : Room k X.A) (hs : PySem.W.findIn X.K (.ref C) "__contains__" = some (some (.ref f))) (hf : PySem.W.isFn X.K (.ref f) = true) (hb : L2.Binds X.K fd ps []) (hx : Passes CX X E) :
    OpR X (compareOp .NotIn) (rOwnIn C true sp E) := by
  intro pins s σ H x y v u Q I rx ry h
  obtain ⟨a, dx, fs, rfl, ha, q⟩ := h
  cases ry
  obtain ⟨mA, J, _⟩ := ins_get I.hok ha
  obtain ⟨od, J, _⟩ := J.look
  obtain ⟨m, hF⟩ := I.fr
  refine PySem.W.notIn_K hF I.ok.mod.kin J hs hf ?_
  have r2 : Vals [V.ref a, x] [Value.ref a, v] := .cons rfl (.cons rx .nil)
  have hl : [Value.ref a, v].length = ps.length := by rw [← r2.length]; exact F.len _ _ _ _ q
  have bd := hb s [Value.ref a, v] I.kIn (by rw [List.append_nil]; exact hl)
  rw [List.append_nil] at bd
  refine wpAny_call (codeAny_mono (F.run X.A X.stack s H ⟨[.ref a, v], []⟩ [.ref a, v] [.ref a, x] _ E hr I.env0 bd r2 q) fun rr s' z => ?_)
  match rr, z with
  | .error er, z => exact hx pins σ H s er s' I z
  | .ok (.ret w), z =>
    obtain ⟨v, H', I', rv, b, rfl, q'⟩ := I.after z
    cases rv
    exact wpAny_pure ⟨V.bl (!b), H', I', rfl, q'⟩
  | .ok .next, z => exact False.elim z
  | .ok .brk, z => exact False.elim z
  | .ok .cont, z => exact False.elim z
/-- a[b], a of an own class -/
def rOwnIx (C : Addr) (sp : Sp) (E : XK) : R2 := fun x y H Q => ∃ a dx fs, x = .ref a ∧ H a = some (.ins C dx fs) ∧ sp [.ref a, y] H Q E
theorem pe_ixOwn {a b : Expr} {ta tb : TE} {pos : Pos} (F : FnOk X.prog X.w X.K X.mg X.base CX k f fd ps sp) (hr : Room (k + 1) X.A) (hs : PySem.W.findIn X.K (.ref C) "__getitem__" = some (some (.ref f))) (hi : PySem.W.fnIn X.K f = true) (hf : PySem.W.isFn X.K (.ref f) = true) (hb0 : L2.Binds X.K fd ps []) (hx : Passes CX X E)
    (ha : PE X a ta) (hb : PE X b tb) (hsl : ∀ x i, subscripted b true (.ref x) i = runValue (.builtin "lifetime.subscript" ⟨[.ref x, i], []⟩) := by intros; with_unfolding_all rfl) : PE X (.Subscript a b pos) (tOp (rOwnIx C sp E) ta tb) := by
  refine ⟨fun pins s0 σ H0 Q I h => ?_⟩
  refine Subscript_ (binT ha hb I h fun v u s x y H I rx ry q => ?_)
  obtain ⟨p, dx, fs, rfl, hp, q⟩ := q
  cases rx
  obtain ⟨mA, J, _⟩ := ins_get I.hok hp
  obtain ⟨od, J, _⟩ := J.look
  obtain ⟨m, hF⟩ := I.fr
  refine PySem.W.sub_K hF I.ok.mod.kin J hs hi hf ?_ (hsl _ _)
  have r2 : Vals [V.ref p, y] [Value.ref p, u] := .cons rfl (.cons ry .nil)
  have hl : [Value.ref p, u].length = ps.length := by rw [← r2.length]; exact F.len _ _ _ _ q
  have bd := hb0 s [Value.ref p, u] I.kIn (by rw [List.append_nil]; exact hl)
  rw [List.append_nil] at bd
  refine wpAny_call (codeAny_mono (F.run X.A.in1 X.stack s H ⟨[.ref p, u], []⟩ [.ref p, u] [.ref p, y] Q E hr.in1 I.env0.in1 bd r2 q) fun rr s' z => ?_)
  match rr, z with
  | .error er, z => exact hx pins σ H s er s' I z
  | .ok (.ret w), z => exact I.after z
  | .ok .next, z => exact False.elim z
  | .ok .brk, z => exact False.elim z
  | .ok .cont, z => exact False.elim z
/-- len of an object of an own class -/
theorem call_lenOwn (F : FnOk X.prog X.w X.K X.mg X.base CX k f fd ps sp) (hr : Room (k + 1) X.A) (hs : PySem.W.findIn X.K (.ref C) "__len__" = some (some (.ref f))) (hf : PySem.W.isFn X.K (.ref f) = true) (hb : L2.Binds X.K fd ps []) (hx : Passes CX X E) :
    CallR X (.builtin "len") (fun xs H Q => ∃ a dx fs, xs = [.ref a] ∧ H a = some (.ins C dx fs) ∧ sp [.ref a] H (fun v H' => ∃ n : Int, v = .int n ∧ 0 ≤ n ∧ n < 2 ^ 63 ∧ Q (.int n) H') E) := by
  intro pins s σ H xs us Q I r h
  obtain ⟨a, dx, fs, rfl, ha, q⟩ := h
  obtain ⟨u, rfl, ru⟩ := vals1 r
  obtain rfl : u = Value.ref a := ru
  obtain ⟨mA, J, _⟩ := ins_get I.hok ha
  obtain ⟨od, J, _⟩ := J.look
  obtain ⟨m, hF⟩ := I.fr
  refine PySem.W.len_K hF I.ok.mod.kin J hs hf ?_
  have r2 : Vals [V.ref a] [Value.ref a] := .cons rfl .nil
  have hl : [Value.ref a].length = ps.length := by rw [← r2.length]; exact F.len _ _ _ _ q
  have bd := hb s [Value.ref a] I.kIn (by rw [List.append_nil]; exact hl)
  rw [List.append_nil] at bd
  refine wpAny_call (codeAny_mono (F.run X.A.in1 X.stack s H ⟨[.ref a], []⟩ [.ref a] [.ref a] _ E hr.in1 I.env0.in1 bd r2 q) fun rr s' z => ?_)
  match rr, z with
  | .error er, z => exact hx pins σ H s er s' I z
  | .ok (.ret w), z =>
    obtain ⟨v, H', I', rv, n, rfl, n0, n1, q'⟩ := I.after z
    obtain ⟨t, rfl⟩ := rv
    exact ⟨⟨n0, n1⟩, V.int n, H', I'.tok _, ⟨_, rfl⟩, q'⟩
  | .ok .next, z => exact False.elim z
  | .ok .brk, z => exact False.elim z
  | .ok .cont, z => exact False.elim z
end
end UL

set_option Elab.async false
set_option linter.all false
set_option maxRecDepth 100000
/-! own: a try with several clauses, each 'except C as n' with the same n -/
namespace UL
open PySem PySem.Spec PyProof.Rows L2 Evl TL

/-- the clauses, and what they wish together of an error of the body -/
inductive AsOk (X : Cx) (i : Nat) (n : Str) : List ExceptHandler → (WX → Ends → WX) → Prop
  | nil : AsOk X i n [] (fun W _ => W)
  | cons {y : Str} {k : Value} {su : Addr → Value → Option Addr → TS} {st : Stmt} {sts : List Stmt} {q q' : Pos} {rest : List ExceptHandler} {f : WX → Ends → WX} (cn : Names X y k)
      (run : ∀ (a : Addr) (ob : Obj) (cls : Value) (d : Option Addr) (ps : List (Addr × Obj)), Zc cls d ob → (∃ z, ob.data = .fields z) → PSs (X.suite a ((a, ob) :: ps)) (st :: sts) (su a cls d)) (tl : AsOk X i n rest f) :
      AsOk X i n (.ExceptHandler (some (.Name y q)) (some n) (st :: sts) q' :: rest) (fun W D => wAs X.K k i su (f W D) D)
section
variable {X : Cx} {n : Str} {i : Nat} {body : List Stmt} {c0 : ExceptHandler} {cs : List ExceptHandler} {f : WX → Ends → WX} {tb : WX → TS} {W0 : WX} {pos : Pos}
theorem ps_try_asMany (e1 : X.stack = X.env :: X.outer) (e2 : X.env.frame = some X.env.locals) (nd : X.N.Nodup) (at_ : X.N[i]? = some n) (lo : X.env.kindOf n = some .local) (tk : Takes X W0)
    (hb : ∀ (W : WX) (pn : List (Addr × Obj)) (xe : Value → Shared → Prop), Takes (X.tr pn xe) W → PassesOwn (model X.prog X.w) X.A X.env xe → PSs (X.tr pn xe) body (tb W)) (hc : AsOk X i n (c0 :: cs) f) :
    PS X (.Try body (c0 :: cs) [] [] pos) (fun D σ H => tb (f W0 D) D σ H) := by
  refine ⟨fun pins s σ H D I h => wpAny_Try_except ?_⟩
  have ok := I.ok
  have fr : X.A.frames = some (X.env :: X.outer) := ok.frames.trans (by rw [e1])
  refine wpAny_mono ((hb (f W0 D) (X.pn ++ pins) (fun e s₁ => wpAny (model X.prog X.w) X.A (noteFrame e X.env) (fun _ s₂ => wpAny (model X.prog X.w) X.A (setFlight e none) (fun _ s₃ =>
    wpAny (model X.prog X.w) X.A (handleBy e X.env (c0 :: cs)) (SP X pins D) X.xe s₃) X.xe s₂) X.xe s₁) (fun u t xx => ?_) PassesOwn.looking).run [] s σ H D (I.toTry _) h) (fun fl s1 q => ?_) (fun _ _ z => z)
  · obtain ⟨a, B, t0, pins1, σ1, H1, cls, d, rfl, J1, nb, up, sky, na, os, ag, wish⟩ := xx
    have J := J1.ofTry (pins := pins) ok
    show wpAny _ X.A (noteFrame (.ref a) X.env) _ _ _
    refine Sky.land Zc.steady fr e2 (by rw [← e1]; exact sky) fun h3 fl3 up3 => ?_
    have J3 := J.landed (s' := { t with heap := h3 }) nb fl3.1 (up.trans up3) os ag
    obtain ⟨o3, z3, g3, k3, d3⟩ := fl3.there
    have nfr : a ∉ frs (X.env :: X.outer) := fun hm => by
      obtain ⟨_, o4, g4, nf⟩ := fl3.2.2.1.mem hm
      rw [g3] at g4
      cases g4
      exact nf _ d3
    have nL : a ≠ X.env.locals := fun z => nfr (List.mem_filterMap.mpr ⟨X.env, List.mem_cons_self, by rw [e2, z]⟩)
    have nF : a ∉ X.fs := fun hm => by
      obtain ⟨v, hv, q⟩ := List.mem_filterMap.mp hm
      exact nfr (List.mem_filterMap.mpr ⟨v, List.mem_cons_of_mem _ hv, q⟩)
    have S3 := J3.suite g3 d3 na nL nF
    have down : ∀ {l : List ExceptHandler} {g : WX → Ends → WX}, AsOk X i n l g → g W0 D cls d σ1 H1 → wpAny (model X.prog X.w) X.A (handleBy (.ref a) X.env l) (SP X pins D) X.xe { t with heap := h3 } := by
      intro l g hl
      induction hl with
      | nil =>
        intro w
        refine wpAny_handleBy_nil ?_
        obtain ⟨_, _, _, _, _, T, _, _, gz, _, dz, slot, _⟩ := id fl3
        unfold PySem.passOn
        refine wpAny_bind (wpAny_field gz dz slot ?_)
        rw [if_neg (by simp)]
        have go : wpAny (model X.prog X.w) X.A (setFlight (.ref a) X.env.frame) (fun _ t4 => wpAny (model X.prog X.w) X.A (throw (.ref a) : Sem Flow) (SP X pins D) X.xe t4) X.xe { t with heap := h3 } := by
          rw [e2]
          exact HandSPX.setFlight_upZ fl3 fun h4 hh4 up4 => wpAny_throw (tk _ _ ⟨a, B, t0, pins, σ1, H1, cls, d, rfl, J, nb, (up.trans up3).trans up4, .inr (.inr (by rw [e1]; exact hh4)), na, os, ag, w⟩)
        first
          | exact wpAny_bind go
          | exact wpAny_bind (wpAny_pure (wpAny_bind go))
      | @cons y k su st sts q q' rest g cn run tl ih =>
        rintro ⟨b, hb1, yes, no⟩
        refine wpAny_handleBy_cons (codeAny_handlers_test ?_) (fun z => nomatch z)
        have ty : PySem.W.Looks (model X.prog X.w) h3 (typeOf (.ref a)) cls := fun A Q E s k q => wpAny_typeOf_ref (k _ _ g3) (by rw [k3.1]; exact q)
        have look := PySem.W.exm_one (M := model X.prog X.w) J3.kIn ty hb1
        have seen : ∀ {Q : Value → Shared → Prop} {E : Value → Shared → Prop}, Q k { t with heap := h3 } → wpAny (model X.prog X.w) (X.A.mark (some (.ref a))) (eval (.Name y q) X.env) Q E { t with heap := h3 } := fun {Q E} p => by
          obtain ⟨c1, c2, c3 | ⟨c3, c4, c5⟩⟩ := cn
          · exact ld_glob (X := X.suite a ((a, o3) :: (X.pn ++ pins))) S3 c1 c3 p c2
          · exact ld_blt (X := X.suite a ((a, o3) :: (X.pn ++ pins))) S3 c1 c3 c4 p c5 c2
        refine seen (look.here ?_)
        cases b with
        | false => exact ih (no rfl)
        | true =>
          refine codeAny_handlers_suite_as (HandSPX.lands_againZ fl3 fun h4 fl4 up4 => ?_)
          have J4 := J.landed (s' := { t with heap := h4 }) nb fl4.1 ((up.trans up3).trans up4) os ag
          obtain ⟨o4, z4, g4, k4, d4⟩ := fl4.there
          refine store_ok (X := X.suite a ((a, o4) :: (X.pn ++ pins))) (v := .ref a) (J4.suite g4 d4 na nL nF) nd at_ (.inl lo) rfl (fun t5 S5 => ?_) (.inr lo)
          refine wpAny_mono ((run a o4 cls d (X.pn ++ pins) k4 ⟨_, d4⟩).run [] t5 _ H1 _ S5 (yes rfl a na)) (fun fl t6 r => ?_) (fun _ _ z => z.elim)
          have fin : ∀ {σ6 : L2.St} {H6 : Hp} {Q : Shared → Prop}, Inv (X.suite a ((a, o4) :: (X.pn ++ pins))) [] σ6 H6 t6 → (∀ t7, Inv X pins (σ6.set i none) H6 t7 → Q t7) →
              wpAny (model X.prog X.w) X.A (do bindName X.env n .none; unbindBehindTheSuite X.env n q') (fun _ t7 => Q t7) X.xe t6 := fun {σ6 H6 Q} S6 p => gone_ok (S6.unsuite ok) nd at_ lo p
          cases fl with
          | ret u =>
            obtain ⟨v, σ6, H6, S6, rv, p⟩ := r
            exact fin S6 fun t7 J7 => ⟨v, _, _, J7, rv, p⟩
          | next =>
            obtain ⟨σ6, H6, S6, p⟩ := r
            exact fin S6 fun t7 J7 => ⟨_, _, J7, p⟩
          | brk =>
            obtain ⟨σ6, H6, S6, p⟩ := r
            exact fin S6 fun t7 J7 => ⟨_, _, J7, p⟩
          | cont =>
            obtain ⟨σ6, H6, S6, p⟩ := r
            exact fin S6 fun t7 J7 => ⟨_, _, J7, p⟩
    exact down hc wish
  · cases fl with
    | ret u =>
      obtain ⟨v, σ1, H1, J, rv, p⟩ := q
      exact ⟨v, _, _, J.ofTry ok, rv, p⟩
    | next =>
      obtain ⟨σ1, H1, J, p⟩ := q
      exact wpAny_execs_nil ⟨_, _, J.ofTry ok, p⟩
    | brk =>
      obtain ⟨σ1, H1, J, p⟩ := q
      exact ⟨_, _, J.ofTry ok, p⟩
    | cont =>
      obtain ⟨σ1, H1, J, p⟩ := q
      exact ⟨_, _, J.ofTry ok, p⟩
end
end UL

set_option Elab.async false
set_option linter.all false
set_option maxRecDepth 100000
/-! own: defs with a star, C() of such a class, an index in a try, iter of a tuple, list of an object whose __iter__ hands out such an iterator and that has a length -/
namespace UL
open PySem PySem.Spec PyProof.Rows L2 Evl TL

/-! ### a def with one parameter and a star -/
section
variable {P : Program} {w : World} {K : PySem.W.Frag} {mg : Str → Option Value} {base : Heap} {x qual : Str} {st : Stmt} {f : Addr} {fd : FuncData} {N : List Str} {a b : Str} {k : Nat} {sp : Sp}
/-- what the caller promises, from what the body wants -/
def spStar (sp : Sp) : Sp := fun vs H Q E => ∃ v rest, vs = v :: rest ∧ rest.length ≤ 1000 ∧ ∀ p, H p = none → sp [v, .ref p] (upd H p (.tup rest)) Q E
theorem starFn (F : L2.Fun K x qual st f fd) (S : FnScope N [a, b] (defScope st))
    (h0 : ∀ (kV doc pm : Value) (an : Option Addr) (cdv ct : Value) (v : Value), bindArgs (PySem.W.fnOf x qual (defArgs st) (defBody st) (defScope st) .none kV doc pm an cdv ct) ⟨[v], []⟩ = (newTuple [] >>= fun t => pure [(a, v), (b, t)]))
    (h1 : ∀ (kV doc pm : Value) (an : Option Addr) (cdv ct : Value) (v r : Value) (rs : List Value), bindArgs (PySem.W.fnOf x qual (defArgs st) (defBody st) (defScope st) .none kV doc pm an cdv ct) ⟨v :: r :: rs, []⟩ = (newTuple (r :: rs) >>= fun t => pure [(a, v), (b, t)]))
    (body : ∀ (cdv : Value) (A : Around) (outer : List Env) (s : Shared) (H : Hp) (vs : List V) (Q : VK) (E : XK), Room k (A.deeper (envOfC qual (defScope st) s.heap.objs.size f cdv)) → sp vs H Q E →
      ∃ t, PSs (cxOf (L2.CX P w) P w K mg base N qual (defScope st) f cdv A outer s H E) (defBody st) t ∧ t { nx := fun _ H' => Q .non H', rt := Q } (start N vs) H) : FnR P w K mg base (L2.CX P w) (k + 1) f (spStar sp) := by
  obtain ⟨oc, od, kV, doc, pm, an, cdv, ct, osl, rfl, lk, code⟩ := F.ex
  have R := StX.fn_star (ps := [a]) (pv := b) lk code S StX.cxUp (fun us rest hl => StX.bind_star1 (B := fun zs => bindArgs (PySem.W.fnOf x qual (defArgs st) (defBody st) (defScope st) .none kV doc pm an cdv ct) ⟨zs, []⟩) (h0 kV doc pm an cdv ct) (h1 kV doc pm an cdv ct) us rest hl) fun A outer s H vs Q E hr h => body cdv A outer s H vs Q E hr h
  refine R.imp fun vs H Q E h => ?_
  obtain ⟨v, rest, rfl, hz, q⟩ := h
  exact ⟨[v], rest, rfl, rfl, Nat.le_trans hz (by decide), q⟩
end
section
variable {X : Cx} {CX : CXT} {k : Nat} {f C : Addr} {sp : Sp} {E : XK} {x : Str} {p pos : Pos}
/-- C() -/
theorem pe_makeR0 (M : Mk X.K C f) (F : FnR X.prog X.w X.K X.mg X.base CX k f sp) (room : Room (k + 1) X.A) (g1 : Gl X x) (g2 : X.mg x = some (.ref C)) (out : Passes CX X E) (g3 : (x == ("__debug__" : Str)) = false := by decide) :
    PE X (.Call (.Name x p) [] [] pos) (StX.tMakeR C sp E tNil) :=
  ⟨fun pins s σ H Q I h => wpAny_Call_Name_kw (ld_glob I g1 g2 (PySem.W.callWith_K0 I.kIn M.kp (StX.run_makeR M F room out I .nil h)) g3)⟩
end

/-! ### a[b] of an own class where what is raised is wished for at the slots -/
def tIxOwnS (C : Addr) (sp : Sp) (E : L2.St → XK) (ta tb : TE) : TE := fun σ H Q => ta σ H fun x H1 => tb σ H1 fun y H2 => rOwnIx C sp (E σ) x y H2 Q
section
variable {X : Cx} {CX : CXT} {k : Nat} {f C : Addr} {fd : FuncData} {ps : List Str} {sp : Sp} {E : L2.St → XK}
theorem pe_ixOwnS {a b : Expr} {ta tb : TE} {pos : Pos} (F : FnOk X.prog X.w X.K X.mg X.base CX k f fd ps sp) (hr : Room (k + 1) X.A) (hs : PySem.W.findIn X.K (.ref C) "__getitem__" = some (some (.ref f))) (hi : PySem.W.fnIn X.K f = true) (hf : PySem.W.isFn X.K (.ref f) = true) (hb0 : L2.Binds X.K fd ps []) (out : ∀ σ, PassesAt CX X σ (E σ))
    (ha : PE X a ta) (hb : PE X b tb) (hsl : ∀ x i, subscripted b true (.ref x) i = runValue (.builtin "lifetime.subscript" ⟨[.ref x, i], []⟩) := by intros; with_unfolding_all rfl) : PE X (.Subscript a b pos) (tIxOwnS C sp E ta tb) := by
  refine ⟨fun pins s0 σ H0 Q I h => ?_⟩
  have h' : tOp (rOwnIx C sp (E σ)) ta tb σ H0 Q := h
  refine Subscript_ (binT ha hb I h' fun v u s x y H I rx ry q => ?_)
  obtain ⟨p, dx, fs, rfl, hp, q⟩ := q
  cases rx
  obtain ⟨_, J, _⟩ := ins_get I.hok hp
  obtain ⟨_, J, _⟩ := J.look
  obtain ⟨m, fr⟩ := I.fr
  refine PySem.W.sub_K fr I.ok.mod.kin J hs hi hf ?_ (hsl _ _)
  have r2 : Vals [V.ref p, y] [Value.ref p, u] := .cons rfl (.cons ry .nil)
  have n2 : [Value.ref p, u].length = ps.length := r2.length.symm.trans (F.len _ _ _ _ q)
  have bd := hb0 s [Value.ref p, u] I.kIn (by rw [List.append_nil]; exact n2)
  rw [List.append_nil] at bd
  refine wpAny_call (codeAny_mono (F.run X.A.in1 X.stack s H ⟨[.ref p, u], []⟩ [.ref p, u] [.ref p, y] Q (E σ) hr.in1 I.env0.in1 bd r2 q) fun rr s' z => ?_)
  match rr, z with
  | .error er, z => exact out σ pins H s er s' I z
  | .ok (.ret w), z => exact I.after z
  | .ok .next, z => exact False.elim z
  | .ok .brk, z => exact False.elim z
  | .ok .cont, z => exact False.elim z
end

/-- what leaves a call leaves the def, too -/
theorem passX {X : Cx} {E : XK} (tk : Takes X fun cls d _ H => E cls d H) : Passes (L2.CX X.prog X.w) X E := fun pins σ H s e s' I c => passAt (W := fun cls d _ H => E cls d H) tk σ pins H s e s' I c

/-! ### iter of a tuple -/
def ItTup (t it : Addr) (i : Nat) : HO := .ext fun h => h.IsTupleIter it t i
theorem itTup_ok {P : Program} {w : World} {H : Hp} {h : Heap} {t it : Addr} {i : Nat} (e : h.IsTupleIter it t i) : ObjOk P w H h it (ItTup t it i) :=
  ⟨e, let ⟨o, ho, _⟩ := e; ⟨o, ho⟩, fun _ _ ⟨o, ho, r⟩ k => ⟨o, k _ ho, r⟩⟩
section
variable {X : Cx}
def rIterT (K : PySem.W.Frag) : List V → Hp → VK → Prop := fun xs H Q => ∃ t zs, xs = [.ref t] ∧ SqT K H t zs ∧ ∀ it, H it = none → Q (.ref it) (upd H it (ItTup t it 0))
theorem call_iterT : CallR X (.builtin "iter") (rIterT X.K) := by
  intro pins s σ H xs us Q I r h
  obtain ⟨t, zs, rfl, hq, q⟩ := h
  obtain ⟨u, rfl, ru⟩ := vals1 r
  cases ru
  obtain ⟨its, rv, pl, hz⟩ := I.tuple hq
  refine Calls.call_function_entry (by decide +kernel) (by decide +kernel) PySem.W.kdk_entry_iter (PySem.W.kdk_args_iter _) ?_
  unfold Builtin.«iter»
  refine wpAny_bind (m := someArgs "iter" 1 2 _) (wpAny_of_eq (a := [Value.ref t]) (by first | rfl | kernel_rfl!) ?_)
  show wpAny _ _ (pyIter (.ref t) >>= _) _ _ s
  refine wpAny_bind (wpAny_pyIter_tuple pl (wpAny_pure ⟨_, rfl, ?_⟩))
  exact ⟨.ref s.heap.objs.size, _, I.laid (t' := s.toks) (fun _ _ e => Heap.get?_push_of_some _ e) (Nat.le_refl _) (itTup_ok ⟨_, Heap.get?_push_size _ rfl, rfl, rfl⟩), rfl, q _ (I.hok.fresh (Nat.le_refl _))⟩
end

/-! ### list of such an object -/
structure ItL (K : PySem.W.Frag) (C fi fl : Addr) : Prop where
  it : PySem.W.findIn K (.ref C) "__iter__" = some (some (.ref fi))
  itF : PySem.W.isFn K (.ref fi) = true
  ln : PySem.W.findIn K (.ref C) "__len__" = some (some (.ref fl))
  lnF : PySem.W.isFn K (.ref fl) = true
section
variable {X : Cx} {pins : List (Addr × Obj)} {σ : L2.St} {H : Hp} {s : Shared} {A1 : Around} {t it q : Addr} {zs : List V}
/-- the turns: the iterator hands out what is left, the list grows -/
theorem itT_loop {R : Result → Shared → Prop} (calm : A1.in1.handled = none) (ex0 : X.ex = []) (hz : zs.length ≤ sizeLine) (nq : it ≠ q) (old : Fr0 X.H_0 it)
    (fin : ∀ (H' : Hp) s', Inv X pins σ (delH H' it) s' → H' q = some (.lst zs) → (∀ b, b ≠ it → b ≠ q → H' b = H b) → R (.ok (.ret .none)) s') :
    ∀ (n i : Nat) (H' : Hp) (s' : Shared), zs.length - i = n → i ≤ zs.length → Inv X pins σ H' s' → H' it = some (ItTup t it i) → H' q = some (.lst (zs.take i)) → SqT X.K H' t zs → t ≠ it → t ≠ q → (∀ b, b ≠ it → b ≠ q → H' b = H b) →
      codeAny (model X.prog X.w) A1 (.builtin "list.extend.loop" ⟨[.ref q, .ref it, .none], []⟩) R s' := by
  intro n
  induction n with
  | zero =>
    intro i H' s' hn hi I hit hq ht n1 n2 same
    obtain rfl : i = zs.length := by omega
    refine codeAny_builtin PySem.F.entry_extend_loop ?_
    rw [Around.under_plainId PySem.F.plain_extend_loop _]
    show wpAny _ A1.in1 (pyNext (.ref it) >>= _) _ _ s'
    obtain ⟨its, rv, pl, _⟩ := I.tuple ht
    refine wpAny_bind (wpAny_pyNext_tuple_end calm (I.hok it _ hit).1 pl (by rw [List.getElem?_toArray]; exact rv.none_of (List.getElem?_eq_none (Nat.le_refl _))) fun h' eb => ?_)
    obtain ⟨G, g1, g2, J⟩ := I.untrack hit old ex0
    have J2 : Inv X pins σ (delH H' it) { s' with heap := h' } := J.kept (h' := h') (t' := s'.toks) fun b o e => eb b o (fun z => by rw [z, g2] at e; cases e) (g1 b o e)
    exact wpAny_pure (fin H' _ J2 (by rw [hq, List.take_length]) same)
  | succ n ih =>
    intro i H' s' hn hi I hit hq ht n1 n2 same
    have hlt : i < zs.length := by omega
    refine codeAny_builtin PySem.F.entry_extend_loop ?_
    rw [Around.under_plainId PySem.F.plain_extend_loop _]
    show wpAny _ A1.in1 (pyNext (.ref it) >>= _) _ _ s'
    obtain ⟨its, rv, pl, _⟩ := I.tuple ht
    obtain ⟨u, hu, ru⟩ := rv.get (List.getElem?_eq_getElem hlt)
    refine wpAny_bind (wpAny_pyNext_tuple_item (I.hok it _ hit).1 pl (by rw [List.getElem?_toArray]; exact hu) fun h' e' sb => ?_)
    have J : Inv X pins σ (upd H' it (ItTup t it (i + 1))) { s' with heap := h' } := I.write (x := it) (e := it) (t' := s'.toks) (by rw [hit]; exact True.intro) (.inl rfl) (fun b o nb z => (sb.2 b nb).trans z) (let ⟨o, ho, _⟩ := e'; ⟨o, ho⟩) (itTup_ok e')
    have hq2 : upd H' it (ItTup t it (i + 1)) q = some (.lst (zs.take i)) := by rw [upd_ne (Ne.symm nq)]; exact hq
    obtain ⟨z, ls, k, r2, hl, e⟩ := J.lstM hq2
    have len : zs.take i = zs.take i := rfl
    have hl2 : (zs.take i).length = i := by rw [List.length_take]; omega
    have nx : zs.take i ++ [zs[i]] = zs.take (i + 1) := by rw [List.take_add_one, List.getElem?_eq_getElem hlt]; rfl
    show wpAny _ A1.in1 (updateSeq q (·.push u) >>= _) _ _ _
    refine wpAny_bind (wpAny_updateSeq e rfl (wpAny_pure ⟨plainId_quiet PySem.F.plain_extend_loop _, ?_⟩) (by rw [List.size_toArray]; omega) (by show (ls.toArray.push u).size ≤ sizeLine + 1; rw [Array.size_push, List.size_toArray]; omega))
    have J2 := J.lset (f := (·.push u)) (its' := ls ++ [u]) (ys := zs.take (i + 1)) (t' := s'.toks) hq2 e (by simp) (by rw [← nx]; exact r2.append (.cons ru .nil)) (by rw [List.length_take]; omega)
    refine ih (i + 1) _ _ (by omega) (by omega) J2 ?_ upd_same ?_ n1 n2 ?_
    · rw [upd_ne nq, upd_same]
    · rcases ht with (h | ⟨o, h⟩) | h
      · exact .inl (.inl (by rw [upd_ne n2, upd_ne n1]; exact h))
      · exact .inl (.inr ⟨o, by rw [upd_ne n2, upd_ne n1]; exact h⟩)
      · exact .inr h
    · intro b b1 b2
      rw [upd_ne b2, upd_ne b1]
      exact same b b1 b2
end
section
variable {X : Cx} {pins : List (Addr × Obj)} {σ : L2.St} {H : Hp} {s : Shared} {CI : CXT} {C fi fl a : Addr} {fdI fdL : FuncData} {psI psL : List Str} {spI spL : Sp} {EI EL : XK} {n : Nat} {A1 : Around}
/-- below the running body: the environment of a call -/
theorem env0_sub (sb : Sub X n A1) (I : Inv X pins σ H s) : Env0 X.prog X.w X.K X.mg X.base A1 X.stack s H := by
  have e := I.env0
  exact ⟨sb.fr.trans e.frames, e.mod, e.bs, e.bsz, e.funs, e.frf, e.hok, e.bare⟩
/-- the length is asked for: whatever is said of it -/
theorem lenHint {Q : Bool → Shared → Prop} {dx : Addr} {fs : List (Str × V)} {m : Int} (sb : Sub X n A1.in1) (hc : ItL X.K C fi fl) (FL : FnOk X.prog X.w X.K X.mg X.base CX0 n fl fdL psL spL) (bL : L2.Binds X.K fdL psL []) 
    (I : Inv X pins σ H s) (ha : H a = some (.ins C dx fs)) (hm : 0 ≤ m ∧ m ≤ 1000) (hsp : spL [.ref a] H (fun v H' => v = .int m ∧ H' = H) EL) (k : ∀ b s', Inv X pins σ H s' → Q b s') :
    wpAny (model X.prog X.w) A1 (Builtin.List.listLengthHint (.ref a)) Q X.xe s := by
  obtain ⟨_, J, _⟩ := ins_get I.hok ha
  obtain ⟨_, J, _⟩ := J.look
  obtain ⟨_, fr⟩ := I.fr
  unfold Builtin.List.listLengthHint
  refine wpAny_bind (wpAny_bind (J.type.here ((PySem.W.looks_findIn I.kIn hc.ln).here ?_)))
  refine PySem.W.KFB.if_not rfl ?_
  refine wpAny_ite_split (fun _ => ?_) (fun z => absurd rfl z)
  refine wpAny_bind (wpAny_rule (wpAny_bind (wpAny_attempt (PySem.W.len_K fr I.ok.mod.kin J hc.ln hc.lnF ?_))))
  have r2 : Vals [V.ref a] [Value.ref a] := .cons rfl .nil
  have n2 : [Value.ref a].length = psL.length := r2.length.symm.trans (FL.len _ _ _ _ hsp)
  have bd := bL s [Value.ref a] I.kIn (by rw [List.append_nil]; exact n2)
  rw [List.append_nil] at bd
  refine wpAny_call (codeAny_mono (FL.run A1.in1 X.stack s H ⟨[.ref a], []⟩ [.ref a] [.ref a] _ EL sb.room (env0_sub sb I) bd r2 hsp) fun rr s' z => ?_)
  match rr, z with
  | .error er, z => exact False.elim z
  | .ok (.ret w), z =>
    obtain ⟨v, H', I', rv, rfl, rfl⟩ := I.after z
    obtain ⟨t, rfl⟩ := rv
    refine ⟨⟨hm.1, by omega⟩, ?_⟩
    refine wpAny_bind (wpAny_pure ?_)
    refine wpAny_ite_split (fun z => ?_) (fun _ => wpAny_pure (k _ _ (I'.tok _)))
    rw [notLongL (Nat.le_trans (by omega : m.toNat ≤ 1000) (by decide))] at z
    cases z
  | .ok .next, z => exact False.elim z
  | .ok .brk, z => exact False.elim z
  | .ok .cont, z => exact False.elim z
/-- what list(o) asks: the two methods' promises, at any heap that has all that stands now -/
def rListOwnT (K : PySem.W.Frag) (H0 : Hp) (C : Addr) (spI spL : Sp) (EI EL : XK) : List V → Hp → VK → Prop := fun xs H Q => ∃ a dx fs t zs, xs = [.ref a] ∧ H a = some (.ins C dx fs) ∧ H t = some (.tup zs) ∧ zs.length ≤ 1000 ∧
  (∀ H', Ex H H' → spI [.ref a] H' (fun v H2 => ∃ it, v = .ref it ∧ H' it = none ∧ Fr0 H0 it ∧ H2 = upd H' it (ItTup t it 0)) EI) ∧ (∀ H', Ex H H' → spL [.ref a] H' (fun v H2 => v = .int (zs.length : Int) ∧ H2 = H') EL) ∧ ∀ q, H q = none → Q (.ref q) (upd H q (.lst zs))
theorem call_listOwnT (calm : X.calm = true) (ex0 : X.ex = []) (hc : ItL X.K C fi fl) (FI : FnOk X.prog X.w X.K X.mg X.base CX0 n fi fdI psI spI) (bI : L2.Binds X.K fdI psI []) (FL : FnOk X.prog X.w X.K X.mg X.base CX0 n fl fdL psL spL) (bL : L2.Binds X.K fdL psL []) (room : Room (n + 3) X.A) :
    CallR X (.type "list") (rListOwnT X.K X.H_0 C spI spL EI EL) := by
  intro pins s σ H xs us Q I rv h
  obtain ⟨a, dx, fs, t, zs, rfl, ha, ht, hz, hI, hL, hq⟩ := h
  obtain ⟨u, rfl, ru⟩ := rv.one
  cases ru
  have sb3 : Sub X (n + 3) X.A := ⟨room, rfl⟩
  have sb1 : Sub X (n + 1) X.A.in1.in1 := sb3.in1.in1
  have sb0 : Sub X n X.A.in1.in1.in1 := sb1.in1
  have fr : H s.heap.objs.size = none := I.hok.fresh (Nat.le_refl _)
  generalize eq : s.heap.objs.size = q at fr
  refine callType_codes (Q₁ := fun ob s1 => ob = .ref s.heap.objs.size ∧ s1 = { s with heap := s.heap.push { cls := .type "list", data := .seq #[] } }) PySem.F.called_list (PySem.F.typeCall_list_1 _) PySem.F.entry_list_init (code_list_new _ ⟨rfl, rfl⟩) fun ob s1 e1 => ?_
  obtain ⟨rfl, rfl⟩ := e1
  have g0 : (s.heap.push { cls := .type "list", data := .seq #[] }).get? s.heap.objs.size = some { cls := .type "list", data := .seq #[] } := Heap.get?_push_size _ rfl
  refine ⟨⟨_, g0, rfl⟩, PySem.F.args_list_init_2 _ _, ?_⟩
  have I1 : Inv X pins σ (upd H s.heap.objs.size (.lst [])) { s with heap := s.heap.push { cls := .type "list", data := .seq #[] } } := I.lnew (its := []) (t' := s.toks) .nil (Nat.zero_le _)
  show wpAny _ _ (do let old ← Builtin.List.listItems (.ref s.heap.objs.size); Builtin.List.listUpdate (.ref s.heap.objs.size) (fun _ => #[]); letGo old.toList.reverse; Builtin.List.listExtendWith (.ref s.heap.objs.size) (.ref a) .none) _ _ _
  unfold Builtin.List.listItems
  refine wpAny_bind (wpAny_bind (wpAny_seqItems g0 rfl (wpAny_pure ?_)))
  have I2 := I1.lset (f := fun _ => #[]) (its := []) (its' := []) (ys := []) (t' := s.toks) upd_same g0 rfl .nil (Nat.zero_le _)
  rw [upd_upd] at I2
  show wpAny _ _ (updateSeq s.heap.objs.size (fun _ => #[]) >>= fun _ => letGo (#[] : Array Value).toList.reverse >>= fun _ => Builtin.List.listExtendWith (.ref s.heap.objs.size) (.ref a) .none) _ _ _
  refine wpAny_bind (wpAny_updateSeq g0 rfl (wpAny_bind (wpAny_letGo ?_)))
  rw [eq] at I2 ⊢
  have ex : Ex H (upd H q (.lst [])) := Ex.new fr
  have ha2 := ex _ _ ha
  have nqa : q ≠ a := fun z => by rw [← z, fr] at ha; cases ha
  obtain ⟨_, J, _⟩ := ins_get I2.hok ha2
  obtain ⟨_, J, _⟩ := J.look
  obtain ⟨_, frm⟩ := I2.fr
  unfold Builtin.List.listExtendWith
  refine wpAny_bind (J.type.here ?_)
  have b1 : Builtin.List.listSameRef (.ref q) (.ref a) = false := by simp [Builtin.List.listSameRef, nqa]
  have b2 : (Value.ref C == Value.type "list") = false := rfl
  have b3 : (Value.ref C == Value.type "tuple") = false := rfl
  simp only [b1, b2, b3, Bool.or_false, Bool.false_eq_true, if_false]
  refine wpAny_bind (PySem.W.owit_iter frm I2.ok.mod.kin J hc.it hc.itF ?_)
  have q1 := hI _ ex
  have r2 : Vals [V.ref a] [Value.ref a] := .cons rfl .nil
  have n2 : [Value.ref a].length = psI.length := r2.length.symm.trans (FI.len _ _ _ _ q1)
  have bd := bI _ [Value.ref a] I2.kIn (by rw [List.append_nil]; exact n2)
  rw [List.append_nil] at bd
  refine wpAny_call (codeAny_mono (FI.run X.A.in1.in1 X.stack _ _ ⟨[.ref a], []⟩ [.ref a] [.ref a] _ EI (sb1.mono (Nat.le_succ n)).room (env0_sub (sb1.mono (Nat.le_succ n)) I2) bd r2 q1) fun rr s' z => ?_)
  match rr, z with
  | .error er, z => exact False.elim z
  | .ok .next, z => exact False.elim z
  | .ok .brk, z => exact False.elim z
  | .ok .cont, z => exact False.elim z
  | .ok (.ret w), z =>
    obtain ⟨v, H', I3, rv, it, rfl, hit, old, rfl⟩ := I2.after z
    cases rv
    have nit : it ≠ q := fun z => by rw [z, upd_same] at hit; cases hit
    have hitH : H it = none := by rw [upd_ne nit] at hit; exact hit
    have ex3 : Ex (upd H q (.lst [])) (upd (upd H q (.lst [])) it (ItTup t it 0)) := Ex.new hit
    have hT : s'.TypeIs (.ref it) "tuple_iterator" := by
      obtain ⟨o, ho, hc, _⟩ := (I3.hok it _ upd_same).1
      exact ⟨o, ho, hc⟩
    unfold PySem.W.OwitIt
    refine wpAny_specialOf hT PySem.F.slot_tuple_iterator_next.lookup ?_
    refine wpAny_bind (wpAny_holding (lenHint (m := (zs.length : Int)) sb0 hc FL bL I3 (ex3 _ _ ha2) ⟨by omega, by omega⟩ (hL _ (ex.trans ex3)) fun b s4 I4 => ?_))
    have nta : t ≠ it ∧ t ≠ q := ⟨ne_of_none ht hitH, ne_of_none ht fr⟩
    have go : ∀ s5, Inv X pins σ (upd (upd H q (.lst [])) it (ItTup t it 0)) s5 → codeAny (model X.prog X.w) X.A.in1 (.builtin "list.extend.loop" ⟨[.ref q, .ref it, .none], []⟩) (wants (fun r s₂ => r = .none ∧ EP X pins σ Q (.ref q) s₂) X.xe) s5 := fun s5 I5 => by
      refine itT_loop (A1 := X.A.in1) (R := wants (fun r s₂ => r = .none ∧ EP X pins σ Q (.ref q) s₂) X.xe) (H := upd H q (.lst [])) (show X.A.in1.in1.handled = none from I.ok.hd calm) ex0 (by rw [sizeLine_eq]; omega) nit old (fun H6 s6 I6 e6 k6 => ⟨rfl, .ref q, _, I6, rfl, ?_⟩) zs.length 0 _ s5 rfl (Nat.zero_le _) I5 upd_same ?_ ?_ nta.1 nta.2 (fun b b1 b2 => by rw [upd_ne b1])
      · have e : delH H6 it = upd H q (.lst zs) := by
          funext b
          by_cases h1 : b = it
          · rw [h1, upd_ne nit, hitH]
            exact if_pos rfl
          · rw [show delH H6 it b = H6 b from if_neg h1]
            by_cases h2 : b = q
            · rw [h2, upd_same, e6]
            · rw [k6 b h1 h2, upd_ne h2, upd_ne h2]
        rw [e]
        exact hq q fr
      · rw [upd_ne (Ne.symm nit), upd_same]
        rfl
      · exact SqT.of ((ex.trans ex3) _ _ ht)
    have h4q : upd (upd H q (.lst [])) it (ItTup t it 0) q = some (.lst []) := by rw [upd_ne (Ne.symm nit), upd_same]
    refine wpAny_ite_split (fun _ => ?_) (fun _ => wpAny_pure ⟨plainId_quiet PySem.F.plain_extend_loop _, go s4 I4⟩)
    refine wpAny_bind (wpAny_rule (wpAny_bind ?_))
    show wpAny _ _ (updateSeq q (·.push .none) >>= fun _ => updateSeq q (·.pop)) _ _ _
    obtain ⟨_, ls, k, r5, _, g5⟩ := I4.lstM h4q
    cases r5
    refine wpAny_bind (wpAny_updateSeq g5 rfl ?_)
    have I6 := I4.lset (f := (·.push Value.none)) (its' := [Value.none]) (ys := [.non]) (t' := s4.toks) h4q g5 (by simp) (.cons rfl .nil) (by rw [List.length_singleton, sizeLine_eq]; decide)
    obtain ⟨_, ls6, k6, r6, _, g6⟩ := I6.lstM upd_same
    obtain ⟨u6, rfl, _⟩ := r6.one
    refine wpAny_updateSeq g6 rfl ?_ (by show 1 ≤ sizeLine; rw [sizeLine_eq]; decide) (by show 0 ≤ sizeLine + 1; exact Nat.zero_le _)
    have I7 := I6.lset (f := (·.pop)) (its := [u6]) (its' := []) (ys := []) (t' := s4.toks) upd_same g6 (by rfl) .nil (Nat.zero_le _)
    rw [upd_upd, upd_id h4q] at I7
    exact wpAny_pure ⟨plainId_quiet PySem.F.plain_extend_loop _, go _ I7⟩
end
/-! ### lists by their length -/
theorem len1 {α : Type} {xs : List α} (h : xs.length = 1) : ∃ a0, xs = [a0] := by
  obtain ⟨a0, t0, rfl⟩ := List.exists_cons_of_length_eq_add_one h; have h1 := Nat.succ.inj h
  obtain rfl := List.eq_nil_of_length_eq_zero h1
  exact ⟨_, rfl⟩
theorem len2 {α : Type} {xs : List α} (h : xs.length = 2) : ∃ a0 a1, xs = [a0, a1] := by
  obtain ⟨a0, t0, rfl⟩ := List.exists_cons_of_length_eq_add_one h; have h1 := Nat.succ.inj h; obtain ⟨a1, t1, rfl⟩ := List.exists_cons_of_length_eq_add_one h1; have h2 := Nat.succ.inj h1
  obtain rfl := List.eq_nil_of_length_eq_zero h2
  exact ⟨_, _, rfl⟩
theorem len3 {α : Type} {xs : List α} (h : xs.length = 3) : ∃ a0 a1 a2, xs = [a0, a1, a2] := by
  obtain ⟨a0, t0, rfl⟩ := List.exists_cons_of_length_eq_add_one h; have h1 := Nat.succ.inj h; obtain ⟨a1, t1, rfl⟩ := List.exists_cons_of_length_eq_add_one h1; have h2 := Nat.succ.inj h1; obtain ⟨a2, t2, rfl⟩ := List.exists_cons_of_length_eq_add_one h2; have h3 := Nat.succ.inj h2
  obtain rfl := List.eq_nil_of_length_eq_zero h3
  exact ⟨_, _, _, rfl⟩
theorem len4 {α : Type} {xs : List α} (h : xs.length = 4) : ∃ a0 a1 a2 a3, xs = [a0, a1, a2, a3] := by
  obtain ⟨a0, t0, rfl⟩ := List.exists_cons_of_length_eq_add_one h; have h1 := Nat.succ.inj h; obtain ⟨a1, t1, rfl⟩ := List.exists_cons_of_length_eq_add_one h1; have h2 := Nat.succ.inj h1; obtain ⟨a2, t2, rfl⟩ := List.exists_cons_of_length_eq_add_one h2; have h3 := Nat.succ.inj h2; obtain ⟨a3, t3, rfl⟩ := List.exists_cons_of_length_eq_add_one h3; have h4 := Nat.succ.inj h3
  obtain rfl := List.eq_nil_of_length_eq_zero h4
  exact ⟨_, _, _, _, rfl⟩
theorem len5 {α : Type} {xs : List α} (h : xs.length = 5) : ∃ a0 a1 a2 a3 a4, xs = [a0, a1, a2, a3, a4] := by
  obtain ⟨a0, t0, rfl⟩ := List.exists_cons_of_length_eq_add_one h; have h1 := Nat.succ.inj h; obtain ⟨a1, t1, rfl⟩ := List.exists_cons_of_length_eq_add_one h1; have h2 := Nat.succ.inj h1; obtain ⟨a2, t2, rfl⟩ := List.exists_cons_of_length_eq_add_one h2; have h3 := Nat.succ.inj h2; obtain ⟨a3, t3, rfl⟩ := List.exists_cons_of_length_eq_add_one h3; have h4 := Nat.succ.inj h3; obtain ⟨a4, t4, rfl⟩ := List.exists_cons_of_length_eq_add_one h4; have h5 := Nat.succ.inj h4
  obtain rfl := List.eq_nil_of_length_eq_zero h5
  exact ⟨_, _, _, _, _, rfl⟩
theorem len12 {α : Type} {xs : List α} (h : xs.length = 12) : ∃ a0 a1 a2 a3 a4 a5 a6 a7 a8 a9 a10 a11, xs = [a0, a1, a2, a3, a4, a5, a6, a7, a8, a9, a10, a11] := by
  obtain ⟨a0, t0, rfl⟩ := List.exists_cons_of_length_eq_add_one h; have h1 := Nat.succ.inj h; obtain ⟨a1, t1, rfl⟩ := List.exists_cons_of_length_eq_add_one h1; have h2 := Nat.succ.inj h1; obtain ⟨a2, t2, rfl⟩ := List.exists_cons_of_length_eq_add_one h2; have h3 := Nat.succ.inj h2; obtain ⟨a3, t3, rfl⟩ := List.exists_cons_of_length_eq_add_one h3; have h4 := Nat.succ.inj h3; obtain ⟨a4, t4, rfl⟩ := List.exists_cons_of_length_eq_add_one h4; have h5 := Nat.succ.inj h4; obtain ⟨a5, t5, rfl⟩ := List.exists_cons_of_length_eq_add_one h5; have h6 := Nat.succ.inj h5; obtain ⟨a6, t6, rfl⟩ := List.exists_cons_of_length_eq_add_one h6; have h7 := Nat.succ.inj h6; obtain ⟨a7, t7, rfl⟩ := List.exists_cons_of_length_eq_add_one h7; have h8 := Nat.succ.inj h7; obtain ⟨a8, t8, rfl⟩ := List.exists_cons_of_length_eq_add_one h8; have h9 := Nat.succ.inj h8; obtain ⟨a9, t9, rfl⟩ := List.exists_cons_of_length_eq_add_one h9; have h10 := Nat.succ.inj h9; obtain ⟨a10, t10, rfl⟩ := List.exists_cons_of_length_eq_add_one h10; have h11 := Nat.succ.inj h10; obtain ⟨a11, t11, rfl⟩ := List.exists_cons_of_length_eq_add_one h11; have h12 := Nat.succ.inj h11
  obtain rfl := List.eq_nil_of_length_eq_zero h12
  exact ⟨_, _, _, _, _, _, _, _, _, _, _, _, rfl⟩
theorem len13 {α : Type} {xs : List α} (h : xs.length = 13) : ∃ a0 a1 a2 a3 a4 a5 a6 a7 a8 a9 a10 a11 a12, xs = [a0, a1, a2, a3, a4, a5, a6, a7, a8, a9, a10, a11, a12] := by
  obtain ⟨a0, t0, rfl⟩ := List.exists_cons_of_length_eq_add_one h; have h1 := Nat.succ.inj h; obtain ⟨a1, t1, rfl⟩ := List.exists_cons_of_length_eq_add_one h1; have h2 := Nat.succ.inj h1; obtain ⟨a2, t2, rfl⟩ := List.exists_cons_of_length_eq_add_one h2; have h3 := Nat.succ.inj h2; obtain ⟨a3, t3, rfl⟩ := List.exists_cons_of_length_eq_add_one h3; have h4 := Nat.succ.inj h3; obtain ⟨a4, t4, rfl⟩ := List.exists_cons_of_length_eq_add_one h4; have h5 := Nat.succ.inj h4; obtain ⟨a5, t5, rfl⟩ := List.exists_cons_of_length_eq_add_one h5; have h6 := Nat.succ.inj h5; obtain ⟨a6, t6, rfl⟩ := List.exists_cons_of_length_eq_add_one h6; have h7 := Nat.succ.inj h6; obtain ⟨a7, t7, rfl⟩ := List.exists_cons_of_length_eq_add_one h7; have h8 := Nat.succ.inj h7; obtain ⟨a8, t8, rfl⟩ := List.exists_cons_of_length_eq_add_one h8; have h9 := Nat.succ.inj h8; obtain ⟨a9, t9, rfl⟩ := List.exists_cons_of_length_eq_add_one h9; have h10 := Nat.succ.inj h9; obtain ⟨a10, t10, rfl⟩ := List.exists_cons_of_length_eq_add_one h10; have h11 := Nat.succ.inj h10; obtain ⟨a11, t11, rfl⟩ := List.exists_cons_of_length_eq_add_one h11; have h12 := Nat.succ.inj h11; obtain ⟨a12, t12, rfl⟩ := List.exists_cons_of_length_eq_add_one h12; have h13 := Nat.succ.inj h12
  obtain rfl := List.eq_nil_of_length_eq_zero h13
  exact ⟨_, _, _, _, _, _, _, _, _, _, _, _, _, rfl⟩
end UL

set_option Elab.async false
set_option linter.all false
set_option maxRecDepth 100000
/-! own: an operator of an own class, != of a class that has == alone, C(*xs) -/
namespace UL
open PySem PySem.Spec PyProof.Rows L2 Evl TL

/-! ### an operator -/
section
variable {X : Cx} {CX : CXT} {k : Nat} {f C : Addr} {fd : FuncData} {ps : List Str} {sp : Sp}
/-- x op y, both of the class at C; the answer is an object -/
def rOwnBin (C : Addr) (sp : Sp) (E : XK) : R2 := fun x y H Q => ∃ a b dx fs dy gs, x = .ref a ∧ y = .ref b ∧ H a = some (.ins C dx fs) ∧ H b = some (.ins C dy gs) ∧ sp [.ref a, .ref b] H (fun v H' => ∃ c, v = .ref c ∧ Q (.ref c) H') E
/-- .. what is raised is wished for at the slots -/
def tOwnBin (C : Addr) (sp : Sp) (E : L2.St → XK) (ta tb : TE) : TE := fun σ H Q => ta σ H fun x H1 => tb σ H1 fun y H2 => rOwnBin C sp (E σ) x y H2 Q
theorem own_bin {op : Operator} {E : XK} {pins : List (Addr × Obj)} {σ : L2.St} {H : Hp} {s : Shared} {x y : V} {v u : Value} {Q : VK} (F : FnOk X.prog X.w X.K X.mg X.base CX k f fd ps sp) (hr : Room k X.A) (hc : PySem.W.selfFirst X.K C = true) (hs : PySem.W.findIn X.K (.ref C) (PySem.dunder op.info.2) = some (some (.ref f)))
    (hf : PySem.W.isFn X.K (.ref f) = true) (hb : L2.Binds X.K fd ps []) (out : PassesAt CX X σ E) (I : Inv X pins σ H s) (rx : RelV x v) (ry : RelV y u) (h : rOwnBin C sp E x y H Q) : wpAny (model X.prog X.w) X.A (binaryOp op v u) (EP X pins σ Q) X.xe s := by
  obtain ⟨a, b, dx, fs, dy, gs, rfl, rfl, ha, hb2, q⟩ := h
  cases rx
  cases ry
  obtain ⟨_, J, _⟩ := ins_get I.hok ha
  obtain ⟨_, J, _⟩ := J.look
  obtain ⟨_, J', _⟩ := ins_get I.hok hb2
  obtain ⟨_, J', _⟩ := J'.look
  obtain ⟨_, fr⟩ := I.fr
  refine PySem.W.binop_K fr I.ok.mod.kin J J'.type hc hs hf ?_
  have r2 : Vals [V.ref a, V.ref b] [Value.ref a, Value.ref b] := .cons rfl (.cons rfl .nil)
  have n2 : [Value.ref a, Value.ref b].length = ps.length := r2.length.symm.trans (F.len _ _ _ _ q)
  have bd := hb s [Value.ref a, Value.ref b] I.kIn (by rw [List.append_nil]; exact n2)
  rw [List.append_nil] at bd
  refine wpAny_call (codeAny_mono (F.run X.A X.stack s H ⟨[.ref a, .ref b], []⟩ [.ref a, .ref b] [.ref a, .ref b] _ E hr I.env0 bd r2 q) fun rr s' z => ?_)
  match rr, z with
  | .error er, z => exact out pins H s er s' I z
  | .ok (.ret w), z =>
    obtain ⟨v, H', I', rv, c, rfl, q'⟩ := I.after z
    cases rv
    exact ⟨V.ref c, H', I', rfl, q'⟩
  | .ok .next, z => exact False.elim z
  | .ok .brk, z => exact False.elim z
  | .ok .cont, z => exact False.elim z
theorem op_ownBin {op : Operator} {E : XK} (F : FnOk X.prog X.w X.K X.mg X.base CX k f fd ps sp) (hr : Room k X.A) (hc : PySem.W.selfFirst X.K C = true) (hs : PySem.W.findIn X.K (.ref C) (PySem.dunder op.info.2) = some (some (.ref f))) (hf : PySem.W.isFn X.K (.ref f) = true) (hb : L2.Binds X.K fd ps []) (out : Passes CX X E) :
    OpR X (binaryOp op) (rOwnBin C sp E) := fun pins s σ H x y v u Q I rx ry h => own_bin F hr hc hs hf hb (fun pins H s e s' I c => out pins σ H s e s' I c) I rx ry h
theorem pe_ownBinS {a b : Expr} {ta tb : TE} {pos : Pos} {op : Operator} {E : L2.St → XK} (F : FnOk X.prog X.w X.K X.mg X.base CX k f fd ps sp) (hr : Room k X.A) (hc : PySem.W.selfFirst X.K C = true) (hs : PySem.W.findIn X.K (.ref C) (PySem.dunder op.info.2) = some (some (.ref f))) (hf : PySem.W.isFn X.K (.ref f) = true) (hb : L2.Binds X.K fd ps []) (out : ∀ σ, PassesAt CX X σ (E σ))
    (ha : PE X a ta) (hb2 : PE X b tb) : PE X (.BinOp a op b pos) (tOwnBin C sp E ta tb) := by
  refine ⟨fun pins s σ H Q I h => ?_⟩
  have h' : tOp (rOwnBin C sp (E σ)) ta tb σ H Q := h
  exact wpAny_BinOp (binT ha hb2 I h' fun v u s2 x y H2 I2 rx ry q => own_bin F hr hc hs hf hb (out σ) I2 rx ry q)
end

/-! ### x != y, the class has == alone -/
structure NeC (K : PySem.W.Frag) (C f : Addr) : Prop where
  ne : PySem.W.findIn K (.ref C) "__ne__" = some (some (.builtin "object.__ne__"))
  eq : PySem.W.findIn K (.ref C) "__eq__" = some (some (.ref f))
  fn : PySem.W.isFn K (.ref f) = true
  ob : PySem.W.subIn K (.ref C) (.type "object") = some true
section
variable {prog : Program} {w : World} {A : Around} {E : Value → Shared → Prop} {s : Shared} {K : PySem.W.Frag} {C x f : Addr} {ox : Obj} {od : Option Obj} {b : Value}
theorem slotNe : Slot "object" "__ne__" "object.__ne__" := PySem.F.cmp_object.ne
theorem own_ne {Q : Value → Shared → Prop} (T : NeC K C f) (hK : K.In s.heap) (J : PySem.W.InstAt s.heap x ox C od) (hb : PySem.W.Looks (model prog w) s.heap (typeOf b) (.ref C)) (hu : A.units + 1 < cLine)
    (h : wpAny (model prog w) A.in1 (call (.ref f) [.ref x, b]) (fun v s' => ∃ r, v = .bool r ∧ Q (.bool (!r)) s') E s) : wpAny (model prog w) A (richCompare .NotEq (.ref x) b) Q E s := by
  have inner : wpAny (model prog w) A (call (.builtin "object.__ne__") [.ref x, b]) (fun v s' => ∃ r, v = .bool r ∧ Q (.bool r) s') E s := by
    refine wpAny_call (codeAny_call_builtin slotNe.plain PySem.F.cmpEntry_ne ?_)
    simp only [checkBuiltinCall, PySem.F.cmpKind_ne, PySem.F.cmpSplit_ne]
    refine wpAny_bind ?_
    unfold isInstance
    refine wpAny_bind (J.type.here ((PySem.W.looks_subIn hK T.ob).here ?_))
    refine wpAny_ite_split (fun z => absurd z (by decide)) (fun _ => ?_)
    have body : wpAny (model prog w) A.in1 (Builtin.«object.__ne__» { pos := [Value.ref x, b] }) (fun fin s' => ∃ r, fin = .done (.ret (.bool r)) ∧ Q (.bool r) s') E s := by
      have lim : A.in1.units < cLine := by show A.units + 1 < cLine; exact hu
      unfold Builtin.«object.__ne__»
      repeat (first
        | refine wpAny_bind (m := callSpecialIfBound? (.ref x) (Str.ofString "__eq__") [b]) (PySem.W.ifBound_K hK J T.eq T.fn (wpAny_mono h (fun r t hr => (?_ : (fun z y => _) (some r) t)) fun _ _ z => z))
        | with_reducible refine wpAny_cRoomFor lim ?_
        | wp_step)
      obtain ⟨r0, rfl, hq⟩ := hr
      exact wpAny_bind (m := truthy (.bool r0)) (wpAny_truthy_bool (wpAny_pure ⟨_, rfl, hq⟩))
    have done : ∀ s', s' = s → wpAny (model prog w) A.in1 (Builtin.«object.__ne__» { pos := [Value.ref x, b] }) (fun fin s' => match fin with | .done f => (match (Except.ok f : Result) with | .ok (.ret v) => ∃ r, v = .bool r ∧ Q (.bool r) s' | .ok _ => False | .error e => E e s') | .again c' => c'.quiet = true ∧ codeAny (model prog w) A c' (fun r s' => match r with | .ok (.ret v) => ∃ r, v = .bool r ∧ Q (.bool r) s' | .ok _ => False | .error e => E e s') s') (fun e s' => E e s') s' := by
      rintro _ rfl
      refine wpAny_mono body (fun fin s' z => ?_) fun _ _ z => z
      obtain ⟨r, rfl, q⟩ := z
      exact ⟨r, rfl, q⟩
    have ok := PySem.F.cmpArgs_ne (.ref x) b
    cases sg : Manifest.signature? "object.__ne__" with
    | none => exact wpAny_pure (done s rfl)
    | some sig =>
      simp only [argsOk, sg] at ok
      have ok2 : Bind.checkArgs "object.__ne__" sig ⟨[.ref x, b], []⟩ = pure () := ok
      show wpAny _ A.in1 (Bind.checkArgs "object.__ne__" sig ⟨[.ref x, b], []⟩) _ _ _
      rw [ok2]
      exact wpAny_pure (done s rfl)
  unfold richCompare
  simp only [oneThing_ref]
  refine wpAny_holding (wpAny_bind (wpAny_cRoomFor (by omega) ?_))
  refine wpAny_bind (J.type.here (wpAny_bind (hb.here ?_)))
  have one : wpAny (model prog w) A (tryCompare (.ref x) (cmpInfo .NotEq).2.1 b) (fun r s' => ∃ v, r = some v ∧ Q v s') E s := by
    unfold tryCompare
    refine wpAny_bind ?_
    simp only [callSpecialIfBound?, bindSpecialIfBound?]
    refine wpAny_holding (wpAny_bind (wpAny_bind (wpAny_bind (J.type.here ((PySem.W.looks_findIn hK T.ne).here ?_)))))
    simp only [slotNe.bind]
    refine wpAny_bind (wpAny_askSetting (wpAny_ite ?_))
    have fin : wpAny (model prog w) A (call (.builtin "object.__ne__") ([.ref x] ++ [b]) >>= fun v => pure (some v)) (fun r s' => wpAny (model prog w) A (match r with | some .notImplemented => pure Option.none | Option.none => pure Option.none | some v => pure (some v)) (fun r s' => ∃ v, r = some v ∧ Q v s') E s') E s :=
      wpAny_bind (wpAny_mono inner (fun v s' z => wpAny_pure (by obtain ⟨r, rfl, q⟩ := z; exact wpAny_pure ⟨_, rfl, q⟩)) fun _ _ z => z)
    split
    · exact wpAny_bind (wpAny_pure (wpAny_pure (by exact fin)))
    · exact wpAny_tryCatch (wpAny_bind (wpAny_pure (wpAny_pure (by exact fin))))
  split
  · rename_i q
    simp at q
  · refine wpAny_bind (wpAny_pure ?_)
    simp only [Bool.false_eq_true, if_false]
    refine wpAny_bind (wpAny_mono one (fun r s' z => ?_) fun _ _ e => e)
    obtain ⟨v, rfl, hq⟩ := z
    exact wpAny_pure hq
end
section
variable {X : Cx} {CX : CXT} {k : Nat} {f C : Addr} {fd : FuncData} {ps : List Str} {sp : Sp} {E : XK}
def rOwnNe (C : Addr) (sp : Sp) (E : XK) : R2 := fun x y H Q => ∃ a b dx fs dy gs, x = .ref a ∧ y = .ref b ∧ H a = some (.ins C dx fs) ∧ H b = some (.ins C dy gs) ∧ sp [.ref a, .ref b] H (fun v H' => ∃ c, v = .bl c ∧ Q (.bl (!c)) H') E
theorem op_ownNe (F : FnOk X.prog X.w X.K X.mg X.base CX k f fd ps sp) (hr : Room (k + 1) X.A) (T : NeC X.K C f) (hb : L2.Binds X.K fd ps []) (out : Passes CX X E) : OpR X (compareOp .NotEq) (rOwnNe C sp E) := by
  intro pins s σ H x y v u Q I rx ry h
  obtain ⟨a, b, dx, fs, dy, gs, rfl, rfl, ha, hb2, q⟩ := h
  cases rx
  cases ry
  obtain ⟨_, J, _⟩ := ins_get I.hok ha
  obtain ⟨_, J, _⟩ := J.look
  obtain ⟨_, J', _⟩ := ins_get I.hok hb2
  obtain ⟨_, J', _⟩ := J'.look
  show wpAny _ _ (richCompare .NotEq (.ref a) (.ref b)) _ _ _
  refine own_ne T I.kIn J J'.type (by have := hr.units; omega) ?_
  have r2 : Vals [V.ref a, V.ref b] [Value.ref a, Value.ref b] := .cons rfl (.cons rfl .nil)
  have n2 : [Value.ref a, Value.ref b].length = ps.length := r2.length.symm.trans (F.len _ _ _ _ q)
  have bd := hb s [Value.ref a, Value.ref b] I.kIn (by rw [List.append_nil]; exact n2)
  rw [List.append_nil] at bd
  refine wpAny_call (codeAny_mono (F.run X.A.in1 X.stack s H ⟨[.ref a, .ref b], []⟩ [.ref a, .ref b] [.ref a, .ref b] _ E hr.in1 I.env0.in1 bd r2 q) fun rr s' z => ?_)
  match rr, z with
  | .error er, z => exact out pins σ H s er s' I z
  | .ok (.ret w), z =>
    obtain ⟨v, H', I', rv, c, rfl, q'⟩ := I.after z
    cases rv
    exact ⟨c, rfl, V.bl (!c), H', I', rfl, q'⟩
  | .ok .next, z => exact False.elim z
  | .ok .brk, z => exact False.elim z
  | .ok .cont, z => exact False.elim z
end

/-! ### C(*xs) -/
section
variable {X : Cx} {CX : CXT} {k : Nat} {f C : Addr} {sp : Sp} {E : XK} {x : Str} {e : Expr} {te : TE} {p q pos : Pos}
def tMakeStar (K : PySem.W.Frag) (C : Addr) (sp : Sp) (E : XK) (te : TE) : TE := fun σ H Q => te σ H fun y H1 => ∃ a xs, y = V.ref a ∧ (SqT K H1 a xs ∨ SqL K H1 a xs) ∧ ∀ x dx, H1 x = none → H1 dx = none → dx ≠ x →
  sp (V.ref x :: xs) (upd (upd H1 dx (.own x)) x (.ins C dx [])) (fun v H2 => v = .non ∧ Q (.ref x) H2) E
theorem pe_makeStar (M : Mk X.K C f) (F : FnR X.prog X.w X.K X.mg X.base CX k f sp) (room : Room (k + 1) X.A) (g1 : Gl X x) (g2 : X.mg x = some (.ref C)) (out : Passes CX X E) (he : PE X e te) (g3 : (x == ("__debug__" : Str)) = false := by decide)
    (one : starEach [.Starred e q] X.env = [(true, eval e X.env)] := by rfl) : PE X (.Call (.Name x p) [.Starred e q] [] pos) (tMakeStar X.K C sp E te) := by
  refine ⟨fun pins s σ H Q I h => wpAny_Call_Name_kw (ld_glob I g1 g2 ?_ g3)⟩
  refine PySem.W.callWith_S (h₀ := X.base) I.ok.mod.kin M.kp (thn (he.run pins s σ H _ I h) fun v t ⟨y, H1, I1, ry, a, xs, ey, hxs, z⟩ => ?_) one
  subst ey
  obtain rfl : v = Value.ref a := ry
  exact StX.star_any I1 hxs fun us t2 I2 rv => ⟨I2.kIn, StX.run_makeR M F room out I2 rv z⟩
end
end UL

set_option Elab.async false
set_option linter.all false
set_option maxRecDepth 100000
namespace K05
open PySem PySem.Spec PyProof.Rows L2 Evl TL UL StX
def k_RESERVED : List V := [V.str "fun", V.str "out", V.str "use", V.str "val", V.str "ref", V.str "set", V.str "block", V.str "if", V.str "else", V.str "loop", V.str "end", V.str "part", V.str "pick", V.str "then", V.str "dead"]
/-! ### the text -/
def topS (i : Nat) : Stmt := PySem.Challenge.pw_unnamedlives_k05_books_joined.main.body.getD i (.Pass ⟨0, 0, 0, 0⟩)
abbrev s_copied : Stmt := topS 2
abbrev n_copied : List Str := ["thing", "levels", "part"]
abbrev p_copied : List Str := ["thing", "levels"]
theorem sc_copied : FnScope n_copied p_copied (defScope s_copied) := ⟨rfl, rfl, rfl, by decide +kernel, rfl, by decide +kernel, by decide +kernel⟩
abbrev s_lives_init : Stmt := inClass (topS 3) 0
abbrev n_lives_init : List Str := ["self", "what"]
abbrev p_lives_init : List Str := ["self", "what"]
theorem sc_lives_init : FnScope n_lives_init p_lives_init (defScope s_lives_init) := ⟨rfl, rfl, rfl, by decide +kernel, rfl, by decide +kernel, by decide +kernel⟩
abbrev s_is_whole : Stmt := topS 9
abbrev n_is_whole : List Str := ["thing"]
abbrev p_is_whole : List Str := ["thing"]
theorem sc_is_whole : FnScope n_is_whole p_is_whole (defScope s_is_whole) := ⟨rfl, rfl, rfl, by decide +kernel, rfl, by decide +kernel, by decide +kernel⟩
abbrev s_is_int : Stmt := topS 10
abbrev n_is_int : List Str := ["thing", "low", "high"]
abbrev p_is_int : List Str := ["thing", "low", "high"]
theorem sc_is_int : FnScope n_is_int p_is_int (defScope s_is_int) := ⟨rfl, rfl, rfl, by decide +kernel, rfl, by decide +kernel, by decide +kernel⟩
abbrev s_is_name : Stmt := topS 16
abbrev n_is_name : List Str := ["text", "sign"]
abbrev p_is_name : List Str := ["text"]
theorem sc_is_name : FnScope n_is_name p_is_name (defScope s_is_name) := ⟨rfl, rfl, rfl, by decide +kernel, rfl, by decide +kernel, by decide +kernel⟩
abbrev s_are_sources : Stmt := topS 21
abbrev n_are_sources : List Str := ["sources", "count", "least", "source"]
abbrev p_are_sources : List Str := ["sources", "count"]
theorem sc_are_sources : FnScope n_are_sources p_are_sources (defScope s_are_sources) := ⟨rfl, rfl, rfl, by decide +kernel, rfl, by decide +kernel, by decide +kernel⟩
abbrev s_is_signature : Stmt := topS 22
abbrev n_is_signature : List Str := ["name", "count", "sources"]
abbrev p_is_signature : List Str := ["name", "count", "sources"]
theorem sc_is_signature : FnScope n_is_signature p_is_signature (defScope s_is_signature) := ⟨rfl, rfl, rfl, by decide +kernel, rfl, by decide +kernel, by decide +kernel⟩
abbrev s_sig_init : Stmt := inClass (topS 23) 0
abbrev n_sig_init : List Str := ["self", "name", "count", "sources"]
abbrev p_sig_init : List Str := ["self", "name", "count", "sources"]
theorem sc_sig_init : FnScope n_sig_init p_sig_init (defScope s_sig_init) := ⟨rfl, rfl, rfl, by decide +kernel, rfl, by decide +kernel, by decide +kernel⟩
abbrev s_sig_eq : Stmt := inClass (topS 23) 4
abbrev n_sig_eq : List Str := ["self", "other"]
abbrev p_sig_eq : List Str := ["self", "other"]
theorem sc_sig_eq : FnScope n_sig_eq p_sig_eq (defScope s_sig_eq) := ⟨rfl, rfl, rfl, by decide +kernel, rfl, by decide +kernel, by decide +kernel⟩
abbrev s_draws : Stmt := topS 26
abbrev n_draws : List Str := ["_law_script", "_law_draws_here", "_law_place", "_law_cell", "_law_rest", "_law_turn", "_law_mixed"]
abbrev p_draws : List Str := ["_law_script"]
theorem sc_draws : FnScope n_draws p_draws (defScope s_draws) := ⟨rfl, rfl, rfl, by decide +kernel, rfl, by decide +kernel, by decide +kernel⟩
abbrev s_take : Stmt := topS 27
abbrev n_take : List Str := ["_law_draws_here", "_law_many"]
abbrev p_take : List Str := ["_law_draws_here", "_law_many"]
theorem sc_take : FnScope n_take p_take (defScope s_take) := ⟨rfl, rfl, rfl, by decide +kernel, rfl, by decide +kernel, by decide +kernel⟩
abbrev s_name : Stmt := topS 28
abbrev n_name : List Str := ["_law_draws_here", "_law_k", "_law_letters", "_law_plain", "_law_shape", "_law_word"]
abbrev p_name : List Str := ["_law_draws_here", "_law_k"]
theorem sc_name : FnScope n_name p_name (defScope s_name) := ⟨rfl, rfl, rfl, by decide +kernel, rfl, by decide +kernel, by decide +kernel⟩
abbrev s_integer : Stmt := topS 29
abbrev n_integer : List Str := ["_law_thing"]
abbrev p_integer : List Str := ["_law_thing"]
theorem sc_integer : FnScope n_integer p_integer (defScope s_integer) := ⟨rfl, rfl, rfl, by decide +kernel, rfl, by decide +kernel, by decide +kernel⟩
abbrev s_parts : Stmt := topS 30
abbrev n_parts : List Str := ["_law_draws_here", "_law_word", "_law_count", "_law_mask", "_law_j"]
abbrev p_parts : List Str := ["_law_draws_here", "_law_word"]
theorem sc_parts : FnScope n_parts p_parts (defScope s_parts) := ⟨rfl, rfl, rfl, by decide +kernel, rfl, by decide +kernel, by decide +kernel⟩
abbrev s_book_init : Stmt := inClass (topS 24) 0
abbrev n_book_init : List Str := ["self", "signatures", "every", "by_name", "signature"]
abbrev p_book_init : List Str := ["self", "signatures"]
theorem sc_book_init : FnScope n_book_init p_book_init (defScope s_book_init) := ⟨rfl, rfl, rfl, by decide +kernel, rfl, by decide +kernel, by decide +kernel⟩
abbrev s_book_len : Stmt := inClass (topS 24) 1
abbrev n_book_len : List Str := ["self"]
abbrev p_book_len : List Str := ["self"]
theorem sc_book_len : FnScope n_book_len p_book_len (defScope s_book_len) := ⟨rfl, rfl, rfl, by decide +kernel, rfl, by decide +kernel, by decide +kernel⟩
abbrev s_book_has : Stmt := inClass (topS 24) 2
abbrev n_book_has : List Str := ["self", "name"]
abbrev p_book_has : List Str := ["self", "name"]
theorem sc_book_has : FnScope n_book_has p_book_has (defScope s_book_has) := ⟨rfl, rfl, rfl, by decide +kernel, rfl, by decide +kernel, by decide +kernel⟩
abbrev s_book_get : Stmt := inClass (topS 24) 3
abbrev n_book_get : List Str := ["self", "name"]
abbrev p_book_get : List Str := ["self", "name"]
theorem sc_book_get : FnScope n_book_get p_book_get (defScope s_book_get) := ⟨rfl, rfl, rfl, by decide +kernel, rfl, by decide +kernel, by decide +kernel⟩
abbrev s_book_iter : Stmt := inClass (topS 24) 4
abbrev n_book_iter : List Str := ["self"]
abbrev p_book_iter : List Str := ["self"]
theorem sc_book_iter : FnScope n_book_iter p_book_iter (defScope s_book_iter) := ⟨rfl, rfl, rfl, by decide +kernel, rfl, by decide +kernel, by decide +kernel⟩
abbrev s_book_or : Stmt := inClass (topS 24) 5
abbrev n_book_or : List Str := ["self", "other", "signature", "added", "given"]
abbrev p_book_or : List Str := ["self", "other"]
theorem sc_book_or : FnScope n_book_or p_book_or (defScope s_book_or) := ⟨rfl, rfl, rfl, by decide +kernel, rfl, by decide +kernel, by decide +kernel⟩
abbrev s_own : Stmt := topS 31
abbrev n_own : List Str := ["_law_draws_here", "_law_k", "_law_word"]
abbrev p_own : List Str := ["_law_draws_here", "_law_k"]
theorem sc_own : FnScope n_own p_own (defScope s_own) := ⟨rfl, rfl, rfl, by decide +kernel, rfl, by decide +kernel, by decide +kernel⟩
abbrev s_others : Stmt := topS 32
abbrev n_others : List Str := ["_law_draws_here", "_law_mine", "_law_theirs", "_law_k", "_law_form", "_law_row", "_law_one"]
abbrev p_others : List Str := ["_law_draws_here", "_law_mine"]
theorem sc_others : FnScope n_others p_others (defScope s_others) := ⟨rfl, rfl, rfl, by decide +kernel, rfl, by decide +kernel, by decide +kernel⟩
abbrev s_book_rows : Stmt := topS 33
abbrev n_book_rows : List Str := ["_law_rows", "_law_book", "_law_row"]
abbrev p_book_rows : List Str := ["_law_rows"]
theorem sc_book_rows : FnScope n_book_rows p_book_rows (defScope s_book_rows) := ⟨rfl, rfl, rfl, by decide +kernel, rfl, by decide +kernel, by decide +kernel⟩
abbrev s_due : Stmt := topS 34
abbrev n_due : List Str := ["_law_mine", "_law_theirs", "_law_rows", "_law_row", "_law_twins", "_law_one"]
abbrev p_due : List Str := ["_law_mine", "_law_theirs"]
theorem sc_due : FnScope n_due p_due (defScope s_due) := ⟨rfl, rfl, rfl, by decide +kernel, rfl, by decide +kernel, by decide +kernel⟩
abbrev s_is_book : Stmt := topS 35
abbrev n_is_book : List Str := ["_law_book", "_law_rows", "_law_every", "_law_told", "_law_k", "_law_one"]
abbrev p_is_book : List Str := ["_law_book", "_law_rows"]
theorem sc_is_book : FnScope n_is_book p_is_book (defScope s_is_book) := ⟨rfl, rfl, rfl, by decide +kernel, rfl, by decide +kernel, by decide +kernel⟩
abbrev s_joint : Stmt := topS 36
abbrev n_joint : List Str := ["_law_left", "_law_right", "_law_mine", "_law_theirs", "_law_book", "_law_told", "e", "_law_due_here"]
abbrev p_joint : List Str := ["_law_left", "_law_right", "_law_mine", "_law_theirs"]
theorem sc_joint : FnScope n_joint p_joint (defScope s_joint) := ⟨rfl, rfl, rfl, by decide +kernel, rfl, by decide +kernel, by decide +kernel⟩
abbrev s_law : Stmt := topS 37
abbrev n_law : List Str := ["_law_script", "_law_draws_here", "_law_begun", "_law_mine", "_law_theirs", "_law_left", "_law_right", "_law_k"]
abbrev p_law : List Str := ["_law_script"]
theorem sc_law : FnScope n_law p_law (defScope s_law) := ⟨rfl, rfl, rfl, by decide +kernel, rfl, by decide +kernel, by decide +kernel⟩
structure Adr where
  copied : Addr
  d_copied : FuncData
  lives_init : Addr
  d_lives_init : FuncData
  is_whole : Addr
  d_is_whole : FuncData
  is_int : Addr
  d_is_int : FuncData
  is_name : Addr
  d_is_name : FuncData
  are_sources : Addr
  d_are_sources : FuncData
  is_signature : Addr
  d_is_signature : FuncData
  sig_init : Addr
  d_sig_init : FuncData
  sig_eq : Addr
  d_sig_eq : FuncData
  draws : Addr
  d_draws : FuncData
  take : Addr
  d_take : FuncData
  name : Addr
  d_name : FuncData
  integer : Addr
  d_integer : FuncData
  parts : Addr
  d_parts : FuncData
  book_init : Addr
  d_book_init : FuncData
  book_len : Addr
  d_book_len : FuncData
  book_has : Addr
  d_book_has : FuncData
  book_get : Addr
  d_book_get : FuncData
  book_iter : Addr
  d_book_iter : FuncData
  book_or : Addr
  d_book_or : FuncData
  own : Addr
  d_own : FuncData
  others : Addr
  d_others : FuncData
  book_rows : Addr
  d_book_rows : FuncData
  due : Addr
  d_due : FuncData
  is_book : Addr
  d_is_book : FuncData
  joint : Addr
  d_joint : FuncData
  law : Addr
  d_law : FuncData
  k_sig_init_sources : Addr
  LivesError : Addr
  InvalidSignature : Addr
  UnknownFunction : Addr
  TooLarge : Addr
  DuplicateFunction : Addr
  Signature : Addr
  Book : Addr
  t_DIGITS : Nat
  t_LETTERS : Nat
  t_MOST_CHARACTERS : Nat
  t_MOST_GIVEN : Nat
  t_MOST_PARAMETERS : Nat
  RESERVED : Addr
structure Tx (K : PySem.W.Frag) (mg : Str → Option Value) (A : Adr) : Prop where
  F_copied : FunD K "copied" "copied" (defArgs s_copied) (defBody s_copied) (defScope s_copied) [.int 4] [] A.copied A.d_copied
  g_copied : mg "copied" = some (.ref A.copied)
  F_lives_init : Fun K "__init__" "LivesError.__init__" s_lives_init A.lives_init A.d_lives_init
  b_lives_init : L2.Binds K A.d_lives_init p_lives_init []
  ti_lives_init : PySem.W.typeIn K (.ref A.lives_init) = some (.type "function")
  F_is_whole : Fun K "is_whole" "is_whole" s_is_whole A.is_whole A.d_is_whole
  b_is_whole : L2.Binds K A.d_is_whole p_is_whole []
  g_is_whole : mg "is_whole" = some (.ref A.is_whole)
  F_is_int : Fun K "is_integer_in" "is_integer_in" s_is_int A.is_int A.d_is_int
  b_is_int : L2.Binds K A.d_is_int p_is_int []
  g_is_int : mg "is_integer_in" = some (.ref A.is_int)
  F_is_name : Fun K "is_name" "is_name" s_is_name A.is_name A.d_is_name
  b_is_name : L2.Binds K A.d_is_name p_is_name []
  g_is_name : mg "is_name" = some (.ref A.is_name)
  F_are_sources : Fun K "are_sources" "are_sources" s_are_sources A.are_sources A.d_are_sources
  b_are_sources : L2.Binds K A.d_are_sources p_are_sources []
  g_are_sources : mg "are_sources" = some (.ref A.are_sources)
  F_is_signature : Fun K "is_signature" "is_signature" s_is_signature A.is_signature A.d_is_signature
  b_is_signature : L2.Binds K A.d_is_signature p_is_signature []
  g_is_signature : mg "is_signature" = some (.ref A.is_signature)
  F_sig_init : FunD K "__init__" "Signature.__init__" (defArgs s_sig_init) (defBody s_sig_init) (defScope s_sig_init) [] [("sources", .ref A.k_sig_init_sources)] A.sig_init A.d_sig_init
  q_sig_init_sources : ∀ H : Hp, SqT K H A.k_sig_init_sources []
  o_sig_init_sources : ∃ o, K.lookup A.k_sig_init_sources = some o ∧ o.cls = .type "tuple"
  e_sig_init : Meth K A.Signature "__init__" A.sig_init
  F_sig_eq : Fun K "__eq__" "Signature.__eq__" s_sig_eq A.sig_eq A.d_sig_eq
  b_sig_eq : L2.Binds K A.d_sig_eq p_sig_eq []
  e_sig_eq : Meth K A.Signature "__eq__" A.sig_eq
  F_draws : Fun K "_law_draws" "_law_draws" s_draws A.draws A.d_draws
  b_draws : L2.Binds K A.d_draws p_draws []
  g_draws : mg "_law_draws" = some (.ref A.draws)
  F_take : Fun K "_law_take" "_law_take" s_take A.take A.d_take
  b_take : L2.Binds K A.d_take p_take []
  g_take : mg "_law_take" = some (.ref A.take)
  F_name : Fun K "_law_name" "_law_name" s_name A.name A.d_name
  b_name : L2.Binds K A.d_name p_name []
  g_name : mg "_law_name" = some (.ref A.name)
  F_integer : Fun K "_law_integer" "_law_integer" s_integer A.integer A.d_integer
  b_integer : L2.Binds K A.d_integer p_integer []
  g_integer : mg "_law_integer" = some (.ref A.integer)
  F_parts : Fun K "_law_parts" "_law_parts" s_parts A.parts A.d_parts
  b_parts : L2.Binds K A.d_parts p_parts []
  g_parts : mg "_law_parts" = some (.ref A.parts)
  F_book_init : Fun K "__init__" "Book.__init__" s_book_init A.book_init A.d_book_init
  e_book_init : Meth K A.Book "__init__" A.book_init
  F_book_len : Fun K "__len__" "Book.__len__" s_book_len A.book_len A.d_book_len
  b_book_len : L2.Binds K A.d_book_len p_book_len []
  e_book_len : Meth K A.Book "__len__" A.book_len
  F_book_has : Fun K "__contains__" "Book.__contains__" s_book_has A.book_has A.d_book_has
  b_book_has : L2.Binds K A.d_book_has p_book_has []
  e_book_has : Meth K A.Book "__contains__" A.book_has
  F_book_get : Fun K "__getitem__" "Book.__getitem__" s_book_get A.book_get A.d_book_get
  b_book_get : L2.Binds K A.d_book_get p_book_get []
  e_book_get : Meth K A.Book "__getitem__" A.book_get
  F_book_iter : Fun K "__iter__" "Book.__iter__" s_book_iter A.book_iter A.d_book_iter
  b_book_iter : L2.Binds K A.d_book_iter p_book_iter []
  e_book_iter : Meth K A.Book "__iter__" A.book_iter
  F_book_or : Fun K "__or__" "Book.__or__" s_book_or A.book_or A.d_book_or
  b_book_or : L2.Binds K A.d_book_or p_book_or []
  e_book_or : Meth K A.Book "__or__" A.book_or
  F_own : Fun K "_law_own" "_law_own" s_own A.own A.d_own
  b_own : L2.Binds K A.d_own p_own []
  g_own : mg "_law_own" = some (.ref A.own)
  F_others : Fun K "_law_others" "_law_others" s_others A.others A.d_others
  b_others : L2.Binds K A.d_others p_others []
  g_others : mg "_law_others" = some (.ref A.others)
  F_book_rows : Fun K "_law_book_rows" "_law_book_rows" s_book_rows A.book_rows A.d_book_rows
  b_book_rows : L2.Binds K A.d_book_rows p_book_rows []
  g_book_rows : mg "_law_book_rows" = some (.ref A.book_rows)
  F_due : Fun K "_law_due" "_law_due" s_due A.due A.d_due
  b_due : L2.Binds K A.d_due p_due []
  g_due : mg "_law_due" = some (.ref A.due)
  F_is_book : Fun K "_law_is_book" "_law_is_book" s_is_book A.is_book A.d_is_book
  b_is_book : L2.Binds K A.d_is_book p_is_book []
  g_is_book : mg "_law_is_book" = some (.ref A.is_book)
  F_joint : Fun K "_law_joint_holds" "_law_joint_holds" s_joint A.joint A.d_joint
  b_joint : L2.Binds K A.d_joint p_joint []
  g_joint : mg "_law_joint_holds" = some (.ref A.joint)
  F_law : Fun K "law" "law" s_law A.law A.d_law
  b_law : L2.Binds K A.d_law p_law []
  g_law : mg "law" = some (.ref A.law)
  m_ValueError : mg "ValueError" = none
  m_abs : mg "abs" = none
  m_all : mg "all" = none
  m_bool : mg "bool" = none
  m_dict : mg "dict" = none
  m_int : mg "int" = none
  m_isinstance : mg "isinstance" = none
  m_iter : mg "iter" = none
  m_len : mg "len" = none
  m_list : mg "list" = none
  m_min : mg "min" = none
  m_range : mg "range" = none
  m_str : mg "str" = none
  m_tuple : mg "tuple" = none
  g_LivesError : mg "LivesError" = some (.ref A.LivesError)
  ex_LivesError : UL.ExF K A.LivesError A.lives_init
  g_InvalidSignature : mg "InvalidSignature" = some (.ref A.InvalidSignature)
  ex_InvalidSignature : UL.ExF K A.InvalidSignature A.lives_init
  g_UnknownFunction : mg "UnknownFunction" = some (.ref A.UnknownFunction)
  ex_UnknownFunction : UL.ExF K A.UnknownFunction A.lives_init
  g_TooLarge : mg "TooLarge" = some (.ref A.TooLarge)
  ex_TooLarge : UL.ExF K A.TooLarge A.lives_init
  g_DuplicateFunction : mg "DuplicateFunction" = some (.ref A.DuplicateFunction)
  ex_DuplicateFunction : UL.ExF K A.DuplicateFunction A.lives_init
  g_Signature : mg "Signature" = some (.ref A.Signature)
  cl_Signature : Cls K A.Signature
  ty_Signature : UL.TyF K A.Signature
  mk_Signature : Mk K A.Signature A.sig_init
  na_Signature_name : NoAttr K A.Signature "name"
  na_Signature_count : NoAttr K A.Signature "count"
  na_Signature_sources : NoAttr K A.Signature "sources"
  g_Book : mg "Book" = some (.ref A.Book)
  cl_Book : Cls K A.Book
  ty_Book : UL.TyF K A.Book
  mk_Book : Mk K A.Book A.book_init
  na_Book__given : NoAttr K A.Book "_given"
  na_Book__every : NoAttr K A.Book "_every"
  na_Book__by_name : NoAttr K A.Book "_by_name"
  ks_str : PySem.W.kitOne K (.type "str") (.ref A.Signature) = some false
  ks_tup : PySem.W.kitOne K (.type "tuple") (.ref A.Signature) = some false
  ks_own : PySem.W.kitOne K (.ref A.Signature) (.ref A.Signature) = some true
  kb_own : PySem.W.kitOne K (.ref A.Book) (.ref A.Book) = some true
  te_tt : PySem.W.exmOne K (.ref A.TooLarge) (.ref A.TooLarge) = some true
  te_dd : PySem.W.exmOne K (.ref A.DuplicateFunction) (.ref A.DuplicateFunction) = some true
  te_td : PySem.W.exmOne K (.ref A.TooLarge) (.ref A.DuplicateFunction) = some false
  si_dd : PySem.W.subIn K (.ref A.DuplicateFunction) (.ref A.DuplicateFunction) = some true
  tyS : PySem.W.typeIn K (.ref A.Signature) = some (.type "type")
  sb_str : PySem.W.subIn K (.type "str") (.ref A.Signature) = some false
  sb_tup : PySem.W.subIn K (.type "tuple") (.ref A.Signature) = some false
  fi_book_get : PySem.W.fnIn K A.book_get = true
  si_tt : PySem.W.subIn K (.ref A.TooLarge) (.ref A.TooLarge) = some true
  si_td : PySem.W.subIn K (.ref A.TooLarge) (.ref A.DuplicateFunction) = some false
  sf_Book : PySem.W.selfFirst K A.Book = true
  ne_Sig : PySem.W.findIn K (.ref A.Signature) "__ne__" = some (some (.builtin "object.__ne__"))
  ob_Sig : PySem.W.subIn K (.ref A.Signature) (.type "object") = some true
  c_DIGITS : mg "DIGITS" = some (.str "0123456789" A.t_DIGITS)
  c_LETTERS : mg "LETTERS" = some (.str "abcdefghijklmnopqrstuvwxyz" A.t_LETTERS)
  c_MOST_CHARACTERS : mg "MOST_CHARACTERS" = some (.int 8 A.t_MOST_CHARACTERS)
  c_MOST_GIVEN : mg "MOST_GIVEN" = some (.int 12 A.t_MOST_GIVEN)
  c_MOST_PARAMETERS : mg "MOST_PARAMETERS" = some (.int 4 A.t_MOST_PARAMETERS)
  c_RESERVED : mg "RESERVED" = some (.ref A.RESERVED)
  q_RESERVED : ∀ H : Hp, SqT K H A.RESERVED k_RESERVED
  o_RESERVED : ∃ o, K.lookup A.RESERVED = some o ∧ o.cls = .type "tuple"
section
variable {P : Program} {w : World} {K : PySem.W.Frag} {mg : Str → Option Value} {base : Heap} {A : Adr}
def spTake : Sp := fun vs H Q _ => ∃ d m, vs = [.ref d, .int m] ∧ H d = some (DrO d) ∧ 0 < m ∧ ∀ n : Int, 0 ≤ n → n < m → Q (.int n) H
theorem ok_take (T : Tx K mg A) : FnOk P w K mg base CX0 1 A.take A.d_take p_take spTake := by
  refine T.F_take.ok sc_take (fun vs H Q E h => ?_) (fun cdv Ar outer s H vs Q E hr h => ?_)
  · obtain ⟨d, m, rfl, _⟩ := h
    rfl
  · obtain ⟨d, m, rfl, hd, hm, k⟩ := h
    refine ⟨_, (UL.pss_open 0 (pss_cons (ps_if (pt_cmpR op_eq (pe_callB call_len_seq (by rfl) T.m_len PySem.boot_len (pa_cons (pv 0) pa_nil)) pe_int (nomark _)) (pss_one (ps_ret (UL.pe_close pe_int))) pss_nil)
      (pss_one (ps_ret (UL.pe_close (pe_op op_mod (pe_callTy call_int1 (by rfl) T.m_int (by decide +kernel) (pa_cons (pe_bm PySem.F.plainAttrs_list PySem.F.slot_list_pop PySem.F.type_list_pop mt_popAt (pv 0) (pa_cons pe_int pa_nil)) pa_nil)) (pv 1))))))), ?_⟩
    refine ⟨d, rfl, hd, fun ns g => ?_⟩
    refine ⟨.ref d, rfl, d, _, rfl, .inl (SqL.of upd_same), rfl, _, rfl, ite2 (fun e => ?_) (fun e => ?_)⟩
    · refine ⟨d, ns, upd_same, g, ?_⟩
      show Q _ (upd (upd H d _) d _)
      rw [upd_back hd]
      exact k 0 (Int.le_refl 0) hm
    · obtain ⟨n, r, rfl⟩ : ∃ n r, ns = n :: r := by
        cases ns with
        | nil => exact absurd (decide_eq_true rfl) e
        | cons n r => exact ⟨n, r, rfl⟩
      obtain ⟨n0, n1, gr⟩ := good_tail g
      refine ⟨.ref d, rfl, .inl ⟨rfl, _, SqL.of upd_same⟩, d, _, 0, 0, .int n, rfl, rfl, upd_same, by decide, by decide, (by rw [List.length_map]; exact seq0 _), rfl, .inl ⟨n, rfl, .int m, rfl, n, m, rfl, rfl, hm, d, r, upd_same, gr, ?_⟩⟩
      rw [upd_upd, upd_upd, upd_id hd]
      exact k _ (Int.emod_nonneg _ (by omega)) (Int.emod_lt_of_pos _ hm)
def spDraws (K : PySem.W.Frag) : Sp := fun vs H Q _ => ∃ (a : Addr) (ns : List Int), vs = [.ref a] ∧ SqL K H a (ns.map V.int) ∧ ns.length ≤ 63 ∧ ∀ p, H p = none → Q (.ref p) (upd H p (DrO p))
def DrawsAt (H : Hp) (p : Addr) (i : Nat) (H' : Hp) : Prop := ∃ ms : List Int, H' = upd H p (.lst (ms.map V.int)) ∧ (∀ m ∈ ms, 0 ≤ m ∧ m < 1000003) ∧ ms.length ≤ i
theorem draws_add {H H' : Hp} {p : Addr} {i : Nat} (h : DrawsAt H p i H') (hi : i < 4000) {P : Prop} (k : ∀ ms : List V, H' p = some (.lst ms) → ms.length < sizeLine → (∀ x : Int, DrawsAt H p (i + 1) (upd H' p (.lst (ms ++ [.int (x % 1000003)])))) → P) : P := by
  obtain ⟨ms, rfl, g, hl⟩ := h
  refine k (ms.map V.int) upd_same (by rw [List.length_map]; exact Nat.lt_of_le_of_lt hl (Nat.lt_trans hi (by decide))) fun x => ⟨ms ++ [x % 1000003], ?_, good_add g emod_in, ?_⟩
  · rw [upd_upd, List.map_append]
    rfl
  · rw [List.length_append, List.length_singleton]
    omega
theorem ok_draws (T : Tx K mg A) : FnOk P w K mg base CX0 1 A.draws A.d_draws p_draws (spDraws K) := by
  refine T.F_draws.ok sc_draws (fun vs H Q E h => ?_) (fun cdv Ar outer s H vs Q E hr h => ?_)
  · obtain ⟨a, ns, rfl, _⟩ := h
    rfl
  · obtain ⟨a, ns, rfl, hS, hlen, k⟩ := h
    refine ⟨_, (pss_cons (ps_set (i := 1) sc_draws.nd rfl (Or.inl rfl) (pe_lst pa_nil))
      (pss_cons (ps_for PassesOwn.never rfl (pi_range1 (by rfl) T.m_range (pa_cons (pe_callB (call_min2 rfl) (by rfl) T.m_min (by decide +kernel) (pa_cons pe_int (pa_cons (pe_callB call_len_seq (by rfl) T.m_len PySem.boot_len (pa_cons (pv 0) pa_nil)) pa_nil))) pa_nil)) (pg_name (i := 2) sc_draws.nd rfl (Or.inl rfl)) (pss_cons (ps_set (i := 3) sc_draws.nd rfl (Or.inl rfl) (pe_callTy call_int1 (by rfl) T.m_int (by decide +kernel) (pa_cons (pe_ix ix_list (pv 0) (pv 2) (fun _ _ => rfl)) pa_nil)))
        (pss_cons (ps_set (i := 4) sc_draws.nd rfl (Or.inl rfl) (pe_op op_mul pe_int (pe_callB call_abs (by rfl) T.m_abs (by decide +kernel) (pa_cons (pv 3) pa_nil))))
        (Evl.pss_cut (ps_if (pt_cmpR op_lt (pv 3) pe_int (nomark _)) (pss_one (ps_set (i := 4) sc_draws.nd rfl (Or.inl rfl) (pe_op op_add (pv 4) pe_int))) pss_nil)
        (pss_one (ps_if (pt_cmpR op_lt (pv 4) (pe_op op_mul pe_int (pe_op op_pow pe_int pe_int)) (nomark _)) (pss_one (ps_for PassesOwn.never rfl (pi_range1 (by rfl) T.m_range (pa_cons pe_int pa_nil)) (pg_name (i := 5) sc_draws.nd rfl (Or.inl rfl)) (pss_cons (ps_set (i := 6) sc_draws.nd rfl (Or.inl rfl) (pe_op op_mod (pe_callTy call_int1 (by rfl) T.m_int (by decide +kernel) (pa_cons (pe_op op_add (pe_op op_mul (pe_op op_add (pv 4) pe_int) (pe_op op_add pe_int (pe_op op_mul pe_int (pv 2)))) (pe_op op_mul pe_int (pv 5))) pa_nil)) pe_int))
            (pss_cons (ps_set (i := 6) sc_draws.nd rfl (Or.inl rfl) (pe_op op_mod (pe_callTy call_int1 (by rfl) T.m_int (by decide +kernel) (pa_cons (pe_op op_mul (pv 6) (pv 6)) pa_nil)) pe_int))
            (pss_one (ps_expr (pe_bm PySem.F.plainAttrs_list PySem.F.slot_list_append PySem.F.type_list_append mt_append (pv 1) (pa_cons (pe_op op_mod (pe_callTy call_int1 (by rfl) T.m_int (by decide +kernel) (pa_cons (pv 6) pa_nil)) pe_int) pa_nil)))))))) (pss_one (ps_for PassesOwn.never rfl (pi_range1 (by rfl) T.m_range (pa_cons pe_int pa_nil)) (pg_name (i := 5) sc_draws.nd rfl (Or.inl rfl)) (pss_one (ps_if (pt_cmpR op_gt (pv 4) pe_int (nomark _)) (pss_cons (ps_expr (pe_bm PySem.F.plainAttrs_list PySem.F.slot_list_append PySem.F.type_list_append mt_append (pv 1) (pa_cons (pe_op op_mod (pe_callTy call_int1 (by rfl) T.m_int (by decide +kernel) (pa_cons (pv 4) pa_nil)) pe_int) pa_nil)))
              (pss_one (ps_set (i := 4) sc_draws.nd rfl (Or.inl rfl) (pe_op op_fdiv (pv 4) pe_int)))) pss_nil))))))))))
      (pss_one (ps_ret (UL.pe_close (pv 1)))))), ?_⟩
    refine ⟨Nat.zero_le _, fun p hp => ?_⟩
    have eL : ∀ {j H'}, DrawsAt H p j H' → SqL K H' a (ns.map V.int) := fun ⟨ms, e, _⟩ => by
      rw [e]
      exact (same_upd hp).seq hS
    refine ⟨.ref a, rfl, a, _, rfl, .inl ((same_upd hp).seq hS), 63, _, rfl, ?_⟩
    have hm : (if (((ns.map V.int).length : Nat) : Int) < 63 then (((ns.map V.int).length : Nat) : Int) else 63) = (ns.length : Int) := by
      rw [List.length_map]
      split <;> omega
    rw [hm]
    refine ⟨(ns.length : Int), rfl, forR1 ⟨by omega, by omega⟩ (fun i σ H' => ∃ v2 v3 v4 v5 v6, σ = [some (.ref a), some (.ref p), v2, v3, v4, v5, v6] ∧ DrawsAt H p (60 * i) H') ⟨none, none, none, none, none, rfl, [], rfl, fun _ h => (nomatch h), Nat.le_refl _⟩ ?_ ?_⟩
    · rintro i σ' H' hi ⟨v2, v3, v4, v5, v6, rfl, hD⟩
      have hi' : i < ns.length := by omega
      -- cell, rest
      refine ⟨.ref a, rfl, .int (i : Int), rfl, a, _, _, .int ns[i], rfl, rfl, eL hD, atI_nat (int_get hi'), .inl ⟨ns[i], rfl, ?_⟩⟩
      refine ⟨.int ns[i], rfl, ns[i], rfl, 2, _, rfl, rfl, .inl ⟨by decide, by decide⟩, ?_⟩
      have h0 : 0 ≤ 2 * (if ns[i] < 0 then -ns[i] else ns[i]) := by split <;> omega
      refine ⟨fun σ2 H2 => ∃ r : Int, 0 ≤ r ∧ σ2 = [some (.ref a), some (.ref p), some (.int (i : Int)), some (.int ns[i]), some (.int r), v5, v6] ∧ H2 = H', ?_, ?_⟩
      · refine ⟨_, rfl, _, 0, rfl, rfl, _, rfl, ite2 (fun _ => ?_) (fun _ => ?_)⟩
        · exact ⟨_, rfl, _, 1, rfl, rfl, _, Int.le_add_one h0, rfl, rfl⟩
        · exact ⟨_, h0, rfl, rfl⟩
      · generalize ns[i] = c
        rintro σ2 H2 ⟨r, h0, rfl, rfl⟩
        refine ⟨.int r, rfl, 10, 18, rfl, rfl, ⟨by decide, by decide, by decide⟩, 2, _, rfl, rfl, .inl ⟨by decide, by decide⟩, r, _, rfl, rfl, _, rfl, ite2 (fun e => ?_) (fun e => ?_)⟩
        · have hr1 : r < 2 * 10 ^ 18 := of_decide_eq_true e
          refine ⟨4, rfl, forR1 ⟨by decide, by decide⟩ (fun t σ H' => ∃ v5 v6, σ = [some (.ref a), some (.ref p), some (.int (i : Int)), some (.int c), some (.int r), v5, v6] ∧ DrawsAt H p (60 * i + t) H') ⟨_, _, rfl, hD⟩ ?_ ?_⟩
          · rintro t σ' H' ht ⟨v5, v6, rfl, hD⟩
            have hi63 : (i : Int) < 63 := by omega
            refine ⟨_, rfl, r, 1, rfl, rfl, _, rfl, 2, _, rfl, rfl, .inl ⟨by decide, by decide⟩, 48271, _, rfl, rfl, _, _, rfl, rfl, .inr ⟨by omega, by omega⟩, _, rfl, 69621, _, rfl, rfl, .inl ⟨by decide, by decide⟩, _, _, rfl, rfl, .inl ⟨_, rfl, _, 2147483647, rfl, rfl, (show (0 : Int) < 2147483647 by decide), ?_⟩⟩
            have hx0 : 0 ≤ ((r + 1) * (48271 + 2 * (i : Int)) + 69621 * (t : Int)) % 2147483647 := Int.emod_nonneg _ (by decide)
            have hx1 : ((r + 1) * (48271 + 2 * (i : Int)) + 69621 * (t : Int)) % 2147483647 < 2147483647 := Int.emod_lt_of_pos _ (by decide)
            refine ⟨_, rfl, _, rfl, _, _, rfl, rfl, .inl ⟨Int.lt_of_lt_of_le (by decide) hx0, Int.lt_trans hx1 (by decide)⟩, .inl ⟨_, rfl, _, 2147483629, rfl, rfl, (show (0 : Int) < 2147483629 by decide), ?_⟩⟩
            refine draws_add hD (by omega) fun ms h1 h2 h3 => ?_
            refine ⟨.ref p, rfl, .inl ⟨rfl, _, SqL.of h1⟩, _, rfl, .inl ⟨_, rfl, _, 1000003, rfl, rfl, (show (0 : Int) < 1000003 by decide), p, ms, _, rfl, rfl, h1, h2, ?_⟩⟩
            exact ⟨_, _, rfl, h3 _⟩
          · rintro σ' H' ⟨v5, v6, rfl, ms, e, g, hl⟩
            exact ⟨_, _, _, _, _, rfl, ms, e, g, Nat.le_trans hl (by show 60 * i + 4 ≤ 60 * (i + 1); omega)⟩
        · refine ⟨60, rfl, forR1 ⟨by decide, by decide⟩ (fun t σ H' => ∃ r v5 v6, σ = [some (.ref a), some (.ref p), some (.int (i : Int)), some (.int c), some (.int r), v5, v6] ∧ DrawsAt H p (60 * i + t) H') ⟨_, _, _, rfl, hD⟩ ?_ ?_⟩
          · rintro t σ' H' ht ⟨r, v5, v6, rfl, hD⟩
            refine ⟨.int r, rfl, r, 0, rfl, rfl, _, rfl, ite2 (fun _ => ?_) (fun _ => ?_)⟩
            · refine draws_add hD (by omega) fun ms h1 h2 h3 => ?_
              refine ⟨.ref p, rfl, .inl ⟨rfl, _, SqL.of h1⟩, .int r, rfl, .inl ⟨r, rfl, r, 1000003, rfl, rfl, (show (0 : Int) < 1000003 by decide), p, ms, _, rfl, rfl, h1, h2, ?_⟩⟩
              refine ⟨.int r, rfl, r, 1000003, rfl, rfl, ⟨by decide, by decide⟩, ?_⟩
              exact ⟨_, _, _, rfl, h3 _⟩
            · obtain ⟨ms, e, g, hl⟩ := hD
              exact ⟨_, _, _, rfl, ms, e, g, Nat.le_succ_of_le hl⟩
          · rintro σ' H' ⟨r, v5, v6, rfl, ms, e, g, hl⟩
            exact ⟨_, _, _, _, _, rfl, ms, e, g, Nat.le_trans hl (by show 60 * i + 60 ≤ 60 * (i + 1); omega)⟩
    · rintro σ' H' ⟨v2, v3, v4, v5, v6, rfl, ms, rfl, g, hl⟩
      refine ⟨.ref p, rfl, p, ms, upd_same, ⟨g, Nat.le_trans hl (by omega)⟩, ?_⟩
      rw [upd_upd]
      exact k p hp
def kWords : List V := [V.str "fun", V.str "out", V.str "use", V.str "val", V.str "ref", V.str "set", V.str "block", V.str "if", V.str "else", V.str "loop", V.str "end", V.str "part", V.str "pick", V.str "then", V.str "dead"]
def NoStr (H : Hp) (v : V) : Prop := v = .non ∨ (∃ b, v = .bl b) ∨ (∃ i, v = .int i) ∨ (∃ a xs, v = .ref a ∧ (H a = some (.lst xs) ∨ H a = some (.tup xs))) ∨ ∃ a kvs, v = .ref a ∧ H a = some (.dK kvs)
def Th (H : Hp) (v : V) : Prop := (∃ z, v = .str z ∧ z.length ≤ 2000) ∨ NoStr H v
theorem Th.mono {H H' : Hp} {v : V} (e : Ex H H') (h : Th H v) : Th H' v := by
  rcases h with h | h | h | h | ⟨a, xs, h, h1 | h1⟩ | ⟨a, kvs, h, h1⟩
  · exact .inl h
  · exact .inr (.inl h)
  · exact .inr (.inr (.inl h))
  · exact .inr (.inr (.inr (.inl h)))
  · exact .inr (.inr (.inr (.inr (.inl ⟨a, xs, h, .inl (e _ _ h1)⟩))))
  · exact .inr (.inr (.inr (.inr (.inl ⟨a, xs, h, .inr (e _ _ h1)⟩))))
  · exact .inr (.inr (.inr (.inr (.inr ⟨a, kvs, h, e _ _ h1⟩))))
def isS : V → Bool
  | .str _ => true
  | _ => false
theorem Th.isi {K : PySem.W.Frag} {H : Hp} {v : V} (h : Th H v) : ∃ t, TyX K H v t ∧ PySem.W.kitOne K t (.type "str") = some (isS v) := by
  rcases h with ⟨z, rfl, _⟩ | rfl | ⟨b, rfl⟩ | ⟨i, rfl⟩ | ⟨a, xs, rfl, h1 | h1⟩ | ⟨a, kvs, rfl, h1⟩
  · exact ⟨_, .base (.str z), kit_ty (r := true) (by decide +kernel)⟩
  · exact ⟨_, .base .non, kit_ty (r := false) (by decide +kernel)⟩
  · exact ⟨_, .base (.bl b), kit_ty (r := false) (by decide +kernel)⟩
  · exact ⟨_, .base (.int i), kit_ty (r := false) (by decide +kernel)⟩
  · exact ⟨_, .base (.lst h1), kit_ty (r := false) (by decide +kernel)⟩
  · exact ⟨_, .base (.tup h1), kit_ty (r := false) (by decide +kernel)⟩
  · exact ⟨_, .base (.dK h1), kit_ty (r := false) (by decide +kernel)⟩
def wordsS : List Str := ["fun", "out", "use", "val", "ref", "set", "block", "if", "else", "loop", "end", "part", "pick", "then", "dead"]
theorem kWords_eq : kWords = wordsS.map V.str := rfl
def alnum (c : Nat) : Bool := decide (c ∈ tl "abcdefghijklmnopqrstuvwxyz") || decide (c ∈ tl "0123456789")
def okS (z : Str) : Bool := decide (1 ≤ z.length) && decide (z.length ≤ 8) && (match tl z with | c :: _ => decide (c ∈ tl "abcdefghijklmnopqrstuvwxyz") | [] => false) && !inV (.str z) kWords && (tl z).all alnum
def nm : V → Bool
  | .str z => okS z
  | _ => false
theorem nm_no {v : V} (h : isS v = false) : nm v = false := by
  cases v <;> first | rfl | cases h
theorem isS_yes {v : V} (h : isS v = true) : ∃ z, v = .str z := by
  cases v with
  | str z => exact ⟨z, rfl⟩
  | _ => cases h
def spIsName : Sp := fun vs H Q _ => ∃ v, vs = [v] ∧ Th H v ∧ ∀ H', Ex H H' → Q (.bl (nm v)) H'
theorem ok_is_name (T : Tx K mg A) : FnOk P w K mg base CX0 1 A.is_name A.d_is_name p_is_name spIsName := by
  refine T.F_is_name.ok sc_is_name (fun vs H Q E h => ?_) (fun cdv Ar outer s H vs Q E hr h => ?_)
  · obtain ⟨v, rfl, _⟩ := h
    rfl
  · obtain ⟨v, rfl, hv, k⟩ := h
    refine ⟨_, (pss_cons (ps_if (PW.pt (pw_or (pt_not (pt_val (pe_callB call_isi (by rfl) T.m_isinstance (by decide +kernel) (pa_cons (pv 0) (pa_cons (pe_bltn (v := .ty "str") (u := .type "str") (by rfl) T.m_str (by decide +kernel) rfl) pa_nil))))) (pw_or1 (pt_not (pt_chain op_le op_le pe_int (pe_callB call_len_str (by rfl) T.m_len PySem.boot_len (pa_cons (pv 0) pa_nil)) (pe_glob (v := .int 8) (by rfl) T.c_MOST_CHARACTERS ⟨_, rfl⟩)))))) (pss_one (ps_ret pe_bl)) pss_nil)
      (pss_cons (ps_if (PW.pt (pw_or (pt_cmpR op_notIn_sign (pe_ix ix_str (pv 0) pe_int (fun _ _ => rfl)) (pe_glob (v := .str "abcdefghijklmnopqrstuvwxyz") (by rfl) T.c_LETTERS ⟨_, rfl⟩) (by rfl)) (pw_or1 (pt_cmpR op_in_seq (pv 0) (pe_glob (v := .ref A.RESERVED) (by rfl) T.c_RESERVED rfl) (by rfl))))) (pss_one (ps_ret pe_bl)) pss_nil)
      (pss_one (ps_ret (pe_callB (cr_all rfl) (by rfl) T.m_all (by decide +kernel) (pa_cons (pe_lc (own := [("sign", 1)]) (g := gName 1) (tt := tYes) rfl sc_is_name.nd (pi_str (pv 0)) (blkOk_by (N := n_is_name) (sc := defScope s_is_name) (by decide +kernel)) (fun _ _ _ _ _ => pg_name (i := 1) sc_is_name.nd rfl (Or.inl rfl)) (fun _ _ _ _ _ => pts_nil) (fun _ _ _ _ _ => (pe_or (pe_cmpR op_in_sign (pv 1) (pe_glob (v := .str "abcdefghijklmnopqrstuvwxyz") (by rfl) T.c_LETTERS ⟨_, rfl⟩) (by rfl)) (pe_one (pe_cmpR op_in_sign (pv 1) (pe_glob (v := .str "0123456789") (by rfl) T.c_DIGITS ⟨_, rfl⟩) (by rfl)))))) pa_nil)))))), ?_⟩
    obtain ⟨t, ht, hk⟩ := hv.isi (K := K)
    refine ⟨v, rfl, v, _, t, _, _, rfl, .ty "str", ht, hk, _, rfl, ?_⟩
    cases hs : isS v with
    | false =>
      refine iteT ?_
      refine iteT ?_
      have q := k H (Ex.refl H)
      rw [nm_no hs] at q
      exact q
    | true =>
      obtain ⟨z, rfl⟩ := isS_yes hs
      have hz : z.length ≤ 2000 := by
        rcases hv with ⟨z', e, h⟩ | e | ⟨_, e⟩ | ⟨_, e⟩ | ⟨_, _, e, _⟩ | ⟨_, _, e, _⟩
        · cases e
          exact h
        all_goals cases e
      refine iteF ?_
      refine ⟨_, rfl, z, rfl, sz_of (by omega), 1, _, rfl, rfl, _, rfl, ?_⟩
      have no : okS z = false → Q (V.bl false) H := fun e => by
        have q := k H (Ex.refl H)
        rw [show nm (V.str z) = false from e] at q
        exact q
      by_cases z1 : 1 ≤ z.length
      · rw [decide_eq_true (show (1 : Int) ≤ (z.length : Int) by omega)]
        refine iteT ?_
        refine ⟨_, 8, rfl, rfl, _, rfl, ?_⟩
        by_cases z8 : z.length ≤ 8
        · rw [decide_eq_true (show (z.length : Int) ≤ 8 by omega)]
          refine iteF ?_
          obtain ⟨c, r, hcr⟩ : ∃ c r, tl z = c :: r := by
            cases e : tl z with
            | nil =>
              rw [len_tl, e] at z1
              exact absurd z1 (by decide)
            | cons c r => exact ⟨c, r, rfl⟩
          refine ⟨_, rfl, z, 0, c, rfl, rfl, sz_of (by omega), atI_nat (j := 0) (by show (tl z)[0]? = _; rw [hcr]; rfl), c, _, rfl, rfl, _, rfl, ?_⟩
          by_cases hc : c ∈ tl "abcdefghijklmnopqrstuvwxyz"
          · rw [decide_eq_true hc]
            refine iteF ?_
            refine ⟨_, rfl, A.RESERVED, k_RESERVED, rfl, .inr (T.q_RESERVED _), rfl, by decide, _, rfl, ?_⟩
            show if inV (.str z) k_RESERVED = true then _ else _
            cases hi : inV (.str z) k_RESERVED with
            | true =>
              refine iteT ?_
              refine no ?_
              unfold okS
              rw [show inV (.str z) kWords = true from hi, Bool.and_eq_false_iff]
              exact .inl (Bool.and_eq_false_iff.mpr (.inr rfl))
            | false =>
              refine iteF ?_
              refine ⟨_, rfl, z, rfl, fun D hD => ?_⟩
              refine lc_str (f := fun c => V.bl (alnum c)) (by omega) hD (fun _ => rfl) (fun c H' _ Q' q => ?_) ?_
              · refine ⟨_, rfl, c, _, rfl, rfl, _, rfl, ite2 (fun h => ?_) (fun h => ?_)⟩
                · have e : alnum c = true := by
                    unfold alnum
                    rw [show decide (c ∈ tl "abcdefghijklmnopqrstuvwxyz") = true from h, Bool.true_or]
                  rw [e] at q
                  exact q
                · refine ⟨_, rfl, c, _, rfl, rfl, ?_⟩
                  have e : alnum c = decide (c ∈ tl "0123456789") := by
                    unfold alnum
                    rw [show decide (c ∈ tl "abcdefghijklmnopqrstuvwxyz") = false from by simpa using h, Bool.false_or]
                  rw [e] at q
                  exact q
              · refine ⟨D, (tl z).map alnum, rfl, SqL.of (by rw [upd_same, List.map_map]; rfl), ?_⟩
                have e : okS z = ((tl z).map alnum).all id := by
                  unfold okS
                  rw [decide_eq_true z1, decide_eq_true z8, hcr, show inV (.str z) kWords = false from hi, List.all_map]
                  show (decide (c ∈ tl "abcdefghijklmnopqrstuvwxyz") && true && _) = _
                  rw [decide_eq_true hc]
                  rfl
                have q := k _ (Ex.new hD (o := .lst ((tl z).map fun c => V.bl (alnum c))))
                rw [show nm (V.str z) = ((tl z).map alnum).all id from e] at q
                exact q
          · rw [decide_eq_false hc]
            refine iteT ?_
            refine no ?_
            unfold okS
            rw [hcr]
            show (_ && decide (c ∈ tl "abcdefghijklmnopqrstuvwxyz") && _ && _) = false
            rw [decide_eq_false hc, Bool.and_false, Bool.false_and, Bool.false_and]
        · rw [decide_eq_false (show ¬ (z.length : Int) ≤ 8 by omega)]
          refine iteT ?_
          refine no ?_
          unfold okS
          rw [decide_eq_false z8, Bool.and_false, Bool.false_and, Bool.false_and, Bool.false_and]
      · rw [decide_eq_false (show ¬ (1 : Int) ≤ (z.length : Int) by omega)]
        refine iteF ?_
        refine ⟨_, rfl, ?_⟩
        refine iteT ?_
        refine no ?_
        unfold okS
        rw [decide_eq_false z1, Bool.false_and, Bool.false_and, Bool.false_and, Bool.false_and]
def tl36 : List Nat := tl "abcdefghijklmnopqrstuvwxyz0123456789"
theorem tl36_eq : tl36 = tl "abcdefghijklmnopqrstuvwxyz" ++ tl "0123456789" := by decide +kernel
theorem alnum36 (c : Nat) : alnum c = decide (c ∈ tl36) := by
  unfold alnum
  rw [tl36_eq]
  by_cases h1 : c ∈ tl "abcdefghijklmnopqrstuvwxyz" <;> by_cases h2 : c ∈ tl "0123456789" <;> simp [h1, h2]
theorem apart : ∀ c ∈ tl "abcdefghijklmnopqrstuvwxyz", c ∉ tl "0123456789" := by decide +kernel
def spCopied : Sp := fun vs H Q _ => ∃ v, vs = [v, .int 4] ∧ flatV v = true ∧ Q v H
theorem ok_copied (T : Tx K mg A) : FnOk P w K mg base CX0 1 A.copied A.d_copied p_copied spCopied := by
  refine T.F_copied.ok sc_copied (fun vs H Q E h => ?_) (fun cdv Ar outer s H vs Q E hr h => ?_)
  · obtain ⟨v, rfl, _⟩ := h
    rfl
  · obtain ⟨v, rfl, hv, k⟩ := h
    refine ⟨_, (pss_cons (ps_if (pt_cmpR op_eq (pv 1) pe_int (nomark _)) (pss_one (ps_ret (pv 0))) pss_nil)
      (pss_cons (ps_if (pt_val (pe_callB call_isi (by rfl) T.m_isinstance (by decide +kernel) (pa_cons (pv 0) (pa_cons (pe_bltn (v := .ty "list") (u := .type "list") (by rfl) T.m_list (by decide +kernel) rfl) pa_nil)))) (pss_one ps_never) pss_nil)
      (pss_cons (ps_if (pt_val (pe_callB call_isi (by rfl) T.m_isinstance (by decide +kernel) (pa_cons (pv 0) (pa_cons (pe_bltn (v := .ty "tuple") (u := .type "tuple") (by rfl) T.m_tuple (by decide +kernel) rfl) pa_nil)))) (pss_one ps_never) pss_nil)
      (pss_cons (ps_if (pt_val (pe_callB call_isi (by rfl) T.m_isinstance (by decide +kernel) (pa_cons (pv 0) (pa_cons (pe_bltn (v := .ty "dict") (u := .type "dict") (by rfl) T.m_dict (by decide +kernel) rfl) pa_nil)))) (pss_one ps_never) pss_nil)
      (pss_one (ps_ret (pv 0))))))), ?_⟩
    obtain ⟨t, ht, h1, h2, h3⟩ := flat_ty (K := K) (H := H) hv
    refine ⟨_, rfl, rfl, _, rfl, iteF ?_⟩
    refine ⟨_, rfl, v, _, t, _, _, rfl, .ty "list", ht, h1, _, rfl, iteF ?_⟩
    refine ⟨_, rfl, v, _, t, _, _, rfl, .ty "tuple", ht, h2, _, rfl, iteF ?_⟩
    refine ⟨_, rfl, v, _, t, _, _, rfl, .ty "dict", ht, h3, _, rfl, iteF ?_⟩
    exact ⟨v, rfl, k⟩
theorem ok_lives_init (T : Tx K mg A) : FnOk P w K mg base CX0 2 A.lives_init A.d_lives_init p_lives_init (UL.spWhat K) := by
  refine T.F_lives_init.ok sc_lives_init (fun vs H Q E h => ?_) (fun cdv Ar outer s H vs Q E hr h => ?_)
  · obtain ⟨a, C, v, rfl, _⟩ := h
    rfl
  · obtain ⟨a, C, v, rfl, hv, ha, hC, hw, k⟩ := h
    obtain ⟨ds, hvc, hbc⟩ := T.F_copied.binds1 (ps := p_copied) 1 0 (by simp) rfl (fun T' kV doc pm an cdv ct us its h1 h2 => by
      match us, h1, its, h2 with
      | [u], _, [d], _ => exact ⟨_, rfl, rfl⟩)
    refine ⟨_, (pss_one (ps_ost (pv 0) (pe_call (ok_copied T) (hr.mono (by decide)) (by rfl) T.g_copied T.F_copied.kp hbc hvc pass0 (pa_cons (pv 1) pa_nil)))), ?_⟩
    refine ⟨v, rfl, v, rfl, hv, _, rfl, a, C, rfl, hC, hw, .inl ⟨ha, fun dx hd hne => ?_⟩⟩
    exact k dx hd hne
/-! ### Signature -/
def inI : V → Int → Int → Bool
  | .int i, lo, hi => decide (lo ≤ i) && decide (i ≤ hi)
  | _, _, _ => false
def isInt : V → Bool
  | .int _ => true
  | .bl _ => true
  | _ => false
def isBl : V → Bool
  | .bl _ => true
  | _ => false
theorem Th.int {K : PySem.W.Frag} {H : Hp} {v : V} (h : Th H v) : ∃ t, TyX K H v t ∧ PySem.W.kitOne K t (.type "int") = some (isInt v) ∧ PySem.W.kitOne K t (.type "bool") = some (isBl v) := by
  rcases h with ⟨z, rfl, _⟩ | rfl | ⟨b, rfl⟩ | ⟨i, rfl⟩ | ⟨a, xs, rfl, h1 | h1⟩ | ⟨a, kvs, rfl, h1⟩
  · exact ⟨_, .base (.str z), kit_ty (r := false) (by decide +kernel), kit_ty (r := false) (by decide +kernel)⟩
  · exact ⟨_, .base .non, kit_ty (r := false) (by decide +kernel), kit_ty (r := false) (by decide +kernel)⟩
  · exact ⟨_, .base (.bl b), kit_ty (r := true) (by decide +kernel), kit_ty (r := true) (by decide +kernel)⟩
  · exact ⟨_, .base (.int i), kit_ty (r := true) (by decide +kernel), kit_ty (r := false) (by decide +kernel)⟩
  · exact ⟨_, .base (.lst h1), kit_ty (r := false) (by decide +kernel), kit_ty (r := false) (by decide +kernel)⟩
  · exact ⟨_, .base (.tup h1), kit_ty (r := false) (by decide +kernel), kit_ty (r := false) (by decide +kernel)⟩
  · exact ⟨_, .base (.dK h1), kit_ty (r := false) (by decide +kernel), kit_ty (r := false) (by decide +kernel)⟩
def intB : V → Bool
  | .int _ => true
  | _ => false
def spWhole : Sp := fun vs H Q _ => ∃ v, vs = [v] ∧ Th H v ∧ Q (.bl (intB v)) H
theorem ok_is_whole (T : Tx K mg A) : FnOk P w K mg base CX0 1 A.is_whole A.d_is_whole p_is_whole spWhole := by
  refine T.F_is_whole.ok sc_is_whole (fun vs H Q E h => ?_) (fun cdv Ar outer s H vs Q E hr h => ?_)
  · obtain ⟨v, rfl, _⟩ := h
    rfl
  · obtain ⟨v, rfl, hv, k⟩ := h
    refine ⟨_, (pss_one (ps_ret (pe_and (pe_callB call_isi (by rfl) T.m_isinstance (by decide +kernel) (pa_cons (pv 0) (pa_cons (pe_bltn (v := .ty "int") (u := .type "int") (by rfl) T.m_int (by decide +kernel) rfl) pa_nil))) (pe_one (pe_not (pe_callB call_isi (by rfl) T.m_isinstance (by decide +kernel) (pa_cons (pv 0) (pa_cons (pe_bltn (v := .ty "bool") (u := .type "bool") (by rfl) T.m_bool (by decide +kernel) rfl) pa_nil)))))))), ?_⟩
    obtain ⟨t, ht, h1, h2⟩ := hv.int (K := K)
    refine ⟨_, rfl, v, _, t, _, _, rfl, .ty "int", ht, h1, _, rfl, ?_⟩
    cases v with
    | int i => exact iteT ⟨_, rfl, .int i, _, t, _, _, rfl, .ty "bool", ht, h2, _, rfl, k⟩
    | bl b => exact iteT ⟨_, rfl, .bl b, _, t, _, _, rfl, .ty "bool", ht, h2, _, rfl, k⟩
    | _ => exact iteF k
def spIsInt : Sp := fun vs H Q _ => ∃ v lo hi, vs = [v, .int lo, .int hi] ∧ Th H v ∧ Q (.bl (inI v lo hi)) H
theorem ok_is_int (T : Tx K mg A) : FnOk P w K mg base CX0 2 A.is_int A.d_is_int p_is_int spIsInt := by
  refine T.F_is_int.ok sc_is_int (fun vs H Q E h => ?_) (fun cdv Ar outer s H vs Q E hr h => ?_)
  · obtain ⟨v, lo, hi, rfl, _⟩ := h
    rfl
  · obtain ⟨v, lo, hi, rfl, hv, k⟩ := h
    refine ⟨_, (pss_one (ps_ret (pe_and (pe_call (ok_is_whole T) (hr.mono (by decide)) (by rfl) T.g_is_whole T.F_is_whole.kp T.b_is_whole .nil pass0 (pa_cons (pv 0) pa_nil)) (pe_one (pe_chain op_le op_le (pv 1) (pv 0) (pv 2)))))), ?_⟩
    refine ⟨_, rfl, v, rfl, hv, _, rfl, ?_⟩
    cases v with
    | int i =>
      refine iteT ⟨_, rfl, _, rfl, lo, i, rfl, rfl, _, rfl, ?_⟩
      by_cases e : lo ≤ i
      · rw [decide_eq_true e]
        refine iteT ⟨_, rfl, i, hi, rfl, rfl, ?_⟩
        rw [show inI (.int i) lo hi = decide (i ≤ hi) by show (decide (lo ≤ i) && decide (i ≤ hi)) = _; rw [decide_eq_true e, Bool.true_and]] at k
        exact k
      · rw [decide_eq_false e]
        have q := k
        rw [show inI (.int i) lo hi = false by show (decide (lo ≤ i) && decide (i ≤ hi)) = false; rw [decide_eq_false e, Bool.false_and]] at q
        exact iteF q
    | _ => exact iteF k
def okSrc (n : Int) : Int → List V → Bool
  | _, [] => true
  | l, x :: r => inI x l n && (match x with | .int i => okSrc n (i + 1) r | _ => false)
def srcOk (n : Int) : Option (List V) → Bool
  | some xs => okSrc n 1 xs
  | none => false
def Src (K : PySem.W.Frag) (H : Hp) (v : V) : Option (List V) → Prop
  | some xs => SeqV K H v xs ∧ (∀ x ∈ xs, Th H x) ∧ xs.length ≤ 2500
  | none => NSeq H v
theorem Src.mono {K : PySem.W.Frag} {H H' : Hp} {v : V} {o : Option (List V)} (e : Ex H H') (h : Src K H v o) : Src K H' v o := by
  cases o with
  | none => exact NSeq.mono e h
  | some xs => exact ⟨h.1.mono e, fun x hx => (h.2.1 x hx).mono e, h.2.2⟩
def spSources (K : PySem.W.Frag) : Sp := fun vs H Q _ => ∃ v n o, vs = [v, .int n] ∧ Src K H v o ∧ ∀ H', Ex H H' → Q (.bl (srcOk n o)) H'
theorem ok_are_sources (T : Tx K mg A) : FnOk P w K mg base CX0 3 A.are_sources A.d_are_sources p_are_sources (spSources K) := by
  refine T.F_are_sources.ok sc_are_sources (fun vs H Q E h => ?_) (fun cdv Ar outer s H vs Q E hr h => ?_)
  · obtain ⟨v, n, o, rfl, _⟩ := h
    rfl
  · obtain ⟨v, n, o, rfl, hv, k⟩ := h
    refine ⟨_, (pss_cons (ps_if (pt_not (pt_val (pe_callB call_isiT (by rfl) T.m_isinstance (by decide +kernel) (pa_cons (pv 0) (pa_cons (pe_tup (pa_cons (pe_bltn (v := .ty "list") (u := .type "list") (by rfl) T.m_list (by decide +kernel) rfl) (pa_cons (pe_bltn (v := .ty "tuple") (u := .type "tuple") (by rfl) T.m_tuple (by decide +kernel) rfl) pa_nil))) pa_nil))))) (pss_one (ps_ret pe_bl)) pss_nil)
      (pss_cons (ps_set (i := 2) sc_are_sources.nd rfl (Or.inl rfl) pe_int)
      (pss_cons (ps_for PassesOwn.never rfl (UL.pi_alt (pi_list (pv 0)) (pi_tup (pv 0))) (pg_name (i := 3) sc_are_sources.nd rfl (Or.inl rfl)) (pss_cons (ps_if (pt_not (pt_val (pe_call (ok_is_int T) (hr.mono (by decide)) (by rfl) T.g_is_int T.F_is_int.kp T.b_is_int .nil pass0 (pa_cons (pv 3) (pa_cons (pv 2) (pa_cons (pv 1) pa_nil)))))) (pss_one (ps_ret pe_bl)) pss_nil)
        (pss_one (ps_set (i := 2) sc_are_sources.nd rfl (Or.inl rfl) (pe_op op_add (pv 3) pe_int)))))
      (pss_one (ps_ret pe_bl))))), ?_⟩
    refine ⟨v, rfl, by decide, fun p hp => ?_⟩
    have e1 := Ex.new (o := .tup [.ty "list", .ty "tuple"]) hp
    have hv1 := hv.mono e1
    cases o with
    | none =>
      obtain ⟨t, ht, hk⟩ := NSeq.ty (K := K) hv1
      exact ⟨v, p, _, t, _, _, rfl, upd_same, .cons (.ty "list") (.cons (.ty "tuple") .nil), ht, hk, _, rfl, iteT (k _ e1)⟩
    | some xs =>
      obtain ⟨hq, hx, hl⟩ := hv1
      obtain ⟨t, ht, hk⟩ := hq.ty
      refine ⟨v, p, _, t, _, _, rfl, upd_same, .cons (.ty "list") (.cons (.ty "tuple") .nil), ht, hk, _, rfl, iteF ?_⟩
      generalize hH : upd H p (.tup [.ty "list", .ty "tuple"]) = H1 at *
      obtain ⟨a, rfl, h2⟩ := hq.two
      refine for_seq (fun Q' q => ⟨_, rfl, q⟩) h2 (fun i σ H' => (∃ l v3, σ = [some (.ref a), some (.int n), some (.int l), v3] ∧ okSrc n 1 xs = okSrc n l (xs.drop i)) ∧ Ex H1 H') ⟨⟨1, none, rfl, rfl⟩, Ex.refl _⟩ (fun i σ' H' p => p.2) ?_ ?_
      · rintro i x σ' H' hi ⟨⟨l, v3, rfl, hok⟩, e2⟩
        have hd : xs.drop i = x :: xs.drop (i + 1) := by
          have hlt := (List.getElem?_eq_some_iff.mp hi).1
          rw [List.drop_eq_getElem_cons hlt, (List.getElem?_eq_some_iff.mp hi).2]
        rw [hd] at hok
        have tx := (hx x (List.mem_of_getElem? hi)).mono e2
        refine ⟨x, rfl, _, rfl, _, rfl, x, l, n, rfl, tx, _, rfl, ?_⟩
        cases hb : inI x l n with
        | false =>
          refine iteT ?_
          have q := k H' (e1.trans e2)
          rw [show srcOk n (some xs) = false by show okSrc n 1 xs = false; rw [hok]; show (inI x l n && _) = false; rw [hb, Bool.false_and]] at q
          exact q
        | true =>
          refine iteF ?_
          cases x with
          | int m =>
            refine ⟨_, rfl, m, 1, rfl, rfl, ⟨m + 1, _, rfl, ?_⟩, e2⟩
            rw [hok]
            show (inI (.int m) l n && okSrc n (m + 1) _) = _
            rw [hb, Bool.true_and]
          | _ => cases hb
      · rintro σ' H' ⟨⟨l, v3, rfl, hok⟩, e2⟩
        rw [List.drop_length] at hok
        have q := k H' (e1.trans e2)
        rw [show srcOk n (some xs) = true from hok] at q
        exact q
def sigOk (nv cv : V) (o : Option (List V)) : Bool := nm nv && inI cv 0 4 && (match cv with | .int n => srcOk n o | _ => false)
def spIsSig (K : PySem.W.Frag) : Sp := fun vs H Q _ => ∃ nv cv sv o, vs = [nv, cv, sv] ∧ Th H nv ∧ Th H cv ∧ Src K H sv o ∧ ∀ H', Ex H H' → Q (.bl (sigOk nv cv o)) H'
theorem ok_is_signature (T : Tx K mg A) : FnOk P w K mg base CX0 4 A.is_signature A.d_is_signature p_is_signature (spIsSig K) := by
  refine T.F_is_signature.ok sc_is_signature (fun vs H Q E h => ?_) (fun cdv Ar outer s H vs Q E hr h => ?_)
  · obtain ⟨nv, cv, sv, o, rfl, _⟩ := h
    rfl
  · obtain ⟨nv, cv, sv, o, rfl, hn, hc, hs, k⟩ := h
    refine ⟨_, (pss_one (ps_ret (pe_and (pe_call (ok_is_name T) (hr.mono (by decide)) (by rfl) T.g_is_name T.F_is_name.kp T.b_is_name .nil pass0 (pa_cons (pv 0) pa_nil)) (pe_and (pe_call (ok_is_int T) (hr.mono (by decide)) (by rfl) T.g_is_int T.F_is_int.kp T.b_is_int .nil pass0 (pa_cons (pv 1) (pa_cons pe_int (pa_cons (pe_glob (v := .int 4) (by rfl) T.c_MOST_PARAMETERS ⟨_, rfl⟩) pa_nil)))) (pe_one (pe_call (ok_are_sources T) (hr.mono (by decide)) (by rfl) T.g_are_sources T.F_are_sources.kp T.b_are_sources .nil pass0 (pa_cons (pv 2) (pa_cons (pv 1) pa_nil)))))))), ?_⟩
    refine ⟨_, rfl, nv, rfl, hn, fun H1 e1 => ⟨_, rfl, ?_⟩⟩
    have other : ∀ H', Ex H H' → sigOk nv cv o = false → Q (.bl false) H' := fun H' e' e => by
      have q := k H' e'
      rw [e] at q
      exact q
    cases h1 : nm nv with
    | false => exact iteF (other _ e1 (by unfold sigOk; rw [h1, Bool.false_and, Bool.false_and]))
    | true =>
      refine iteT ⟨_, rfl, cv, 0, 4, rfl, hc.mono e1, _, rfl, ?_⟩
      cases h2 : inI cv 0 4 with
      | false => exact iteF (other _ e1 (by unfold sigOk; rw [h2, Bool.and_false, Bool.false_and]))
      | true =>
        cases cv with
        | int n =>
          refine iteT ⟨_, rfl, _, rfl, sv, n, o, rfl, hs.mono e1, fun H2 e2 => ?_⟩
          have q := k H2 (e1.trans e2)
          rw [show sigOk nv (.int n) o = srcOk n o by unfold sigOk; rw [h1, h2]; rfl] at q
          exact q
        | _ => cases h2
def sigF (nv cv : V) (t : Addr) : List (Str × V) := [("name", nv), ("count", cv), ("sources", .ref t)]
theorem put3 (nv cv : V) (t : Addr) : putF "sources" (.ref t) (putF "count" cv (putF "name" nv [])) = sigF nv cv t := rfl
def spSigInit (K : PySem.W.Frag) (C E' : Addr) : Sp := fun vs H Q E => ∃ x dx nv cv sv o, vs = [.ref x, nv, cv, sv] ∧ H x = some (.ins C dx []) ∧ flatV nv = true ∧ Th H nv ∧ Th H cv ∧ Src K H sv o ∧
  (sigOk nv cv o = true → ∀ H' t, Ex (L2.del H x) H' → H' x = some (.ins C dx (sigF nv cv t)) → SqT K H' t (o.getD []) → Q .non H') ∧
  (sigOk nv cv o = false → ∀ d H', Ex H H' → H' d = some (.xd [("what", nv)]) → E (.ref E') (some d) H')
theorem ok_sig_init (T : Tx K mg A) : FnOk P w K mg base (L2.CX P w) 5 A.sig_init A.d_sig_init p_sig_init (spSigInit K A.Signature A.InvalidSignature) := by
  refine T.F_sig_init.ok sc_sig_init (fun vs H Q E h => ?_) (fun cdv Ar outer s H vs Q E hr h => ?_)
  · obtain ⟨x, dx, nv, cv, sv, o, rfl, _⟩ := h
    rfl
  · obtain ⟨x, dx, nv, cv, sv, o, rfl, hx, hf, hn, hc, hs, k1, k2⟩ := h
    refine ⟨_, (pss_cons (ps_if (pt_not (pt_val (pe_call (ok_is_signature T) (hr.mono (by decide)) (by rfl) T.g_is_signature T.F_is_signature.kp T.b_is_signature .nil pass0 (pa_cons (pv 1) (pa_cons (pv 2) (pa_cons (pv 3) pa_nil)))))) (pss_one (ps_raise rfl (takes_of rfl rfl rfl rfl) (pmk_oex T.ex_InvalidSignature.ox T.ex_InvalidSignature.ii T.ti_lives_init (ok_lives_init T) (hr.mono (by decide)) T.b_lives_init .nil pass0 (by rfl) T.g_InvalidSignature (pa_cons (pv 1) pa_nil)))) pss_nil)
      (pss_cons (ps_fld (pv 0) (pv 1) rfl)
      (pss_cons (ps_fld (pv 0) (pv 2) rfl)
      (pss_one (ps_fld (pv 0) (pe_callTy call_tuple_of (by rfl) T.m_tuple (by decide +kernel) (pa_cons (pv 3) pa_nil)) rfl))))), ?_⟩
    refine ⟨_, rfl, _, rfl, _, rfl, nv, cv, sv, o, rfl, hn, hc, hs, fun H1 e1 => ⟨_, rfl, ?_⟩⟩
    cases hb : sigOk nv cv o with
    | false =>
      refine iteT ⟨_, rfl, (by show 1 ≤ 1000; decide), raise_what T.ex_InvalidSignature hf fun d H' e' hd => ?_⟩
      exact k2 hb d H' (e1.trans e') hd
    | true =>
      refine iteF ?_
      have hx1 := e1 _ _ hx
      refine ⟨_, rfl, _, rfl, x, _, dx, _, rfl, hx1, T.cl_Signature, T.na_Signature_name, by decide, ?_⟩
      refine ⟨_, rfl, _, rfl, x, _, dx, _, rfl, upd_same, T.cl_Signature, T.na_Signature_count, by show 1 < 1000; decide, ?_⟩
      obtain ⟨xs, rfl⟩ : ∃ xs, o = some xs := by
        cases o with
        | some xs => exact ⟨xs, rfl⟩
        | none =>
          unfold sigOk at hb
          rw [Bool.and_eq_true] at hb
          have h3 := hb.2
          cases cv <;> cases h3
      generalize hH : upd (upd H1 x (.ins A.Signature dx (putF "name" nv []))) x (.ins A.Signature dx (putF "count" cv (putF "name" nv []))) = H3
      have hx3 : H3 x = some (.ins A.Signature dx (putF "count" cv (putF "name" nv []))) := by rw [← hH, upd_same]
      have e3 : ∀ b o, b ≠ x → H1 b = some o → H3 b = some o := fun b o n hb => by rw [← hH, upd_ne n, upd_ne n]; exact hb
      have fin : ∀ H4 t, (∀ b o, b ≠ x → H3 b = some o → H4 b = some o) → SqT K H4 t xs → H4 x = some (.ins A.Signature dx (sigF nv cv t)) → Q .non H4 := fun H4 t e4 ht hx4 =>
        k1 hb H4 t (ex_del e1 fun b o n hb => e4 b o n (e3 b o n hb)) hx4 ht
      obtain ⟨a, rfl, h2⟩ := (hs.1.mono e1)
      have nl : ∀ o, H1 a = some o → (∀ C d f, o ≠ .ins C d f) → a ≠ x := fun o h n => ne_of h hx1 (n _ _ _)
      refine ⟨_, rfl, a, xs, rfl, ?_⟩
      rcases h2 with h2 | h2 | ⟨h2, _⟩
      · have na := nl _ h2 (by intro _ _ _ z; cases z)
        refine .inl ⟨SqL.of (e3 _ _ na h2), fun t ht => ?_⟩
        have nt : x ≠ t := ne_of_none hx3 ht
        refine ⟨_, rfl, x, _, dx, _, rfl, (by rw [upd_ne nt]; exact hx3), T.cl_Signature, T.na_Signature_sources, (by show 2 < 1000; decide), ?_⟩
        refine fin _ t (fun b o n hb => ?_) (SqT.of ?_) upd_same
        · rw [upd_ne n, upd_ne (ne_of_none hb ht)]
          exact hb
        · rw [upd_ne nt.symm, upd_same]
      · have na := nl _ h2 (by intro _ _ _ z; cases z)
        refine .inr ⟨SqT.of (e3 _ _ na h2), ?_⟩
        refine ⟨_, rfl, x, _, dx, _, rfl, hx3, T.cl_Signature, T.na_Signature_sources, (by show 2 < 1000; decide), ?_⟩
        refine fin _ a (fun b o n hb => by rw [upd_ne n]; exact hb) (SqT.of ?_) upd_same
        rw [upd_ne na]
        exact e3 _ _ na h2
      · have h5 := sqT_del hx1 h2
        refine .inr ⟨ex_t (ex_del (Ex.refl H1) e3) h5, ?_⟩
        refine ⟨_, rfl, x, _, dx, _, rfl, hx3, T.cl_Signature, T.na_Signature_sources, (by show 2 < 1000; decide), ?_⟩
        refine fin _ a (fun b o n hb => by rw [upd_ne n]; exact hb) ?_ upd_same
        exact ex_t (ex_del (Ex.refl H1) fun b o n hb => by rw [upd_ne n]; exact e3 b o n hb) h5
/-- a signature stands at a -/
def Sig (K : PySem.W.Frag) (C : Addr) (H : Hp) (a : Addr) (z : Str) (n : Int) (ns : List Int) : Prop := ∃ dx t, H a = some (.ins C dx (sigF (.str z) (.int n) t)) ∧ SqT K H t (ns.map V.int)
theorem Sig.mono {K : PySem.W.Frag} {C : Addr} {H H' : Hp} {a : Addr} {z : Str} {n : Int} {ns : List Int} (e : Ex H H') (h : Sig K C H a z n ns) : Sig K C H' a z n ns := by
  obtain ⟨dx, t, h1, h2⟩ := h
  exact ⟨dx, t, e _ _ h1, ex_t e h2⟩
theorem f_name (nv cv : V) (t : Addr) : (sigF nv cv t).lookup ("name" : Str) = some nv := rfl
theorem f_count (nv cv : V) (t : Addr) : (sigF nv cv t).lookup ("count" : Str) = some cv := rfl
theorem f_sources (nv cv : V) (t : Addr) : (sigF nv cv t).lookup ("sources" : Str) = some (.ref t) := rfl
/-- what stands on the right of == -/
def EqR (K : PySem.W.Frag) (C : Addr) (H : Hp) (z : Str) (n : Int) (ns : List Int) (y : V) (b : Bool) : Prop :=
  (∃ a' z' n' ns', y = .ref a' ∧ Sig K C H a' z' n' ns' ∧ b = (decide (z = z') && decide (n = n') && decide (ns = ns'))) ∨ (∃ s, y = .str s ∧ b = false) ∨ ∃ a' ys, y = .ref a' ∧ H a' = some (.tup ys) ∧ b = false
theorem eqvAll_ints : ∀ ns ms : List Int, PyData.eqvAll (ns.map PyData.int) (ms.map PyData.int) = decide (ns = ms)
  | [], [] => by simp [PyData.eqvAll]
  | [], _ :: _ => by simp [PyData.eqvAll]
  | _ :: _, [] => by simp [PyData.eqvAll]
  | x :: r, y :: t => by
    have ih := eqvAll_ints r t
    rw [List.map_cons, List.map_cons]
    unfold PyData.eqvAll
    rw [ih]
    show (decide (x = y) && decide (r = t)) = _
    by_cases h : x = y <;> by_cases h' : r = t <;> simp [h, h']
theorem eqv_list (ns ms : List Int) : PyData.eqv (.list (ns.map PyData.int)) (.list (ms.map PyData.int)) = decide (ns = ms) := eqvAll_ints ns ms
theorem eqv_tup (ns ms : List Int) : PyData.eqv (.tuple (ns.map PyData.int)) (.tuple (ms.map PyData.int)) = decide (ns = ms) := eqvAll_ints ns ms
theorem dp_ints {K : PySem.W.Frag} {H : Hp} : ∀ ns : List Int, DpAll K H (ns.map V.int) (ns.map PyData.int)
  | [] => .nil
  | n :: r => .cons (.int n) (dp_ints r)
theorem lay_ints : ∀ ns : List Int, PyData.canLayAll0 (ns.map PyData.int) = true ∧ PyData.depthAll (ns.map PyData.int) ≤ 1
  | [] => ⟨rfl, by simp [PyData.depthAll]⟩
  | n :: r => by
    obtain ⟨h1, h2⟩ := lay_ints r
    refine ⟨?_, ?_⟩
    · show (PyData.canLay0 (.int n) && PyData.canLayAll0 (r.map PyData.int)) = true
      rw [h1]
      rfl
    · simp only [List.map_cons, PyData.depthAll, PyData.depth]
      omega
theorem shaped_ints (ns : List Int) : SeqAt.shaped (.tuple (ns.map PyData.int)) = true ∧ SeqAt.shaped (.list (ns.map PyData.int)) = true := by
  obtain ⟨h1, h2⟩ := lay_ints ns
  refine ⟨?_, ?_⟩
  · unfold SeqAt.shaped
    rw [show PyData.canLay0 (.tuple (ns.map PyData.int)) = true by unfold PyData.canLay0; exact h1, Bool.true_and]
    refine decide_eq_true ?_
    simp only [PyData.depth]
    omega
  · unfold SeqAt.shaped
    rw [show PyData.canLay0 (.list (ns.map PyData.int)) = true by unfold PyData.canLay0; exact h1, Bool.true_and]
    refine decide_eq_true ?_
    simp only [PyData.depth]
    omega
def spSigEq (K : PySem.W.Frag) (C : Addr) : Sp := fun vs H Q _ => ∃ a z n ns y b, vs = [.ref a, y] ∧ Sig K C H a z n ns ∧ EqR K C H z n ns y b ∧ Q (.bl b) H
theorem ok_sig_eq (T : Tx K mg A) : FnOk P w K mg base CX0 1 A.sig_eq A.d_sig_eq p_sig_eq (spSigEq K A.Signature) := by
  refine T.F_sig_eq.ok sc_sig_eq (fun vs H Q E h => ?_) (fun cdv Ar outer s H vs Q E hr h => ?_)
  · obtain ⟨a, z, n, ns, y, b, rfl, _⟩ := h
    rfl
  · obtain ⟨a, z, n, ns, y, b, rfl, ⟨dx, t, ha, ht⟩, hy, k⟩ := h
    refine ⟨_, (pss_one (ps_ret (pe_and (pe_callB call_isi (by rfl) T.m_isinstance (by decide +kernel) (pa_cons (pv 1) (pa_cons (pe_glob (v := .ref A.Signature) (by rfl) T.g_Signature rfl) pa_nil))) (pe_and (pe_cmpR op_eq (pe_fld (pv 0) rfl) (pe_fld (pv 1) rfl) (nomark _)) (pe_and (pe_cmpR op_eq (pe_fld (pv 0) rfl) (pe_fld (pv 1) rfl) (nomark _)) (pe_one (pe_cmpR (op_eqD hr.units) (pe_fld (pv 0) rfl) (pe_fld (pv 1) rfl) (nomark _)))))))), ?_⟩
    rcases hy with ⟨a', z', n', ns', rfl, ⟨dx', t', ha', ht'⟩, rfl⟩ | ⟨s', rfl, rfl⟩ | ⟨a', ys, rfl, h', rfl⟩
    · refine ⟨_, rfl, .ref a', _, _, _, _, rfl, .own A.Signature, tyx_ins ha' T.cl_Signature T.ty_Signature, T.ks_own, _, rfl, iteT ?_⟩
      refine ⟨_, rfl, a, _, dx, _, _, rfl, ha, T.cl_Signature, T.na_Signature_name, f_name _ _ _, _, rfl, a', _, dx', _, _, rfl, ha', T.cl_Signature, T.na_Signature_name, f_name _ _ _, rfl, _, rfl, ?_⟩
      rw [show decide (V.str z = V.str z') = decide (z = z') by by_cases e : z = z' <;> simp [e]]
      by_cases e1 : z = z'
      · rw [decide_eq_true e1]
        refine iteT ?_
        refine ⟨_, rfl, a, _, dx, _, _, rfl, ha, T.cl_Signature, T.na_Signature_count, f_count _ _ _, _, rfl, a', _, dx', _, _, rfl, ha', T.cl_Signature, T.na_Signature_count, f_count _ _ _, rfl, _, rfl, ?_⟩
        rw [show decide (V.int n = V.int n') = decide (n = n') by by_cases e : n = n' <;> simp [e]]
        by_cases e2 : n = n'
        · rw [decide_eq_true e2]
          refine iteT ?_
          refine ⟨_, rfl, a, _, dx, _, _, rfl, ha, T.cl_Signature, T.na_Signature_sources, f_sources _ _ _, _, rfl, a', _, dx', _, _, rfl, ha', T.cl_Signature, T.na_Signature_sources, f_sources _ _ _, ?_⟩
          refine ⟨_, _, .tup ht (dp_ints ns), .tup ht' (dp_ints ns'), (shaped_ints ns).1, (shaped_ints ns').1, ?_⟩
          rw [eqv_tup]
          rw [decide_eq_true e1, decide_eq_true e2, Bool.true_and, Bool.true_and] at k
          exact k
        · rw [decide_eq_false e2]
          rw [decide_eq_false e2, Bool.and_false, Bool.false_and] at k
          exact iteF k
      · rw [decide_eq_false e1]
        rw [decide_eq_false e1, Bool.false_and, Bool.false_and] at k
        exact iteF k
    · exact ⟨_, rfl, .str s', _, _, _, _, rfl, .own A.Signature, .base (.str s'), T.ks_str, _, rfl, iteF k⟩
    · exact ⟨_, rfl, .ref a', _, _, _, _, rfl, .own A.Signature, .base (.tup h'), T.ks_tup, _, rfl, iteF k⟩
/-! ### drawn names -/
def tlL : List Nat := tl "abcdefghijklmnopqrstuvwxyz"
def tlD : List Nat := tl "0123456789"
def isD (c : Nat) : Bool := decide (c ∈ tlD)
def digs (z : Str) : List Nat := (tl z).filter isD
structure Wd (k : Int) (z : Str) : Prop where
  num : digs z = tl (Str.ofString (toString k))
  first : ∃ c r, tl z = c :: r ∧ c ∈ tlL
  all : ∀ c ∈ tl z, alnum c = true
  len : 2 ≤ z.length ∧ z.length ≤ 8
  dig : ∃ c ∈ tl z, c ∈ tlD
theorem alL {c : Nat} (h : c ∈ tlL) : alnum c = true := by
  unfold alnum
  rw [show decide (c ∈ tl "abcdefghijklmnopqrstuvwxyz") = true from decide_eq_true h, Bool.true_or]
theorem alD {c : Nat} (h : c ∈ tlD) : alnum c = true := by
  unfold alnum
  rw [show decide (c ∈ tl "0123456789") = true from decide_eq_true h, Bool.or_true]
theorem nodig : ∀ w ∈ wordsS, ∀ c ∈ tl w, c ∉ tlD := by decide +kernel
theorem Wd.ok {k : Int} {z : Str} (h : Wd k z) : okS z = true := by
  obtain ⟨_, ⟨c, r, hcr, hc⟩, h2, ⟨h3, h4⟩, d, hd, hdd⟩ := h
  have hi : inV (.str z) kWords = false := by
    unfold inV
    rw [List.any_eq_false]
    intro y hy
    rw [kWords_eq] at hy
    obtain ⟨w, hw, rfl⟩ := List.mem_map.mp hy
    intro e
    have e1 : w = z := by
      have : (w == z) = true := e
      simpa using this
    subst e1
    exact nodig w hw d hd hdd
  unfold okS
  rw [hi, List.all_eq_true.mpr h2, hcr, decide_eq_true (show 1 ≤ z.length by omega), decide_eq_true h4]
  show (true && true && decide (c ∈ tl "abcdefghijklmnopqrstuvwxyz") && !false && true) = true
  rw [show decide (c ∈ tl "abcdefghijklmnopqrstuvwxyz") = true from decide_eq_true hc]
  rfl
theorem dig_mem {c : Nat} (h : 48 ≤ c ∧ c ≤ 57) : c ∈ tlD := by
  have : c = 48 ∨ c = 49 ∨ c = 50 ∨ c = 51 ∨ c = 52 ∨ c = 53 ∨ c = 54 ∨ c = 55 ∨ c = 56 ∨ c = 57 := by omega
  rcases this with h | h | h | h | h | h | h | h | h | h <;> (subst h; decide +kernel)
theorem num_ok {k : Int} (h0 : 0 ≤ k) (h1 : k < 100) : (∀ c ∈ tl (Str.ofString (toString k)), c ∈ tlD) ∧ 1 ≤ (tl (Str.ofString (toString k))).length ∧ (tl (Str.ofString (toString k))).length ≤ 2 := by
  obtain ⟨n, rfl⟩ := Int.eq_ofNat_of_zero_le h0
  rw [tl_num]
  refine ⟨fun c hc => dig_mem (numL_digits n c hc), ?_, numL_len (by decide) (by omega)⟩
  have := numL_ne n
  cases e : numL n with
  | nil => exact absurd e this
  | cons a r => show 1 ≤ r.length + 1; omega
theorem isD_L {c : Nat} (h : c ∈ tlL) : isD c = false := by
  have : ∀ c ∈ tlL, isD c = false := by decide +kernel
  exact this c h
theorem digs_L {y : Str} (h : ∀ c ∈ tl y, c ∈ tlL) : digs y = [] := List.filter_eq_nil_iff.mpr fun c hc => by rw [isD_L (h c hc)]; simp
theorem digs_app (z y : Str) : digs (z ++ y) = digs z ++ digs y := by
  unfold digs
  rw [tl_append, List.filter_append]
theorem wd_num {c : Nat} {k : Int} (hc : c ∈ tlL) (h0 : 0 ≤ k) (h1 : k < 100) : Wd k ((⟨#[c]⟩ : Str) ++ Str.ofString (toString k)) ∧ ((⟨#[c]⟩ : Str) ++ Str.ofString (toString k)).length ≤ 3 := by
  obtain ⟨n1, n2, n3⟩ := num_ok h0 h1
  have e : tl ((⟨#[c]⟩ : Str) ++ Str.ofString (toString k)) = c :: tl (Str.ofString (toString k)) := by rw [tl_append]; rfl
  have el : ((⟨#[c]⟩ : Str) ++ Str.ofString (toString k)).length = (tl (Str.ofString (toString k))).length + 1 := by rw [len_tl, e]; rfl
  refine ⟨⟨?_, ⟨c, _, e, hc⟩, fun d hd => ?_, by omega, ?_⟩, by omega⟩
  · unfold digs
    rw [e, List.filter_cons_of_neg (by rw [isD_L hc]; simp), List.filter_eq_self]
    exact fun x hx => decide_eq_true (n1 x hx)
  · rw [e] at hd
    rcases List.mem_cons.mp hd with rfl | hd
    · exact alL hc
    · exact alD (n1 d hd)
  · cases q : tl (Str.ofString (toString k)) with
    | nil =>
      rw [q] at n2
      exact absurd n2 (by decide)
    | cons a r =>
      exact ⟨a, by rw [e, q]; exact List.mem_cons_of_mem _ List.mem_cons_self, n1 a (by rw [q]; exact List.mem_cons_self)⟩
theorem wd_back {k : Int} {z y : Str} (h : Wd k z) (hy : ∀ c ∈ tl y, c ∈ tlL) (hl : z.length + y.length ≤ 8) : Wd k (z ++ y) := by
  obtain ⟨hk, ⟨c, r, hcr, hc⟩, h2, h3, d, hd, hdd⟩ := h
  have el : (z ++ y).length = z.length + y.length := by rw [len_tl, tl_append, List.length_append, ← len_tl, ← len_tl]
  refine ⟨by rw [digs_app, digs_L hy, List.append_nil]; exact hk, ⟨c, r ++ tl y, by rw [tl_append, hcr]; rfl, hc⟩, fun q hq => ?_, by omega, d, by rw [tl_append]; exact List.mem_append_left _ hd, hdd⟩
  rw [tl_append] at hq
  rcases List.mem_append.mp hq with hq | hq
  · exact h2 q hq
  · exact alL (hy q hq)
theorem wd_front {k : Int} {z : Str} {c : Nat} (h : Wd k z) (hc : c ∈ tlL) (hl : z.length ≤ 7) : Wd k ((⟨#[c]⟩ : Str) ++ z) := by
  obtain ⟨hk, _, h2, h3, d, hd, hdd⟩ := h
  have e : tl ((⟨#[c]⟩ : Str) ++ z) = c :: tl z := by rw [tl_append]; rfl
  have el : ((⟨#[c]⟩ : Str) ++ z).length = z.length + 1 := by rw [len_tl, e, List.length_cons, ← len_tl]
  refine ⟨by rw [digs_app, digs_L (fun q hq => by rw [List.mem_singleton.mp (show q ∈ [c] from hq)]; exact hc), List.nil_append]; exact hk, ⟨c, _, e, hc⟩, fun q hq => ?_, by omega, d, by rw [e]; exact List.mem_cons_of_mem _ hd, hdd⟩
  rw [e] at hq
  rcases List.mem_cons.mp hq with rfl | hq
  · exact alL hc
  · exact h2 q hq
theorem cut_q {z : Str} (h : z.length ≤ 8) : (∀ c ∈ tl (cutS "qqqqqqqq" (some (z.length : Int)) none), c ∈ tlL) ∧ (cutS "qqqqqqqq" (some (z.length : Int)) none).length = 8 - z.length := by
  have : ∀ n : Nat, n ≤ 8 → (∀ c ∈ tl (cutS "qqqqqqqq" (some (n : Int)) none), c ∈ tlL) ∧ (cutS "qqqqqqqq" (some (n : Int)) none).length = 8 - n := by
    intro n hn
    have hn : n = 0 ∨ n = 1 ∨ n = 2 ∨ n = 3 ∨ n = 4 ∨ n = 5 ∨ n = 6 ∨ n = 7 ∨ n = 8 := by omega
    rcases hn with h | h | h | h | h | h | h | h | h <;> (subst h; decide +kernel)
  exact this _ h
def plainS : List Str := ["a", "x", "new", "b", "user", "copy", "ends", "z", "elses", "n", "dea", "deads", "pic", "thens", "funs", "y"]
theorem plain_ok : ∀ z ∈ plainS, okS z = true := by decide +kernel
theorem okS_len {z : Str} (h : okS z = true) : z.length ≤ 8 := by
  unfold okS at h
  rw [Bool.and_eq_true, Bool.and_eq_true, Bool.and_eq_true, Bool.and_eq_true] at h
  exact of_decide_eq_true h.1.1.1.2
theorem nm_at {k : Int} {z : Str} (h0 : 0 ≤ k) (h1 : k < 16) (h : atI plainS k = some z) : plainS[k.toNat]? = some z := by
  obtain ⟨m, rfl⟩ := Int.eq_ofNat_of_zero_le h0
  have hm : m < plainS.length := by show m < 16; omega
  rw [atI_nat (List.getElem?_eq_getElem hm)] at h
  rw [show ((m : Int)).toNat = m from Int.toNat_natCast m, List.getElem?_eq_getElem hm]
  exact h
def NmOf (k : Int) (z : Str) : Prop := digs z = tl (Str.ofString (toString k)) ∨ (k < 16 ∧ plainS[k.toNat]? = some z)
def spName : Sp := fun vs H Q _ => ∃ d k, vs = [.ref d, .int k] ∧ H d = some (DrO d) ∧ 0 ≤ k ∧ k < 100 ∧ ∀ z H', okS z = true → NmOf k z → Ex H H' → Q (.str z) H'
theorem ok_name (T : Tx K mg A) : FnOk P w K mg base CX0 2 A.name A.d_name p_name spName := by
  refine T.F_name.ok sc_name (fun vs H Q E h => ?_) (fun cdv Ar outer s H vs Q E hr h => ?_)
  · obtain ⟨d, k, rfl, _⟩ := h
    rfl
  · obtain ⟨d, k, rfl, hd, k0, k1, q⟩ := h
    refine ⟨_, (pss_cons (ps_set (i := 2) sc_name.nd rfl (Or.inl rfl) pe_str)
      (pss_cons (ps_set (i := 3) sc_name.nd rfl (Or.inl rfl) (pe_lst (pa_cons pe_str (pa_cons pe_str (pa_cons pe_str (pa_cons pe_str (pa_cons pe_str (pa_cons pe_str (pa_cons pe_str (pa_cons pe_str (pa_cons pe_str (pa_cons pe_str (pa_cons pe_str (pa_cons pe_str (pa_cons pe_str (pa_cons pe_str (pa_cons pe_str (pa_cons pe_str pa_nil))))))))))))))))))
      (pss_cons (ps_set (i := 4) sc_name.nd rfl (Or.inl rfl) (pe_call (ok_take T) (hr.mono (by decide)) (by rfl) T.g_take T.F_take.kp T.b_take .nil pass0 (pa_cons (pv 0) (pa_cons pe_int pa_nil))))
      (Evl.pss_cut (ps_if (PW.pt (pw_and (pt_cmpR op_eq (pv 4) pe_int (nomark _)) (pw_and1 (pt_cmpR op_lt (pv 1) pe_int (nomark _))))) (pss_one (ps_ret (pe_ix ix_list (pv 3) (pv 1) (fun _ _ => rfl)))) pss_nil)
      (pss_cons (ps_set (i := 5) sc_name.nd rfl (Or.inl rfl) (pe_op op_add_str (pe_ix ix_str (pv 2) (pe_call (ok_take T) (hr.mono (by decide)) (by rfl) T.g_take T.F_take.kp T.b_take .nil pass0 (pa_cons (pv 0) (pa_cons pe_int pa_nil))) (fun _ _ => rfl)) (pe_callTy call_str_int (by rfl) T.m_str (by decide +kernel) (pa_cons (pv 1) pa_nil))))
      (Evl.pss_cut (ps_if (pt_cmpR op_eq (pv 4) pe_int (nomark _)) (pss_one (ps_set (i := 5) sc_name.nd rfl (Or.inl rfl) (pe_op op_add_str pe_str (pe_callTy call_str_int (by rfl) T.m_str (by decide +kernel) (pa_cons (pv 1) pa_nil))))) pss_nil)
      (Evl.pss_cut (ps_if (pt_cmpR op_eq (pv 4) pe_int (nomark _)) (pss_one (ps_set (i := 5) sc_name.nd rfl (Or.inl rfl) (pe_op op_add_str (pv 5) (pe_ix ix_str (pv 2) (pe_call (ok_take T) (hr.mono (by decide)) (by rfl) T.g_take T.F_take.kp T.b_take .nil pass0 (pa_cons (pv 0) (pa_cons pe_int pa_nil))) (fun _ _ => rfl))))) pss_nil)
      (Evl.pss_cut (ps_if (pt_cmpR op_eq (pv 4) pe_int (nomark _)) (pss_one (ps_set (i := 5) sc_name.nd rfl (Or.inl rfl) (pe_op op_add_str (pe_ix ix_str (pv 2) (pe_call (ok_take T) (hr.mono (by decide)) (by rfl) T.g_take T.F_take.kp T.b_take .nil pass0 (pa_cons (pv 0) (pa_cons pe_int pa_nil))) (fun _ _ => rfl)) (pv 5)))) pss_nil)
      (Evl.pss_cut (ps_if (pt_cmpR op_eq (pv 4) pe_int (nomark _)) (pss_one (ps_set (i := 5) sc_name.nd rfl (Or.inl rfl) (pe_op op_add_str (pv 5) (pe_slice sl_str pe_str (po_some (pe_callB call_len_str (by rfl) T.m_len PySem.boot_len (pa_cons (pv 5) pa_nil))) po_none)))) pss_nil)
      (pss_one (ps_ret (pv 5)))))))))))), ?_⟩
    refine ⟨sz_of (by show 16 ≤ 100000; decide), fun p hp => ?_⟩
    have e1 := Ex.new (o := .lst (plainS.map V.str)) hp
    have hd1 := e1 _ _ hd
    refine ⟨_, rfl, d, _, rfl, hd1, by decide, fun s s0 s1 => ?_⟩
    have hp1 : upd H p (.lst (plainS.map V.str)) p = some (.lst (plainS.map V.str)) := upd_same
    revert hp1 e1 hd1
    show Ex H (upd H p (.lst (plainS.map V.str))) → upd H p (.lst (plainS.map V.str)) d = some (DrO d) → upd H p (.lst (plainS.map V.str)) p = some (.lst (plainS.map V.str)) → tCut _ _ _ _ (upd H p (.lst (plainS.map V.str)))
    generalize upd H p (.lst (plainS.map V.str)) = H1
    intro e1 hd1 hp1
    let S0 : Option V → L2.St := fun v5 => [some (.ref d), some (.int k), some (.str "abcdefghijklmnopqrstuvwxyz"), some (.ref p), some (.int s), v5]
    refine ⟨fun σ' H' => σ' = S0 none ∧ H' = H1, ?_, ?_⟩
    · refine ⟨_, rfl, rfl, _, rfl, ite2 (fun _ => ?_) (fun _ => iteF ⟨rfl, rfl⟩)⟩
      refine ⟨_, rfl, k, 16, rfl, rfl, _, rfl, ite2 (fun h => ?_) (fun _ => ⟨rfl, rfl⟩)⟩
      have hk : k < 16 := of_decide_eq_true h
      obtain ⟨z, hz, hm⟩ := at_in (xs := plainS) k0 (show k < 16 from hk)
      refine ⟨_, rfl, _, rfl, p, _, k, .str z, rfl, rfl, SqL.of hp1, ?_, q z H1 (plain_ok z hm) (.inr ⟨hk, nm_at k0 hk hz⟩) e1⟩
      obtain ⟨m, rfl⟩ := Int.eq_ofNat_of_zero_le k0
      have hm2 : m < plainS.length := by show m < 16; omega
      rw [atI_nat (List.getElem?_eq_getElem hm2)] at hz
      rw [← Option.some.inj hz]
      refine atI_nat ?_
      rw [List.getElem?_map, List.getElem?_eq_getElem hm2]
      rfl
    rintro σ' H' ⟨rfl, rfl⟩
    have one : ∀ c : Nat, (⟨#[c]⟩ : Str).length = 1 := fun _ => rfl
    have lg : k.natAbs.log2 < 1920 := by
      have h1 : k.natAbs < 2 ^ 1920 := Nat.lt_of_lt_of_le (show k.natAbs < 128 by omega) (by decide +kernel)
      by_cases hz : k.natAbs = 0
      · rw [hz]
        decide
      · exact (Nat.log2_lt hz).mpr h1
    have szn : ∀ c : Nat, (⟨#[c]⟩ : Str).length + (Str.ofString (toString k)).length ≤ sizeLine := fun c => sz_of (by have := (num_ok k0 k1).2.2; rw [one, len_tl]; omega)
    -- word = letter + str(k)
    refine ⟨_, rfl, _, rfl, d, _, rfl, hd1, by decide, fun n n0 n1 => ?_⟩
    obtain ⟨c, hc, hm⟩ := at_in (xs := tl "abcdefghijklmnopqrstuvwxyz") n0 (show n < 26 from n1)
    refine ⟨_, n, c, rfl, rfl, by decide, hc, _, rfl, k, rfl, lg, _, _, rfl, rfl, szn c, ?_⟩
    obtain ⟨w0, l0⟩ := wd_num (c := c) hm k0 k1
    generalize ((⟨#[c]⟩ : Str) ++ Str.ofString (toString k)) = z0 at w0 l0
    -- shape 1
    refine ⟨fun σ' Hn => ∃ z, Wd k z ∧ z.length ≤ 3 ∧ σ' = S0 (some (.str z)) ∧ Hn = H', ?_, ?_⟩
    · refine ⟨_, rfl, rfl, _, rfl, ite2 (fun _ => ?_) (fun _ => ⟨z0, w0, l0, rfl, rfl⟩)⟩
      obtain ⟨w1, l1⟩ := wd_num (c := 110) (by decide +kernel) k0 k1
      exact ⟨_, rfl, k, rfl, lg, _, _, rfl, rfl, szn 110, _, w1, l1, rfl, rfl⟩
    rintro σ' Hb ⟨z1, w1, l1, rfl, rfl⟩
    -- shape 2
    refine ⟨fun σ' H2 => ∃ z, Wd k z ∧ z.length ≤ 4 ∧ σ' = S0 (some (.str z)) ∧ H2 = Hb, ?_, ?_⟩
    · refine ⟨_, rfl, rfl, _, rfl, ite2 (fun _ => ?_) (fun _ => ⟨z1, w1, by omega, rfl, rfl⟩)⟩
      refine ⟨_, rfl, _, rfl, _, rfl, d, _, rfl, hd1, by decide, fun n n0 n1 => ?_⟩
      obtain ⟨c, hc, hm⟩ := at_in (xs := tl "abcdefghijklmnopqrstuvwxyz") n0 (show n < 26 from n1)
      refine ⟨_, n, c, rfl, rfl, by decide, hc, _, _, rfl, rfl, sz_of (by rw [one]; omega), _, wd_back w1 (y := ⟨#[c]⟩) (fun q hq => ?_) (by rw [one]; omega), ?_, rfl, rfl⟩
      · rw [List.mem_singleton.mp (show q ∈ [c] from hq)]
        exact hm
      · rw [len_tl, tl_append, List.length_append, ← len_tl, ← len_tl, one]
        omega
    rintro σ' H2 ⟨z2, w2, l2, rfl, rfl⟩
    -- shape 3
    refine ⟨fun σ' H3 => ∃ z, Wd k z ∧ z.length ≤ 5 ∧ σ' = S0 (some (.str z)) ∧ H3 = H2, ?_, ?_⟩
    · refine ⟨_, rfl, rfl, _, rfl, ite2 (fun _ => ?_) (fun _ => ⟨z2, w2, by omega, rfl, rfl⟩)⟩
      refine ⟨_, rfl, _, rfl, d, _, rfl, hd1, by decide, fun n n0 n1 => ?_⟩
      obtain ⟨c, hc, hm⟩ := at_in (xs := tl "abcdefghijklmnopqrstuvwxyz") n0 (show n < 26 from n1)
      refine ⟨_, n, c, rfl, rfl, by decide, hc, _, rfl, _, _, rfl, rfl, sz_of (by rw [one]; omega), _, wd_front w2 hm (by omega), ?_, rfl, rfl⟩
      rw [len_tl, tl_append, List.length_append, ← len_tl, ← len_tl, one]
      omega
    rintro σ' H3 ⟨z3, w3, l3, rfl, rfl⟩
    -- shape 4
    refine ⟨fun σ' H4 => ∃ z, Wd k z ∧ σ' = S0 (some (.str z)) ∧ H4 = H3, ?_, ?_⟩
    · refine ⟨_, rfl, rfl, _, rfl, ite2 (fun _ => ?_) (fun _ => ⟨z3, w3, rfl, rfl⟩)⟩
      obtain ⟨q1, q2⟩ := cut_q (z := z3) (by omega)
      refine ⟨_, rfl, _, rfl, z3, rfl, sz_of (by omega), _, rfl, _, rfl, by decide, _, _, rfl, rfl, sz_of (by omega), _, wd_back w3 q1 (by omega), rfl, rfl⟩
    rintro σ' H4 ⟨z4, w4, rfl, rfl⟩
    exact ⟨_, rfl, q z4 _ w4.ok (.inl w4.num) e1⟩
def spInteger : Sp := fun vs H Q _ => ∃ v, vs = [v] ∧ Th H v ∧ Q (.bl (intB v)) H
theorem ok_integer (T : Tx K mg A) : FnOk P w K mg base CX0 1 A.integer A.d_integer p_integer spInteger := by
  refine T.F_integer.ok sc_integer (fun vs H Q E h => ?_) (fun cdv Ar outer s H vs Q E hr h => ?_)
  · obtain ⟨v, rfl, _⟩ := h
    rfl
  · obtain ⟨v, rfl, hv, k⟩ := h
    refine ⟨_, (pss_one (ps_ret (pe_and (pe_callB call_isi (by rfl) T.m_isinstance (by decide +kernel) (pa_cons (pv 0) (pa_cons (pe_bltn (v := .ty "int") (u := .type "int") (by rfl) T.m_int (by decide +kernel) rfl) pa_nil))) (pe_one (pe_not (pe_callB call_isi (by rfl) T.m_isinstance (by decide +kernel) (pa_cons (pv 0) (pa_cons (pe_bltn (v := .ty "bool") (u := .type "bool") (by rfl) T.m_bool (by decide +kernel) rfl) pa_nil)))))))), ?_⟩
    obtain ⟨t, ht, h1, h2⟩ := hv.int (K := K)
    refine ⟨_, rfl, v, _, t, _, _, rfl, .ty "int", ht, h1, _, rfl, ?_⟩
    cases v with
    | int i => exact iteT ⟨_, rfl, .int i, _, t, _, _, rfl, .ty "bool", ht, h2, _, rfl, k⟩
    | bl b => exact iteT ⟨_, rfl, .bl b, _, t, _, _, rfl, .ty "bool", ht, h2, _, rfl, k⟩
    | _ => exact iteF k
/-- strictly ascending numbers from 1 to n -/
def Asc (n : Int) (ns : List Int) : Prop := ns.Pairwise (· < ·) ∧ ∀ m ∈ ns, 1 ≤ m ∧ m ≤ n
theorem asc_ok {n : Int} : ∀ (ns : List Int) (l : Int), ns.Pairwise (· < ·) → (∀ m ∈ ns, l ≤ m ∧ m ≤ n) → okSrc n l (ns.map V.int) = true
  | [], _, _, _ => rfl
  | m :: r, l, hp, hb => by
    obtain ⟨h1, h2⟩ := List.pairwise_cons.mp hp
    have hm := hb m List.mem_cons_self
    show (inI (.int m) l n && okSrc n (m + 1) (r.map V.int)) = true
    rw [show inI (.int m) l n = true by show (decide (l ≤ m) && decide (m ≤ n)) = true; rw [decide_eq_true hm.1, decide_eq_true hm.2]; rfl, Bool.true_and]
    exact asc_ok r (m + 1) h2 fun q hq => ⟨by have := h1 q hq; omega, (hb q (List.mem_cons_of_mem _ hq)).2⟩
theorem asc_len {n : Int} (hn : n ≤ 4) : ∀ ns : List Int, Asc n ns → ns.length ≤ 4 := fun ns h => by
  obtain ⟨h1, h2⟩ := h
  match ns, h1, h2 with
  | [], _, _ => decide
  | [_], _, _ => exact (by decide : 1 ≤ 4)
  | [_, _], _, _ => exact (by decide : 2 ≤ 4)
  | [_, _, _], _, _ => exact (by decide : 3 ≤ 4)
  | [_, _, _, _], _, _ => exact (by decide : 4 ≤ 4)
  | a :: b :: c :: e :: f :: r, h1, h2 =>
    exfalso
    obtain ⟨p1, q1⟩ := List.pairwise_cons.mp h1
    obtain ⟨p2, q2⟩ := List.pairwise_cons.mp q1
    obtain ⟨p3, q3⟩ := List.pairwise_cons.mp q2
    obtain ⟨p4, q4⟩ := List.pairwise_cons.mp q3
    have a1 := (h2 a (by simp)).1
    have f1 := (h2 f (by simp)).2
    have b1 := p1 b (by simp)
    have c1 := p2 c (by simp)
    have e1 := p3 e (by simp)
    have g1 := p4 f (by simp)
    omega
theorem alnum_lt : ∀ c : Nat, alnum c = true → c < 0x110000 := fun c h => by
  rw [alnum36] at h
  have h1 : c ∈ tl36 := of_decide_eq_true h
  have h2 : ∀ c ∈ tl36, c < 0x110000 := by decide +kernel
  exact h2 c h1
theorem okS_all {z : Str} (h : okS z = true) : ∀ c ∈ tl z, alnum c = true := by
  unfold okS at h
  rw [Bool.and_eq_true] at h
  exact List.all_eq_true.mp h.2
theorem okS_str {z : Str} (h : okS z = true) : PyData.strOk z = true := by
  unfold PyData.strOk
  rw [← Array.all_toList, List.all_eq_true]
  exact fun c hc => decide_eq_true (alnum_lt c (okS_all h c hc))
theorem sigOk_asc {z : Str} {n : Int} {ns : List Int} (hz : okS z = true) (h0 : 0 ≤ n) (h4 : n ≤ 4) (ha : Asc n ns) : sigOk (.str z) (.int n) (some (ns.map V.int)) = true := by
  unfold sigOk
  rw [show nm (.str z) = true from hz, show inI (.int n) 0 4 = true by show (decide (0 ≤ n) && decide (n ≤ 4)) = true; rw [decide_eq_true h0, decide_eq_true h4]; rfl]
  exact asc_ok ns 1 ha.1 ha.2
/-- three parts as data -/
def dP (z : Str) (n : Int) (ns : List Int) : PyData := .list [.str z, .int n, .list (ns.map PyData.int)]
theorem dP_eqv {z z' : Str} {n n' : Int} {ns ns' : List Int} : PyData.eqv (dP z n ns) (dP z' n' ns') = (decide (z = z') && decide (n = n') && decide (ns = ns')) := by
  unfold dP PyData.eqv PyData.eqvAll
  rw [show PyData.eqv (.str z) (.str z') = decide (z = z') by unfold PyData.eqv; by_cases e : z = z' <;> simp [e]]
  unfold PyData.eqvAll
  rw [show PyData.eqv (.int n) (.int n') = decide (n = n') by unfold PyData.eqv; by_cases e : n = n' <;> simp [e]]
  unfold PyData.eqvAll
  rw [eqv_list]
  unfold PyData.eqvAll
  rw [Bool.and_true, Bool.and_assoc]
theorem dP_shaped {z : Str} {n : Int} {ns : List Int} (hz : okS z = true) : SeqAt.shaped (dP z n ns) = true := by
  obtain ⟨h1, h2⟩ := lay_ints ns
  unfold SeqAt.shaped dP
  rw [Bool.and_eq_true]
  refine ⟨?_, decide_eq_true ?_⟩
  · simp only [PyData.canLay0, PyData.canLayAll0, h1, okS_str hz, Bool.and_true]
  · simp only [PyData.depth, PyData.depthAll]
    omega
theorem dP_dp {K : PySem.W.Frag} {H : Hp} {a p : Addr} {z : Str} {n : Int} {ns : List Int} (ha : H a = some (.lst [.str z, .int n, .ref p])) (hp : SqL K H p (ns.map V.int)) : Dp K H (.ref a) (dP z n ns) :=
  .lst (SqL.of ha) (.cons (.str z) (.cons (.int n) (.cons (.lst hp (dp_ints ns)) .nil)))
/-- a row: name, count and sources of a good signature -/
abbrev Rw := Str × Int × List Int
def RowAt (H : Hp) (p : Addr) (r : Rw) : Prop := ∃ l, H p = some (.lst [.str r.1, .int r.2.1, .ref l]) ∧ H l = some (.lst (r.2.2.map V.int))
def good (r : Rw) : Prop := okS r.1 = true ∧ (0 ≤ r.2.1 ∧ r.2.1 ≤ 4) ∧ Asc r.2.1 r.2.2
theorem RowAt.mono {H H' : Hp} {p : Addr} {r : Rw} (e : Ex H H') (h : RowAt H p r) : RowAt H' p r := by
  obtain ⟨l, h1, h2⟩ := h
  exact ⟨l, e _ _ h1, e _ _ h2⟩
def spParts : Sp := fun vs H Q _ => ∃ d z, vs = [.ref d, .str z] ∧ H d = some (DrO d) ∧ okS z = true ∧ ∀ p l H' r, H p = none → H l = none → Ex H H' → H' p = some (.lst [.str r.1, .int r.2.1, .ref l]) → H' l = some (.lst (r.2.2.map V.int)) → r.1 = z → good r → Q (.ref p) H'
theorem ok_parts (T : Tx K mg A) : FnOk P w K mg base CX0 2 A.parts A.d_parts p_parts spParts := by
  refine T.F_parts.ok sc_parts (fun vs H Q E h => ?_) (fun cdv Ar outer s H vs Q E hr h => ?_)
  · obtain ⟨d, z, rfl, _⟩ := h
    rfl
  · obtain ⟨d, z, rfl, hd, hz, k⟩ := h
    refine ⟨_, (pss_cons (ps_set (i := 2) sc_parts.nd rfl (Or.inl rfl) (pe_call (ok_take T) (hr.mono (by decide)) (by rfl) T.g_take T.F_take.kp T.b_take .nil pass0 (pa_cons (pv 0) (pa_cons pe_int pa_nil))))
      (pss_cons (ps_set (i := 3) sc_parts.nd rfl (Or.inr rfl) (pe_call (ok_take T) (hr.mono (by decide)) (by rfl) T.g_take T.F_take.kp T.b_take .nil pass0 (pa_cons (pv 0) (pa_cons pe_int pa_nil))))
      (pss_one (ps_ret (pe_lst (pa_cons (pv 1) (pa_cons (pv 2) (pa_cons (pe_lc (own := [("_law_j", 4)]) (g := gName 4) rfl sc_parts.nd (pi_range1 (by rfl) T.m_range (pa_cons (pv 2) pa_nil)) (blkOk_by (N := n_parts) (sc := defScope s_parts) (by decide +kernel)) (fun _ _ _ _ _ => pg_name (i := 4) sc_parts.nd rfl (Or.inl rfl)) (fun _ _ _ _ _ => pts_one (pt_cmpR op_eq (pe_op op_mod (pe_callTy call_int1 (by rfl) T.m_int (by decide +kernel) (pa_cons (pe_op op_fdiv (pv 3) (pe_ix (show IxR _ (rIxL K) from ix_list) (pe_lst (pa_cons pe_int (pa_cons pe_int (pa_cons pe_int (pa_cons pe_int pa_nil))))) (pv 4) (fun _ _ => rfl))) pa_nil)) pe_int) pe_int (nomark _))) (fun _ _ _ _ _ => (pe_op op_add (pv 4) pe_int))) pa_nil)))))))), ?_⟩
    refine ⟨_, rfl, d, _, rfl, hd, by decide, fun n n0 n1 => ?_⟩
    refine ⟨_, rfl, d, _, rfl, hd, by decide, fun m m0 m1 => ?_⟩
    refine ⟨_, rfl, _, rfl, _, rfl, n, rfl, by omega, by omega, fun D hD => ?_⟩
    refine lc_range (lo := 0) (n := n.toNat) (fun i H' => Ex H H' ∧ ∃ ns : List Int, H' D = some (.lst (ns.map V.int)) ∧ Asc (i : Int) ns) ⟨Ex.new hD, [], upd_same, List.Pairwise.nil, fun _ h => (nomatch h)⟩ ?_ ?_
    · rintro i H' hi ⟨e1, ns, hL, ha⟩
      have e0 : (0 : Int) + (i : Int) = (i : Int) := Int.zero_add _
      refine ⟨rfl, ?_⟩
      rw [e0]
      refine ⟨_, rfl, sz_of (by show 4 ≤ 100000; decide), fun p hp => ?_⟩
      have hi4 : i < 4 := by omega
      obtain ⟨q, hq⟩ : ∃ q : Int, atI [V.int 1, V.int 2, V.int 4, V.int 8] (i : Int) = some (.int q) ∧ 0 < q ∧ q < 1073741824 := by
        have : i = 0 ∨ i = 1 ∨ i = 2 ∨ i = 3 := by omega
        rcases this with h | h | h | h <;> subst h
        · exact ⟨1, atI_nat (j := 0) rfl, by decide, by decide⟩
        · exact ⟨2, atI_nat (j := 1) rfl, by decide, by decide⟩
        · exact ⟨4, atI_nat (j := 2) rfl, by decide, by decide⟩
        · exact ⟨8, atI_nat (j := 3) rfl, by decide, by decide⟩
      have e2 := Ex.new (o := .lst [.int 1, .int 2, .int 4, .int 8]) hp
      refine ⟨_, rfl, p, _, _, _, rfl, rfl, SqL.of upd_same, hq.1, m, q, rfl, rfl, ⟨hq.2.1, hq.2.2⟩, .inl ⟨_, rfl, _, 2, rfl, rfl, (show (0 : Int) < 2 by decide), rfl, _, rfl, ite2 (fun _ => ?_) (fun _ => ?_)⟩⟩
      · refine ⟨_, rfl, _, 1, rfl, rfl, _, e2 _ _ hL, ?_, (e1.trans e2).mut hD, ns ++ [(i : Int) + 1], ?_, ?_, ?_⟩
        · rw [List.length_map]
          exact sz_lt (by have := asc_len (show (i : Int) ≤ 4 by omega) ns ha; omega)
        · rw [upd_same, List.map_append]
          rfl
        · rw [List.pairwise_append]
          refine ⟨ha.1, List.pairwise_singleton _ _, fun x hx y hy => ?_⟩
          rw [List.mem_singleton.mp hy]
          have := (ha.2 x hx).2
          omega
        · intro x hx
          rcases List.mem_append.mp hx with h | h
          · have := ha.2 x h
            omega
          · rw [List.mem_singleton.mp h]
            omega
      · exact ⟨e1.trans e2, ns, e2 _ _ hL, ha.1, fun x hx => by have := ha.2 x hx; omega⟩
    · rintro H' ⟨e1, ns, hL, ha⟩
      have ha' : Asc n ns := ⟨ha.1, fun x hx => by have := ha.2 x hx; omega⟩
      refine ⟨sz_of (by show 3 ≤ 100000; decide), fun p hp => ?_⟩
      have e2 := Ex.new (o := .lst [.str z, .int n, .ref D]) hp
      exact k p D _ (z, n, ns) (fresh_back e1 hp) hD (e1.trans e2) upd_same (e2 _ _ hL) rfl ⟨hz, ⟨n0, by show n ≤ 4; omega⟩, ha'⟩
inductive All2 {α β : Type} (R : α → β → Prop) : List α → List β → Prop
  | nil : All2 R [] []
  | cons {a b as bs} : R a b → All2 R as bs → All2 R (a :: as) (b :: bs)
theorem All2.imp {α β : Type} {R S : α → β → Prop} (f : ∀ a b, R a b → S a b) : ∀ {as bs}, All2 R as bs → All2 S as bs
  | _, _, .nil => .nil
  | _, _, .cons h t => .cons (f _ _ h) (t.imp f)
theorem All2.len {α β : Type} {R : α → β → Prop} : ∀ {as : List α} {bs : List β}, All2 R as bs → as.length = bs.length
  | _, _, .nil => rfl
  | _, _, .cons _ t => congrArg (· + 1) t.len
theorem All2.snoc {α β : Type} {R : α → β → Prop} {a b} (h : R a b) : ∀ {as bs}, All2 R as bs → All2 R (as ++ [a]) (bs ++ [b])
  | _, _, .nil => .cons h .nil
  | _, _, .cons h1 t => .cons h1 (t.snoc h)
theorem All2.at {α β : Type} {R : α → β → Prop} : ∀ {as : List α} {bs : List β}, All2 R as bs → ∀ {i : Nat} {b : β}, bs[i]? = some b → ∃ a, as[i]? = some a ∧ R a b
  | _, _, .cons h _, 0, _, hb => ⟨_, rfl, by cases hb; exact h⟩
  | _, _, .cons _ t, _ + 1, _, hb => t.at (i := _) hb
theorem All2.set {α β : Type} {R : α → β → Prop} {a b} (h : R a b) : ∀ {as : List α} {bs : List β}, All2 R as bs → ∀ i, All2 R (as.set i a) (bs.set i b)
  | _, _, .nil, _ => .nil
  | _, _, .cons _ t, 0 => .cons h t
  | _, _, .cons h1 t, i + 1 => .cons h1 (t.set h i)
def RowsAt (H : Hp) (p : Addr) (as : List Addr) (rs : List Rw) : Prop := H p = some (.lst (as.map V.ref)) ∧ All2 (RowAt H) as rs
theorem rows_mono {H H' : Hp} (e : Ex H H') {as : List Addr} {rs : List Rw} (h : All2 (RowAt H) as rs) : All2 (RowAt H') as rs := h.imp fun _ _ h => h.mono e
theorem rows_upd {H : Hp} {D : Addr} {as : List Addr} {rs : List Rw} {X : HO} (hD : H D = some (.lst (as.map V.ref))) (h : All2 (RowAt H) as rs) : All2 (RowAt (upd H D X)) as rs := by
  cases as with
  | nil =>
    cases h
    exact .nil
  | cons a0 t =>
    refine h.imp fun a r h => ?_
    obtain ⟨l, h1, h2⟩ := h
    refine ⟨l, ?_, ?_⟩
    · rw [upd_ne]
      · exact h1
      · rintro rfl
        rw [hD] at h1
        cases h1
    · rw [upd_ne]
      · exact h2
      · rintro rfl
        rw [hD] at h2
        have h3 := Option.some.inj h2
        injection h3 with h4
        cases hr : r.2.2 with
        | nil => rw [hr] at h4; cases h4
        | cons m q => rw [hr] at h4; cases h4
theorem rows_put {H : Hp} {D a : Addr} {as : List Addr} {rs : List Rw} {r : Rw} (j : Nat) (h : RowsAt H D as rs) (hr : RowAt (upd H D (.lst ((as.map V.ref).set j (.ref a)))) a r) : RowsAt (upd H D (.lst ((as.map V.ref).set j (.ref a)))) D (as.set j a) (rs.set j r) :=
  ⟨by rw [upd_same, List.map_set], (rows_upd h.1 h.2).set hr j⟩
theorem good_put {rs : List Rw} {r : Rw} {j : Nat} (h : ∀ x ∈ rs, good x) (hr : good r) : ∀ x ∈ rs.set j r, good x := fun x hx => by
  rcases List.mem_or_eq_of_mem_set hx with h1 | h1
  · exact h x h1
  · rw [h1]
    exact hr
theorem at_strs {xs : List Str} {n : Int} (h0 : 0 ≤ n) (h1 : n < (xs.length : Int)) : ∃ x, atI (xs.map V.str) n = some (.str x) ∧ x ∈ xs := by
  obtain ⟨m, rfl⟩ := Int.eq_ofNat_of_zero_le h0
  have hm : m < xs.length := by omega
  exact ⟨xs[m], atI_nat (by rw [List.getElem?_map, List.getElem?_eq_getElem hm]; rfl), List.getElem_mem hm⟩
theorem at_ints {xs : List Int} {n : Int} (h0 : 0 ≤ n) (h1 : n < (xs.length : Int)) : ∃ x, atI (xs.map V.int) n = some (.int x) ∧ x ∈ xs := by
  obtain ⟨m, rfl⟩ := Int.eq_ofNat_of_zero_le h0
  have hm : m < xs.length := by omega
  exact ⟨xs[m], atI_nat (by rw [List.getElem?_map, List.getElem?_eq_getElem hm]; rfl), List.getElem_mem hm⟩
theorem inV_strs (w : Str) (zs : List Str) : inV (.str w) (zs.map V.str) = decide (w ∈ zs) := by
  unfold inV
  rw [List.any_map]
  by_cases h : w ∈ zs
  · rw [decide_eq_true h, List.any_eq_true]
    exact ⟨w, h, by show (w == w) = true; exact beq_self_eq_true w⟩
  · rw [decide_eq_false h, List.any_eq_false]
    intro y hy e
    have e1 : (y == w) = true := e
    exact h (by rw [← (beq_iff_eq.mp e1)]; exact hy)
theorem All2.at' {α β : Type} {R : α → β → Prop} : ∀ {as : List α} {bs : List β}, All2 R as bs → ∀ {i : Nat} {a : α}, as[i]? = some a → ∃ b, bs[i]? = some b ∧ R a b
  | _, _, .cons h _, 0, _, hb => ⟨_, rfl, by cases hb; exact h⟩
  | _, _, .cons _ t, _ + 1, _, hb => t.at' (i := _) hb
def SigR (K : PySem.W.Frag) (C : Addr) (H : Hp) (a : Addr) (r : Rw) : Prop := Sig K C H a r.1 r.2.1 r.2.2
theorem Sig.upd {K : PySem.W.Frag} {C : Addr} {H : Hp} {D a : Addr} {ys : List V} {X : HO} {z : Str} {n : Int} {ns : List Int} (hD : H D = some (.lst ys)) (h : Sig K C H a z n ns) : Sig K C (upd H D X) a z n ns := by
  obtain ⟨dx, t, h1, h2⟩ := h
  refine ⟨dx, t, ?_, ?_⟩
  · rw [upd_ne]
    · exact h1
    · rintro rfl
      rw [hD] at h1
      cases h1
  · rcases h2 with (h | ⟨o, h⟩) | h
    · refine .inl (.inl ?_)
      rw [upd_ne]
      · exact h
      · rintro rfl
        rw [hD] at h
        cases h
    · refine .inl (.inr ⟨o, ?_⟩)
      rw [upd_ne]
      · exact h
      · rintro rfl
        rw [hD] at h
        cases h
    · exact .inr h
def dueGo : List Str → List Rw → Str × Str
  | _, [] => (("book" : Str), ("" : Str))
  | known, r :: t => if r.1 ∈ known then (("twice" : Str), r.1) else dueGo (known ++ [r.1]) t
def dueOf (rs : List Rw) : Str × Str := if 12 < rs.length then (("large" : Str), ("functions" : Str)) else dueGo ["new", "copy"] rs
end
end K05

set_option Elab.async false
set_option linter.all false
set_option maxRecDepth 100000
namespace K05
open PySem PySem.Spec PyProof.Rows L2 Evl TL UL StX
section
variable {P : Program} {w : World} {K : PySem.W.Frag} {mg : Str → Option Value} {base : Heap} {A : Adr}
/-! ### books -/
def newR : Rw := ("new", 0, [])
def copyR : Rw := ("copy", 1, [])
def bkF (g e b : Addr) : List (Str × V) := [("_given", .ref g), ("_every", .ref e), ("_by_name", .ref b)]
def kvs (ss : List Addr) (rs : List Rw) : List (Key × V) := List.zipWith (fun a (r : Rw) => ((Sum.inr r.1 : Key), V.ref a)) ss rs
theorem bk_put (g e b : Addr) : putF "_by_name" (.ref b) (putF "_every" (.ref e) (putF "_given" (.ref g) [])) = bkF g e b := rfl
theorem f_given (g e b : Addr) : (bkF g e b).lookup ("_given" : Str) = some (.ref g) := rfl
theorem f_every (g e b : Addr) : (bkF g e b).lookup ("_every" : Str) = some (.ref e) := rfl
theorem f_byname (g e b : Addr) : (bkF g e b).lookup ("_by_name" : Str) = some (.ref b) := rfl
theorem val_none {z : Str} : ∀ {ss : List Addr} {rs : List Rw}, z ∉ rs.map (·.1) → valV (kvs ss rs) (Sum.inr z) = none
  | [], _, _ => rfl
  | _ :: _, [], _ => rfl
  | a :: ss, r :: rs, h => by
    rw [List.map_cons, List.mem_cons, not_or] at h
    show valV (((Sum.inr r.1 : Key), V.ref a) :: kvs ss rs) (Sum.inr z) = none
    rw [valV_neg (by intro e; exact h.1 (Sum.inr.inj e).symm)]
    exact val_none h.2
theorem val_some {z : Str} : ∀ {ss : List Addr} {rs : List Rw} {i : Nat} {a : Addr} {r : Rw}, (rs.map (·.1)).Nodup → ss[i]? = some a → rs[i]? = some r → r.1 = z → valV (kvs ss rs) (Sum.inr z) = some (.ref a)
  | [], _, _, _, _, _, h, _, _ => (nomatch h)
  | _ :: _, [], _, _, _, _, _, h, _ => (nomatch h)
  | a :: ss, r :: rs, 0, _, _, _, h1, h2, e => by
    cases h1
    cases h2
    exact valV_pos (congrArg Sum.inr e)
  | a :: ss, r :: rs, i + 1, a', r', nd, h1, h2, e => by
    rw [List.map_cons, List.nodup_cons] at nd
    show valV (((Sum.inr r.1 : Key), V.ref a) :: kvs ss rs) (Sum.inr z) = _
    have h3 : rs[i]? = some r' := h2
    rw [valV_neg (by intro q; exact nd.1 (List.mem_map.mpr ⟨r', List.mem_of_getElem? h3, e.trans (Sum.inr.inj q).symm⟩))]
    exact val_some nd.2 h1 h3 e
theorem kvs_snoc {a : Addr} {r : Rw} : ∀ {ss : List Addr} {rs : List Rw}, ss.length = rs.length → kvs (ss ++ [a]) (rs ++ [r]) = kvs ss rs ++ [((Sum.inr r.1 : Key), V.ref a)]
  | [], [], _ => rfl
  | [], _ :: _, h => (nomatch h)
  | _ :: _, [], h => (nomatch h)
  | x :: ss, y :: rs, h => by
    show _ :: kvs (ss ++ [a]) (rs ++ [r]) = _
    rw [kvs_snoc (Nat.succ.inj h)]
    rfl
theorem put_new {z : Str} {a : Addr} {ss : List Addr} {rs : List Rw} (h : z ∉ rs.map (·.1)) : putK (kvs ss rs) (Sum.inr z) (.ref a) = kvs ss rs ++ [((Sum.inr z : Key), V.ref a)] := by
  unfold putK
  rw [valV_any, val_none h, if_neg (by simp)]
theorem kvs_len (ss : List Addr) (rs : List Rw) : (kvs ss rs).length ≤ rs.length := by
  unfold kvs
  rw [List.length_zipWith]
  exact Nat.min_le_right _ _
theorem val_is {z : Str} : ∀ {ss : List Addr} {rs : List Rw}, ss.length = rs.length → (valV (kvs ss rs) (Sum.inr z)).isSome = decide (z ∈ rs.map (·.1))
  | [], [], _ => by rfl
  | [], _ :: _, h => (nomatch h)
  | _ :: _, [], h => (nomatch h)
  | a :: ss, r :: rs, h => by
    show (valV (((Sum.inr r.1 : Key), V.ref a) :: kvs ss rs) (Sum.inr z)).isSome = _
    by_cases e : r.1 = z
    · rw [valV_pos (congrArg Sum.inr e), decide_eq_true (by rw [List.map_cons, e]; exact List.mem_cons_self)]
      rfl
    · rw [valV_neg (by intro q; exact e (Sum.inr.inj q)), val_is (Nat.succ.inj h)]
      refine decide_eq_decide.mpr ?_
      rw [List.map_cons, List.mem_cons]
      exact ⟨.inr, fun q => q.resolve_left fun w => e w.symm⟩
/-- a book at a: its signatures at ss, all of them, with the parts rs -/
structure BookAt (K : PySem.W.Frag) (B C : Addr) (H : Hp) (a : Addr) (ss : List Addr) (rs : List Rw) : Prop where
  ex : ∃ dx g e b, H a = some (.ins B dx (bkF g e b)) ∧ SqT K H g ((ss.drop 2).map V.ref) ∧ H e = some (.tup (ss.map V.ref)) ∧ H b = some (.dK (kvs ss rs))
  sg : All2 (SigR K C H) ss rs
  nd : (rs.map (·.1)).Nodup
  gd : ∀ r ∈ rs, good r
  ln : rs.length ≤ 14
theorem SigR.mono {K : PySem.W.Frag} {C : Addr} {H H' : Hp} {a : Addr} {r : Rw} (e : Ex H H') (h : SigR K C H a r) : SigR K C H' a r := Sig.mono e h
theorem BookAt.mono {K : PySem.W.Frag} {B C : Addr} {H H' : Hp} {a : Addr} {ss : List Addr} {rs : List Rw} (e : Ex H H') (h : BookAt K B C H a ss rs) : BookAt K B C H' a ss rs := by
  obtain ⟨dx, g, v, b, h1, h2, h3, h4⟩ := h.ex
  exact ⟨⟨dx, g, v, b, e _ _ h1, ex_t e h2, e _ _ h3, e _ _ h4⟩, h.sg.imp fun _ _ q => q.mono e, h.nd, h.gd, h.ln⟩
theorem SigR.put {K : PySem.W.Frag} {C B x dx a : Addr} {H : Hp} {fs : List (Str × V)} {r : Rw} (hx : H x = some (.ins B dx [])) (h : SigR K C H a r) : SigR K C (upd H x (.ins B dx fs)) a r := by
  obtain ⟨d, t, h1, h2⟩ := h
  refine ⟨d, t, ?_, ?_⟩
  · rw [upd_ne]
    · exact h1
    · rintro rfl
      rw [hx] at h1
      injection Option.some.inj h1 with _ _ h3
      cases h3
  · rcases h2 with (h | ⟨o, h⟩) | h
    · exact .inl (.inl (by rw [upd_ne (ne_of h hx (by intro z; cases z))]; exact h))
    · exact .inl (.inr ⟨o, by rw [upd_ne (ne_of h hx (by intro z; cases z))]; exact h⟩)
    · exact .inr h
/-- which error is due -/
def errDue (d : Str × Str) (TL DF : Addr) : Option (Addr × Str) := if d.1 = "large" then some (TL, d.2) else if d.1 = "twice" then some (DF, d.2) else none
theorem good_new : good newR := ⟨by decide +kernel, ⟨by decide, by decide⟩, List.Pairwise.nil, fun _ h => (nomatch h)⟩
theorem good_copy : good copyR := ⟨by decide +kernel, ⟨by decide, by decide⟩, List.Pairwise.nil, fun _ h => (nomatch h)⟩
theorem due_known {rs : List Rw} (h : rs.length ≤ 12) : dueOf rs = dueGo [] (newR :: copyR :: rs) := by
  unfold dueOf
  rw [if_neg (by omega)]
  rfl
def spBookInit (K : PySem.W.Frag) (B C TL DF : Addr) : Sp := fun vs H Q E => ∃ x dx p ss rs, vs = [.ref x, .ref p] ∧ H x = some (.ins B dx []) ∧ H p = some (.tup (ss.map V.ref)) ∧ All2 (SigR K C H) ss rs ∧ (∀ r ∈ rs, good r) ∧ rs.length ≤ 100 ∧
  (errDue (dueOf rs) TL DF = none → ∀ H' s1 s2, Ex (L2.del H x) H' → BookAt K B C H' x (s1 :: s2 :: ss) (newR :: copyR :: rs) → Q .non H') ∧
  (∀ X z, errDue (dueOf rs) TL DF = some (X, z) → ∀ d H', Ex H H' → H' d = some (.xd [("what", .str z)]) → E (.ref X) (some d) H')
theorem ok_book_init (T : Tx K mg A) : FnR P w K mg base (L2.CX P w) 7 A.book_init (UL.spStar (spBookInit K A.Book A.Signature A.TooLarge A.DuplicateFunction)) := by
  refine UL.starFn T.F_book_init sc_book_init (fun _ _ _ _ _ _ _ => by rfl) (fun _ _ _ _ _ _ _ _ _ => by rfl) (fun cdv Ar outer s H vs Q E hr h => ?_)
  · obtain ⟨x, dx, p, ss, rs, rfl, hx, hp, hS, hg, hl, k1, k2⟩ := h
    obtain ⟨ds, v0_sig_init_2, b0_sig_init_2⟩ := T.F_sig_init.binds0 (ps := p_sig_init) 3 (by simp) rfl (fun D doc pm an cdv ct us ks h1 h2 => by
      match us, h1, ks, h2 with
      | [_, _, _], _, [_], _ => exact ⟨_, _, _, _, _, _, rfl, rfl, rfl⟩)
    refine ⟨_, (pss_cons (ps_if (pt_cmpR op_gt (pe_callB call_len_seq (by rfl) T.m_len PySem.boot_len (pa_cons (pv 1) pa_nil)) (pe_glob (v := .int 12) (by rfl) T.c_MOST_GIVEN ⟨_, rfl⟩) (nomark _)) (pss_one (ps_raise rfl (takes_of rfl rfl rfl rfl) (pmk_oex T.ex_TooLarge.ox T.ex_TooLarge.ii T.ti_lives_init (ok_lives_init T) (hr.mono (by decide)) T.b_lives_init .nil pass0 (by rfl) T.g_TooLarge (pa_cons pe_str pa_nil)))) pss_nil)
      (pss_cons (ps_set (i := 2) sc_book_init.nd rfl (Or.inl rfl) (pe_tup (pa_cons (pe_make T.mk_Signature (ok_sig_init T) (hr.mono (by decide)) (by rfl) T.g_Signature b0_sig_init_2 v0_sig_init_2 passL (pa_cons pe_str (pa_cons pe_int pa_nil))) (pa_cons (pe_make T.mk_Signature (ok_sig_init T) (hr.mono (by decide)) (by rfl) T.g_Signature b0_sig_init_2 v0_sig_init_2 passL (pa_cons pe_str (pa_cons pe_int pa_nil))) (pa_star (pv 1) pa_nil)))))
      (pss_cons (ps_set (i := 3) sc_book_init.nd rfl (Or.inl rfl) pe_dnewK)
      (pss_cons (ps_for PassesOwn.leaving rfl (pi_tup (pv 2)) (pg_name (i := 4) sc_book_init.nd rfl (Or.inl rfl)) (pss_cons (ps_if (pt_cmp (pc_din (hu_of hr) (pe_fld (pv 4) rfl) (pv 3))) (pss_one (ps_raise rfl (takes_of rfl rfl rfl rfl) (pmk_oex T.ex_DuplicateFunction.ox T.ex_DuplicateFunction.ii T.ti_lives_init (ok_lives_init T) (hr.mono (by decide)) T.b_lives_init .nil pass0 (by rfl) T.g_DuplicateFunction (pa_cons (pe_fld (pv 4) rfl) pa_nil)))) pss_nil)
        (pss_one (ps_dput (hu_of hr) (pv 3) (pe_fld (pv 4) rfl) (pv 4) rfl))))
      (pss_cons (ps_fld (pv 0) (pv 1) rfl)
      (pss_cons (ps_fld (pv 0) (pv 2) rfl)
      (pss_one (ps_fld (pv 0) (pv 3) rfl)))))))), ?_⟩
    have hlen := hS.len
    refine ⟨_, rfl, p, _, rfl, .inr (SqT.of hp), _, 12, rfl, rfl, _, rfl, ?_⟩
    rw [List.length_map]
    refine ite2 (fun h => ?_) (fun h => ?_)
    · have h1 : (12 : Int) < (ss.length : Int) := of_decide_eq_true h
      have h2 : dueOf rs = (("large" : Str), ("functions" : Str)) := if_pos (by omega)
      refine ⟨(by show 1 ≤ 1000; decide), raise_what T.ex_TooLarge rfl fun d H' e' hd => ?_⟩
      exact k2 A.TooLarge "functions" (by rw [h2]; exact if_pos rfl) d H' e' hd
    have h1 : ¬ (12 : Int) < (ss.length : Int) := fun q => h (decide_eq_true q)
    have hl2 : rs.length ≤ 12 := by omega
    rw [due_known hl2] at k1 k2
    have thz : ∀ {z : Str} {H' : Hp}, okS z = true → Th H' (.str z) := fun h => .inl ⟨_, rfl, by have := okS_len h; omega⟩
    have thn : ∀ {n : Int} {H' : Hp}, Th H' (.int n) := .inr (.inr (.inr (.inl ⟨_, rfl⟩)))
    have th0 : ∀ {H' : Hp}, ∀ x ∈ ([] : List V), Th H' x := fun _ h => (nomatch h)
    -- new
    refine fun n1 d1 hn1 hd1 ne1 => ⟨n1, d1, .str "new", .int 0, .ref A.k_sig_init_sources, some [], rfl, upd_same, rfl, thz good_new.1, thn, ⟨⟨_, rfl, .inr (.inr ⟨T.q_sig_init_sources _, T.o_sig_init_sources⟩)⟩, th0, by decide⟩, fun _ H1 t1 e1' s1 ht1 => ⟨rfl, ?_⟩, fun h => by cases h⟩
    have e1 := made_ex hn1 hd1 e1'
    have g1 : SigR K A.Signature H1 n1 newR := ⟨d1, t1, s1, ht1⟩
    -- copy
    refine fun n2 d2 hn2 hd2 ne2 => ⟨n2, d2, .str "copy", .int 1, .ref A.k_sig_init_sources, some [], rfl, upd_same, rfl, thz good_copy.1, thn, ⟨⟨_, rfl, .inr (.inr ⟨T.q_sig_init_sources _, T.o_sig_init_sources⟩)⟩, th0, by decide⟩, fun _ H2 t2 e2' s2 ht2 => ⟨rfl, ?_⟩, fun h => by cases h⟩
    have e2 := made_ex hn2 hd2 e2'
    have g2 : SigR K A.Signature H2 n2 copyR := ⟨d2, t2, s2, ht2⟩
    have e12 := e1.trans e2
    refine ⟨_, rfl, p, _, rfl, .inl (SqT.of (e12 _ _ hp)), ?_⟩
    refine ⟨?_, fun e he => ?_⟩
    · rw [List.append_nil]
      exact sz_of (by show (ss.map V.ref).length + 1 + 1 ≤ 100000; rw [List.length_map]; omega)
    rw [List.append_nil]
    generalize hall : n1 :: n2 :: ss = all
    have hallv : V.ref n1 :: V.ref n2 :: ss.map V.ref = all.map V.ref := by rw [← hall]; rfl
    rw [hallv]
    have e3 := Ex.new (o := .tup (all.map V.ref)) he
    refine fun b hb => ?_
    generalize hH3 : upd H2 e (.tup (all.map V.ref)) = H3 at e3 hb ⊢
    have he3 : H3 e = some (.tup (all.map V.ref)) := by rw [← hH3, upd_same]
    have e03 := e12.trans e3
    generalize hrs : newR :: copyR :: rs = allr at k1 k2
    have hA : All2 (SigR K A.Signature H3) all allr := by
      rw [← hall, ← hrs]
      exact .cons ((g1.mono e2).mono e3) (.cons (g2.mono e3) (hS.imp fun _ _ q => q.mono e03))
    have hAl := hA.len
    have hrl : allr.length ≤ 14 := by rw [← hrs]; show rs.length + 1 + 1 ≤ 14; omega
    refine ⟨_, rfl, e, rfl, ⟨_, SqT.of ((Ex.new hb) _ _ he3)⟩, for_tup (xs := all.map V.ref) (fun i σ H' => (∃ v4, σ = [some (.ref x), some (.ref p), some (.ref e), some (.ref b), v4]) ∧ Ex H3 H' ∧ H' b = some (.dK (kvs (all.take i) (allr.take i))) ∧ ((allr.take i).map (·.1)).Nodup ∧ dueGo [] allr = dueGo ((allr.take i).map (·.1)) (allr.drop i))
      ⟨⟨_, rfl⟩, Ex.new hb, upd_same, List.nodup_nil, rfl⟩ (fun i σ' H' _ q => SqT.of (q.2.1 _ _ he3)) ?_ ?_⟩
    · rintro i y σ' H' hi ⟨⟨v4, rfl⟩, e4, hd, nd, due⟩
      rw [List.getElem?_map] at hi
      cases hai : all[i]? with
      | none => rw [hai] at hi; cases hi
      | some a =>
      rw [hai] at hi
      cases hi
      obtain ⟨r, hri, dx', t', ha, hta⟩ := (hA.imp fun _ _ q => q.mono e4).at' hai
      have hlt : i < allr.length := (List.getElem?_eq_some_iff.mp hri).1
      have hdr : allr.drop i = r :: allr.drop (i + 1) := by rw [List.drop_eq_getElem_cons hlt, (List.getElem?_eq_some_iff.mp hri).2]
      rw [hdr] at due
      have tl : (all.take i).length = (allr.take i).length := by rw [List.length_take, List.length_take]; omega
      have nx1 : all.take (i + 1) = all.take i ++ [a] := by rw [List.take_add_one, hai]; rfl
      have nx2 : allr.take (i + 1) = allr.take i ++ [r] := by rw [List.take_add_one, hri]; rfl
      refine ⟨_, rfl, a, _, dx', _, _, rfl, ha, T.cl_Signature, T.na_Signature_name, f_name _ _ _, _, rfl, b, _, rfl, DGet.k (k := Sum.inr r.1) hd, _, rfl, ?_⟩
      rw [val_is tl]
      refine ite2 (fun h => ?_) (fun h => ?_)
      · have hm := of_decide_eq_true h
        have h2 : dueGo [] allr = (("twice" : Str), r.1) := by rw [due]; exact if_pos hm
        refine ⟨_, rfl, a, _, dx', _, _, rfl, ha, T.cl_Signature, T.na_Signature_name, f_name _ _ _, (by show 1 ≤ 1000; decide), raise_what T.ex_DuplicateFunction rfl fun d H'' e'' hx'' => ?_⟩
        exact k2 A.DuplicateFunction r.1 (by rw [h2]; rfl) d H'' ((e03.trans e4).trans e'') hx''
      · have hm : ¬ r.1 ∈ (allr.take i).map (·.1) := fun q => h (decide_eq_true q)
        refine ⟨_, rfl, _, rfl, _, rfl, a, _, dx', _, _, rfl, ha, T.cl_Signature, T.na_Signature_name, f_name _ _ _, b, _, rfl, DPut.k (k := Sum.inr r.1) hd ?_, ⟨_, rfl⟩, e4.mut hb, ?_, ?_, ?_⟩
        · exact sz_lt (Nat.lt_of_le_of_lt (kvs_len _ _) (by rw [List.length_take]; omega))
        · rw [upd_same, put_new hm, nx1, nx2, kvs_snoc tl]
        · rw [nx2, List.map_append]
          refine List.pairwise_append.mpr ⟨nd, List.pairwise_singleton _ _, fun u hu v hv => ?_⟩
          rw [List.mem_singleton.mp hv]
          rintro rfl
          exact hm hu
        · rw [due, nx2, List.map_append]
          exact if_neg hm
    rintro σ' H' ⟨⟨v4, rfl⟩, e4, hd, nd, due⟩
    rw [List.length_map, hAl, List.take_length] at hd nd due
    rw [← hAl, List.take_length] at hd
    rw [List.drop_length] at due
    have done : errDue (dueGo [] allr) A.TooLarge A.DuplicateFunction = none := by rw [due]; rfl
    have hx' := (e03.trans e4) _ _ hx
    have hp' := (e03.trans e4) _ _ hp
    have he' := e4 _ _ he3
    refine ⟨_, rfl, _, rfl, x, _, dx, _, rfl, hx', T.cl_Book, T.na_Book__given, by decide, ?_⟩
    refine ⟨_, rfl, _, rfl, x, _, dx, _, rfl, upd_same, T.cl_Book, T.na_Book__every, by show 1 < 1000; decide, ?_⟩
    refine ⟨_, rfl, _, rfl, x, _, dx, _, rfl, upd_same, T.cl_Book, T.na_Book__by_name, by show 2 < 1000; decide, ?_⟩
    rw [upd_upd, upd_upd]
    have keep : ∀ c o, c ≠ x → H' c = some o → upd H' x (.ins A.Book dx (bkF p e b)) c = some o := fun c o n q => by rw [upd_ne n]; exact q
    have q := k1 done (upd H' x (.ins A.Book dx (bkF p e b))) n1 n2 (ex_del (e03.trans e4) keep)
    rw [hall] at q
    have npx : p ≠ x := ne_of hp' hx' (by intro z; cases z)
    have nex : e ≠ x := ne_of he' hx' (by intro z; cases z)
    have nbx : b ≠ x := ne_of hd hx' (by intro z; cases z)
    refine q ⟨⟨dx, p, e, b, upd_same, ?_, keep _ _ nex he', keep _ _ nbx hd⟩, ?_, nd, ?_, hrl⟩
    · rw [← hall]
      exact SqT.of (keep _ _ npx hp')
    · exact (hA.imp fun _ _ q => q.mono e4).imp fun _ _ q => q.put hx'
    · rw [← hrs]
      intro r hr
      rcases List.mem_cons.mp hr with rfl | hr
      · exact good_new
      · rcases List.mem_cons.mp hr with rfl | hr
        · exact good_copy
        · exact hg r hr
/-! the methods -/
def spBookLen (K : PySem.W.Frag) (B C : Addr) : Sp := fun vs H Q _ => ∃ a ss rs, vs = [.ref a] ∧ BookAt K B C H a ss rs ∧ Q (.int (ss.length : Int)) H
theorem ok_book_len (T : Tx K mg A) : FnOk P w K mg base CX0 1 A.book_len A.d_book_len p_book_len (spBookLen K A.Book A.Signature) := by
  refine T.F_book_len.ok sc_book_len (fun vs H Q E h => ?_) (fun cdv Ar outer s H vs Q E hr h => ?_)
  · obtain ⟨a, ss, rs, rfl, _⟩ := h
    rfl
  · obtain ⟨a, ss, rs, rfl, bk, k⟩ := h
    refine ⟨_, (pss_one (ps_ret (pe_callB call_len_seq (by rfl) T.m_len PySem.boot_len (pa_cons (pe_fld (pv 0) rfl) pa_nil)))), ?_⟩
    obtain ⟨dx, g, e, b, h1, h2, h3, h4⟩ := bk.ex
    refine ⟨_, rfl, a, _, dx, _, _, rfl, h1, T.cl_Book, T.na_Book__every, f_every _ _ _, e, _, rfl, .inr (SqT.of h3), ?_⟩
    rw [List.length_map]
    exact k
def spBookIter (K : PySem.W.Frag) (B : Addr) : Sp := fun vs H Q _ => ∃ a dx g e b zs, vs = [.ref a] ∧ H a = some (.ins B dx (bkF g e b)) ∧ H e = some (.tup zs) ∧ ∀ it, H it = none → Q (.ref it) (upd H it (ItTup e it 0))
theorem ok_book_iter (T : Tx K mg A) : FnOk P w K mg base CX0 1 A.book_iter A.d_book_iter p_book_iter (spBookIter K A.Book) := by
  refine T.F_book_iter.ok sc_book_iter (fun vs H Q E h => ?_) (fun cdv Ar outer s H vs Q E hr h => ?_)
  · obtain ⟨a, dx, g, e, b, zs, rfl, _⟩ := h
    rfl
  · obtain ⟨a, dx, g, e, b, zs, rfl, h1, h3, k⟩ := h
    refine ⟨_, (pss_one (ps_ret (pe_callB UL.call_iterT (by rfl) T.m_iter (by decide +kernel) (pa_cons (pe_fld (pv 0) rfl) pa_nil)))), ?_⟩
    exact ⟨_, rfl, a, _, dx, _, _, rfl, h1, T.cl_Book, T.na_Book__every, f_every _ _ _, e, _, rfl, SqT.of h3, k⟩
def hasB (v : V) (rs : List Rw) : Bool := match v with | .str z => decide (z ∈ rs.map (·.1)) | _ => false
def spBookHas (K : PySem.W.Frag) (B C : Addr) : Sp := fun vs H Q _ => ∃ a v ss rs, vs = [.ref a, v] ∧ BookAt K B C H a ss rs ∧ Th H v ∧ Q (.bl (hasB v rs)) H
theorem ok_book_has (T : Tx K mg A) : FnOk P w K mg base CX0 1 A.book_has A.d_book_has p_book_has (spBookHas K A.Book A.Signature) := by
  refine T.F_book_has.ok sc_book_has (fun vs H Q E h => ?_) (fun cdv Ar outer s H vs Q E hr h => ?_)
  · obtain ⟨a, v, ss, rs, rfl, _⟩ := h
    rfl
  · obtain ⟨a, v, ss, rs, rfl, bk, hv, k⟩ := h
    refine ⟨_, (pss_one (ps_ret (pe_and (pe_callB call_isi (by rfl) T.m_isinstance (by decide +kernel) (pa_cons (pv 1) (pa_cons (pe_bltn (v := .ty "str") (u := .type "str") (by rfl) T.m_str (by decide +kernel) rfl) pa_nil))) (pe_one (pe_cmp (pc_din (hu_of hr) (pv 1) (pe_fld (pv 0) rfl)) rfl))))), ?_⟩
    obtain ⟨t, ht, h1⟩ := hv.isi (K := K)
    obtain ⟨dx, g, e, b, b1, b2, b3, b4⟩ := bk.ex
    refine ⟨_, rfl, v, _, t, _, _, rfl, .ty "str", ht, h1, _, rfl, ?_⟩
    cases v with
    | str z =>
      refine iteT ⟨_, rfl, _, rfl, a, _, dx, _, _, rfl, b1, T.cl_Book, T.na_Book__by_name, f_byname _ _ _, b, _, rfl, DGet.k (k := Sum.inr z) b4, ?_⟩
      rw [val_is bk.sg.len]
      exact k
    | _ => exact iteF k
def spBookGet (K : PySem.W.Frag) (B C UF : Addr) : Sp := fun vs H Q E => ∃ a v ss rs, vs = [.ref a, v] ∧ BookAt K B C H a ss rs ∧ Th H v ∧ flatV v = true ∧
  (∀ (i : Nat) s (r : Rw) z, v = .str z → ss[i]? = some s → rs[i]? = some r → r.1 = z → Q (.ref s) H) ∧ (hasB v rs = false → ∀ d H', Ex H H' → H' d = some (.xd [("what", v)]) → E (.ref UF) (some d) H')
theorem ok_book_get (T : Tx K mg A) : FnOk P w K mg base (L2.CX P w) 4 A.book_get A.d_book_get p_book_get (spBookGet K A.Book A.Signature A.UnknownFunction) := by
  refine T.F_book_get.okX sc_book_get (fun vs H Q E h => ?_) (fun cdv Ar outer s H vs Q E hr h => ?_)
  · obtain ⟨a, v, ss, rs, rfl, _⟩ := h
    rfl
  · obtain ⟨a, v, ss, rs, rfl, bk, hv, hf, k1, k2⟩ := h
    refine ⟨_, (pss_cons (ps_if (pt_cmpR (UL.op_ownNotIn (ok_book_has T) (hr.mono (by decide)) T.e_book_has.at_ T.e_book_has.fn T.b_book_has pass0) (pv 1) (pv 0) (by rfl)) (pss_one (ps_raise rfl (takes_of rfl rfl rfl rfl) (pmk_oex T.ex_UnknownFunction.ox T.ex_UnknownFunction.ii T.ti_lives_init (ok_lives_init T) (hr.mono (by decide)) T.b_lives_init .nil pass0 (by rfl) T.g_UnknownFunction (pa_cons (pv 1) pa_nil)))) pss_nil)
      (pss_one (ps_ret (pe_dget (hu_of hr) (pe_fld (pv 0) rfl) (pv 1) (fun _ _ => rfl))))), ?_⟩
    obtain ⟨dx, g, e, b, b1, b2, b3, b4⟩ := bk.ex
    refine ⟨_, rfl, _, rfl, a, dx, _, rfl, b1, a, v, ss, rs, rfl, bk, hv, _, rfl, _, rfl, ?_⟩
    cases hb : hasB v rs with
    | false => exact iteT ⟨_, rfl, (by show 1 ≤ 1000; decide), raise_what T.ex_UnknownFunction hf fun d H' e' hd => k2 hb d H' e' hd⟩
    | true =>
      obtain ⟨z, i, s, r, rfl, hs, hr, hz⟩ : ∃ z i s, ∃ r : Rw, v = .str z ∧ ss[i]? = some s ∧ rs[i]? = some r ∧ r.1 = z := by
        cases v with
        | str z =>
          have hm : z ∈ rs.map (·.1) := of_decide_eq_true hb
          obtain ⟨r, hr, hz⟩ := List.mem_map.mp hm
          obtain ⟨i, hi⟩ := List.mem_iff_getElem?.mp hr
          obtain ⟨s, hs, _⟩ := bk.sg.at hi
          exact ⟨z, i, s, r, rfl, hs, hi, hz⟩
        | _ => cases hb
      refine iteF ⟨_, rfl, a, _, dx, _, _, rfl, b1, T.cl_Book, T.na_Book__by_name, f_byname _ _ _, _, rfl, b, .ref s, rfl, ?_, k1 i s r z rfl hs hr hz⟩
      have q := DGet.k (k := Sum.inr z) b4
      rw [val_some bk.nd hs hr hz] at q
      exact q
theorem scal_refl {v : V} (h : flatV v = true) : scal v v = true := by
  cases v <;> first | rfl | cases h
theorem one_name {r r' : Rw} : ∀ {rs : List Rw}, (rs.map (·.1)).Nodup → r ∈ rs → r' ∈ rs → r.1 = r'.1 → r = r'
  | [], _, h, _, _ => (nomatch h)
  | x :: rs, nd, h, h', e => by
    rw [List.map_cons, List.nodup_cons] at nd
    rcases List.mem_cons.mp h with h | h
    · rcases List.mem_cons.mp h' with h' | h'
      · rw [h, h']
      · exact absurd (List.mem_map.mpr ⟨r', h', by rw [← h]; exact e.symm⟩) nd.1
    · rcases List.mem_cons.mp h' with h' | h'
      · exact absurd (List.mem_map.mpr ⟨r, h, by rw [← h']; exact e⟩) nd.1
      · exact one_name nd.2 h h' e
end
end K05

set_option Elab.async false
set_option linter.all false
set_option maxRecDepth 100000
namespace K05
open PySem PySem.Spec PyProof.Rows L2 Evl TL UL StX
section
variable {P : Program} {w : World} {K : PySem.W.Frag} {mg : Str → Option Value} {base : Heap} {A : Adr}
/-! ### names that differ from number to number -/
def ownS : List Str := ["a", "x", "news", "b", "user", "copys", "ends", "z", "elses", "n", "dea", "deads", "pic", "thens", "funs", "y"]
def OwnOf (k : Int) (z : Str) : Prop := digs z = tl (Str.ofString (toString k)) ∨ (k < 16 ∧ ownS[k.toNat]? = some z)
def nn (z : Str) : Prop := z ≠ "new" ∧ z ≠ "copy"
theorem num_ne {k : Int} (h0 : 0 ≤ k) (h1 : k < 100) : tl (Str.ofString (toString k)) ≠ [] := fun h => by
  have := (num_ok h0 h1).2.1
  rw [h] at this
  exact absurd this (by decide)
theorem plain_digs : ∀ z ∈ plainS ++ ownS, digs z = [] := by decide +kernel
theorem plain_step : ∀ i : Fin 16, ∀ z, plainS[i.val]? = some z → (z = "new" → ownS[i.val]? = some ("news" : Str)) ∧ (z = "copy" → ownS[i.val]? = some ("copys" : Str)) ∧ (z ≠ "new" → z ≠ "copy" → ownS[i.val]? = some z) := by
  have h : ∀ i : Fin 16, (plainS[i.val]? = some ("new" : Str) → ownS[i.val]? = some ("news" : Str)) ∧ (plainS[i.val]? = some ("copy" : Str) → ownS[i.val]? = some ("copys" : Str)) ∧ (plainS[i.val]? ≠ some ("new" : Str) → plainS[i.val]? ≠ some ("copy" : Str) → ownS[i.val]? = plainS[i.val]?) := by decide +kernel
  intro i z hz
  obtain ⟨h1, h2, h3⟩ := h i
  refine ⟨fun e => h1 (by rw [hz, e]), fun e => h2 (by rw [hz, e]), fun n1 n2 => ?_⟩
  rw [h3 (by rw [hz]; exact fun e => n1 (Option.some.inj e)) (by rw [hz]; exact fun e => n2 (Option.some.inj e)), hz]
theorem own_of {k : Int} {z : Str} (h0 : 0 ≤ k) (h1 : k < 100) (h : NmOf k z) : (z = "new" → OwnOf k "news") ∧ (z = "copy" → OwnOf k "copys") ∧ (nn z → OwnOf k z) := by
  rcases h with h | ⟨hk, h⟩
  · refine ⟨fun e => ?_, fun e => ?_, fun _ => .inl h⟩
    · rw [e, plain_digs "new" (by decide +kernel)] at h
      exact absurd h.symm (num_ne h0 h1)
    · rw [e, plain_digs "copy" (by decide +kernel)] at h
      exact absurd h.symm (num_ne h0 h1)
  · obtain ⟨q1, q2, q3⟩ := plain_step ⟨k.toNat, by omega⟩ z h
    exact ⟨fun e => .inr ⟨hk, q1 e⟩, fun e => .inr ⟨hk, q2 e⟩, fun n => .inr ⟨hk, q3 n.1 n.2⟩⟩
theorem own_nn {k : Int} {z : Str} (h0 : 0 ≤ k) (h1 : k < 100) (h : OwnOf k z) : nn z := by
  have no : ∀ w : Str, w ∈ plainS ++ ownS → w ∉ ownS → z ≠ w := by
    intro w hw hn e
    subst e
    rcases h with h | ⟨_, h⟩
    · rw [plain_digs z hw] at h
      exact num_ne h0 h1 h.symm
    · exact hn (List.mem_of_getElem? h)
  exact ⟨no "new" (by decide +kernel) (by decide +kernel), no "copy" (by decide +kernel) (by decide +kernel)⟩
theorem num_inj {k k' : Int} (h0 : 0 ≤ k) (h1 : k < 64) (h0' : 0 ≤ k') (h1' : k' < 64) (h : tl (Str.ofString (toString k)) = tl (Str.ofString (toString k'))) : k = k' := by
  have dec : ∀ i j : Fin 64, tl (Str.ofString (toString ((i.val : Nat) : Int))) = tl (Str.ofString (toString ((j.val : Nat) : Int))) → i = j := by decide +kernel
  obtain ⟨n, rfl⟩ := Int.eq_ofNat_of_zero_le h0
  obtain ⟨m, rfl⟩ := Int.eq_ofNat_of_zero_le h0'
  have := dec ⟨n, by omega⟩ ⟨m, by omega⟩ h
  rw [show n = m from congrArg Fin.val this]
theorem own_inj {k k' : Int} {z : Str} (h0 : 0 ≤ k) (h1 : k < 64) (h0' : 0 ≤ k') (h1' : k' < 64) (h : OwnOf k z) (h' : OwnOf k' z) : k = k' := by
  have pl : ∀ {j : Nat}, ownS[j]? = some z → digs z = [] := fun q => plain_digs z (List.mem_append_right _ (List.mem_of_getElem? q))
  rcases h with h | ⟨hk, h⟩ <;> rcases h' with h' | ⟨hk', h'⟩
  · exact num_inj h0 h1 h0' h1' (h.symm.trans h')
  · rw [pl h'] at h
    exact absurd h.symm (num_ne h0 (by omega))
  · rw [pl h] at h'
    exact absurd h'.symm (num_ne h0' (by omega))
  · have nd : ∀ i j : Fin 16, ownS[i.val]? = ownS[j.val]? → i = j := by decide +kernel
    have := nd ⟨k.toNat, by omega⟩ ⟨k'.toNat, by omega⟩ (h.trans h'.symm)
    have e : k.toNat = k'.toNat := congrArg Fin.val this
    omega
def spOwn : Sp := fun vs H Q _ => ∃ d k, vs = [.ref d, .int k] ∧ H d = some (DrO d) ∧ 0 ≤ k ∧ k < 64 ∧ ∀ p l H' r, H p = none → H l = none → Ex H H' → H' p = some (.lst [.str r.1, .int r.2.1, .ref l]) → H' l = some (.lst (r.2.2.map V.int)) → good r → OwnOf k r.1 → Q (.ref p) H'
theorem ok_own (T : Tx K mg A) : FnOk P w K mg base CX0 3 A.own A.d_own p_own spOwn := by
  refine T.F_own.ok sc_own (fun vs H Q E h => ?_) (fun cdv Ar outer s H vs Q E hr h => ?_)
  · obtain ⟨d, k, rfl, _⟩ := h
    rfl
  · obtain ⟨d, k, rfl, hd, k0, k1, q⟩ := h
    refine ⟨_, (pss_cons (ps_set (i := 2) sc_own.nd rfl (Or.inl rfl) (pe_call (ok_name T) (hr.mono (by decide)) (by rfl) T.g_name T.F_name.kp T.b_name .nil pass0 (pa_cons (pv 0) (pa_cons (pv 1) pa_nil))))
      (pss_cons (ps_if (pt_cmpR op_eq (pv 2) pe_str (nomark _)) (pss_one (ps_set (i := 2) sc_own.nd rfl (Or.inl rfl) pe_str)) pss_nil)
      (pss_cons (ps_if (pt_cmpR op_eq (pv 2) pe_str (nomark _)) (pss_one (ps_set (i := 2) sc_own.nd rfl (Or.inl rfl) pe_str)) pss_nil)
      (pss_one (ps_ret (pe_call (ok_parts T) (hr.mono (by decide)) (by rfl) T.g_parts T.F_parts.kp T.b_parts .nil pass0 (pa_cons (pv 0) (pa_cons (pv 2) pa_nil)))))))), ?_⟩
    refine ⟨_, rfl, _, rfl, d, k, rfl, hd, k0, by omega, fun z H1 hz hnm e1 => ?_⟩
    have hd1 := e1 _ _ hd
    obtain ⟨o1, o2, o3⟩ := own_of k0 (by omega) hnm
    have fin : ∀ y, okS y = true → OwnOf k y → spParts [.ref d, .str y] H1 Q (fun _ _ _ => False) := fun y hy ho => ⟨d, y, rfl, hd1, hy, fun p l H' r hp hl e h1 h2 hr hg => q p l H' r (fresh_back e1 hp) (fresh_back e1 hl) (e1.trans e) h1 h2 hg (by rw [hr]; exact ho)⟩
    refine ⟨_, rfl, rfl, _, rfl, ite2 (fun h => ?_) (fun h => ?_)⟩
    · refine ⟨_, rfl, rfl, _, rfl, ite2 (fun h2 => absurd h2 (by decide +kernel)) (fun _ => ?_)⟩
      exact ⟨_, rfl, _, rfl, fin _ (by decide +kernel) (o1 (V.str.inj (of_decide_eq_true h)))⟩
    · have n1 : z ≠ "new" := fun e => h (decide_eq_true (congrArg V.str e))
      refine ⟨_, rfl, rfl, _, rfl, ite2 (fun h2 => ?_) (fun h2 => ?_)⟩
      · exact ⟨_, rfl, _, rfl, fin _ (by decide +kernel) (o2 (V.str.inj (of_decide_eq_true h2)))⟩
      · exact ⟨_, rfl, _, rfl, fin _ hz (o3 ⟨n1, fun e => h2 (decide_eq_true (congrArg V.str e))⟩)⟩
/-! ### the rows of the other book -/
structure Fit (rs : List Rw) : Prop where
  gd : ∀ r ∈ rs, good r
  nn : ∀ r ∈ rs, nn r.1
  nd : (rs.map (·.1)).Nodup
  ln : rs.length ≤ 8
theorem take_in {ms : List Addr} {rs : List Rw} {H : Hp} {p : Addr} {n : Int} (h : RowsAt H p ms rs) (h0 : 0 ≤ n) (h1 : n < (ms.length : Int)) : ∃ c r, atI (ms.map V.ref) n = some (.ref c) ∧ r ∈ rs ∧ RowAt H c r := by
  obtain ⟨i, rfl⟩ := Int.eq_ofNat_of_zero_le h0
  have hi : i < ms.length := by omega
  obtain ⟨r, hr, hrow⟩ := h.2.at' (List.getElem?_eq_getElem hi)
  exact ⟨ms[i], r, atI_nat (by rw [List.getElem?_map, List.getElem?_eq_getElem hi]; rfl), List.mem_of_getElem? hr, hrow⟩
def spOthers : Sp := fun vs H Q _ => ∃ d p as rs, vs = [.ref d, .ref p] ∧ H d = some (DrO d) ∧ RowsAt H p as rs ∧ Fit rs ∧ ∀ q H' bs ss, H q = none → Ex H H' → RowsAt H' q bs ss → Fit ss → Q (.ref q) H'
theorem ok_others (T : Tx K mg A) : FnOk P w K mg base CX0 4 A.others A.d_others p_others spOthers := by
  refine T.F_others.ok sc_others (fun vs H Q E h => ?_) (fun cdv Ar outer s H vs Q E hr h => ?_)
  · obtain ⟨d, p, as, rs, rfl, _⟩ := h
    rfl
  · obtain ⟨d, p, as, rs, rfl, hd, hR, fit, k⟩ := h
    refine ⟨_, (pss_cons (ps_set (i := 2) sc_others.nd rfl (Or.inl rfl) (pe_lst pa_nil))
      (pss_cons (ps_for PassesOwn.never rfl (pi_range1 (by rfl) T.m_range (pa_cons (pe_call (ok_take T) (hr.mono (by decide)) (by rfl) T.g_take T.F_take.kp T.b_take .nil pass0 (pa_cons (pv 0) (pa_cons pe_int pa_nil))) pa_nil)) (pg_name (i := 3) sc_others.nd rfl (Or.inl rfl)) (pss_cons (ps_set (i := 4) sc_others.nd rfl (Or.inl rfl) (pe_call (ok_take T) (hr.mono (by decide)) (by rfl) T.g_take T.F_take.kp T.b_take .nil pass0 (pa_cons (pv 0) (pa_cons pe_int pa_nil))))
        (pss_cons (ps_set (i := 5) sc_others.nd rfl (Or.inl rfl) (pe_call (ok_own T) (hr.mono (by decide)) (by rfl) T.g_own T.F_own.kp T.b_own .nil pass0 (pa_cons (pv 0) (pa_cons (pe_op op_add pe_int (pv 3)) pa_nil))))
        (Evl.pss_cut (ps_if (PW.pt (pw_and (pt_cmpR op_lt pe_int (pv 4) (nomark _)) (pw_and (pt_cmpR op_lt (pv 4) pe_int (nomark _)) (pw_and1 (pt_cmpR op_gt (pe_callB call_len_seq (by rfl) T.m_len PySem.boot_len (pa_cons (pv 1) pa_nil)) pe_int (nomark _)))))) (pss_one (ps_set (i := 5) sc_others.nd rfl (Or.inl rfl) (pe_ix ix_list (pv 1) (pe_call (ok_take T) (hr.mono (by decide)) (by rfl) T.g_take T.F_take.kp T.b_take .nil pass0 (pa_cons (pv 0) (pa_cons (pe_callB call_len_seq (by rfl) T.m_len PySem.boot_len (pa_cons (pv 1) pa_nil)) pa_nil))) (fun _ _ => rfl)))) pss_nil)
        (Evl.pss_cut (ps_if (PW.pt (pw_and (pt_cmpR op_eq (pv 4) pe_int (nomark _)) (pw_and1 (pt_cmpR op_gt (pe_callB call_len_seq (by rfl) T.m_len PySem.boot_len (pa_cons (pv 1) pa_nil)) pe_int (nomark _))))) (pss_one (ps_set (i := 5) sc_others.nd rfl (Or.inl rfl) (pe_call (ok_parts T) (hr.mono (by decide)) (by rfl) T.g_parts T.F_parts.kp T.b_parts .nil pass0 (pa_cons (pv 0) (pa_cons (pe_ix ix_list (pe_ix ix_list (pv 1) (pe_call (ok_take T) (hr.mono (by decide)) (by rfl) T.g_take T.F_take.kp T.b_take .nil pass0 (pa_cons (pv 0) (pa_cons (pe_callB call_len_seq (by rfl) T.m_len PySem.boot_len (pa_cons (pv 1) pa_nil)) pa_nil))) (fun _ _ => rfl)) pe_int (fun _ _ => rfl)) pa_nil))))) pss_nil)
        (pss_one (ps_if (pt_cmpR op_notIn_seq (pe_ix ix_list (pv 5) pe_int (fun _ _ => rfl)) (pe_lc (own := [("_law_one", 6)]) (g := gName 6) (tt := tYes) rfl sc_others.nd (pi_list (pv 2)) (blkOk_by (N := n_others) (sc := defScope s_others) (by decide +kernel)) (fun _ _ _ _ _ => pg_name (i := 6) sc_others.nd rfl (Or.inl rfl)) (fun _ _ _ _ _ => pts_nil) (fun _ _ _ _ _ => (pe_ix (show IxR _ (rIxL K) from ix_list) (pv 6) pe_int (fun _ _ => rfl)))) (by rfl)) (pss_one (ps_expr (pe_bm PySem.F.plainAttrs_list PySem.F.slot_list_append PySem.F.type_list_append mt_append (pv 2) (pa_cons (pv 5) pa_nil)))) pss_nil)))))))
      (pss_one (ps_ret (pv 2))))), ?_⟩
    have hAl := hR.2.len
    have hln := fit.ln
    refine ⟨sz_of (by show 0 ≤ 100000; decide), fun q hq => ?_⟩
    have e0 := Ex.new (o := .lst []) hq
    refine ⟨_, rfl, d, _, rfl, e0 _ _ hd, by decide, fun n n0 n1 => ?_⟩
    refine ⟨n, rfl, forR1 (n := n) ⟨by omega, by omega⟩ (fun i σ' H' => (∃ v3 v4 v5 v6, σ' = [some (.ref d), some (.ref p), some (.ref q), v3, v4, v5, v6]) ∧ Ex H H' ∧ ∃ bs ss, RowsAt H' q bs ss ∧ (∀ r ∈ ss, good r) ∧ (∀ r ∈ ss, nn r.1) ∧ (ss.map (·.1)).Nodup ∧ ss.length ≤ i) ⟨⟨_, _, _, _, rfl⟩, e0, [], [], ⟨upd_same, .nil⟩, fun _ h => (nomatch h), fun _ h => (nomatch h), List.nodup_nil, Nat.le_refl _⟩ ?_ ?_⟩
    · rintro i σ' H1 hi ⟨⟨v3, v4, v5, v6, rfl⟩, e1, bs, ss, ⟨hL, hB⟩, hg, hn, hnd, hl⟩
      have hd1 := e1 _ _ hd
      refine ⟨_, rfl, d, _, rfl, hd1, by decide, fun fo f0 f1 => ?_⟩
      refine ⟨_, rfl, _, rfl, 40, _, rfl, rfl, d, _, rfl, hd1, by omega, by omega, fun c l H2 r hc hlf e2 hcr hlr hgr ho => ?_⟩
      have nnr := own_nn (by omega) (by omega) ho
      have nc : c ≠ q := by rintro rfl; rw [hL] at hc; cases hc
      have nl : l ≠ q := by rintro rfl; rw [hL] at hlf; cases hlf
      have hL2 := e2 _ _ hL
      let S : Addr → L2.St := fun c => [some (.ref d), some (.ref p), some (.ref q), some (.int (i : Int)), some (.int fo), some (.ref c), v6]
      let J : L2.St → Hp → Prop := fun σ' H' => ∃ c l r, σ' = S c ∧ Ex H1 H' ∧ H' c = some (.lst [.str r.1, .int r.2.1, .ref l]) ∧ H' l = some (.lst (r.2.2.map V.int)) ∧ c ≠ q ∧ l ≠ q ∧ good r ∧ nn r.1
      have j0 : J (S c) H2 := ⟨c, l, r, rfl, e2, hcr, hlr, nc, nl, hgr, nnr⟩
      have hR2 : RowsAt H2 p as rs := ⟨(e1.trans e2) _ _ hR.1, hR.2.imp fun _ _ h => h.mono (e1.trans e2)⟩
      have old : ∀ {c l : Addr} {r : Rw}, H c = some (.lst [.str r.1, .int r.2.1, .ref l]) → H l = some (.lst (r.2.2.map V.int)) → c ≠ q ∧ l ≠ q := fun h1 h2 => ⟨ne_of_none h1 hq, ne_of_none h2 hq⟩
      refine ⟨J, ?_, ?_⟩
      · refine ⟨_, rfl, _, _, rfl, rfl, _, rfl, ite2 (fun _ => ?_) (fun _ => iteF j0)⟩
        refine ⟨_, rfl, _, _, rfl, rfl, _, rfl, ite2 (fun _ => ?_) (fun _ => iteF j0)⟩
        refine ⟨_, rfl, p, _, rfl, .inl (SqL.of hR2.1), _, 0, rfl, rfl, _, rfl, ite2 (fun h => ?_) (fun _ => j0)⟩
        have hm : (0 : Int) < ((as.map V.ref).length : Int) := of_decide_eq_true h
        refine ⟨_, rfl, _, rfl, _, rfl, p, _, rfl, .inl (SqL.of hR2.1), d, _, rfl, e2 _ _ hd1, hm, fun m m0 m1 => ?_⟩
        obtain ⟨c', r', hat, hr', l', hc', hl'⟩ := take_in hR m0 (by rw [List.length_map] at m1; exact m1)
        obtain ⟨x1, x2⟩ := old hc' hl'
        exact ⟨p, _, m, .ref c', rfl, rfl, SqL.of hR2.1, hat, c', l', r', rfl, e2, (e1.trans e2) _ _ hc', (e1.trans e2) _ _ hl', x1, x2, fit.gd _ hr', fit.nn _ hr'⟩
      rintro σ' H3 ⟨c, l, r, rfl, e3, hcr, hlr, nc, nl, hgr, nnr⟩
      have j1 : J (S c) H3 := ⟨c, l, r, rfl, e3, hcr, hlr, nc, nl, hgr, nnr⟩
      have hR3 : RowsAt H3 p as rs := ⟨(e1.trans e3) _ _ hR.1, hR.2.imp fun _ _ h => h.mono (e1.trans e3)⟩
      refine ⟨J, ?_, ?_⟩
      · refine ⟨_, rfl, rfl, _, rfl, ite2 (fun _ => ?_) (fun _ => iteF j1)⟩
        refine ⟨_, rfl, p, _, rfl, .inl (SqL.of hR3.1), _, 0, rfl, rfl, _, rfl, ite2 (fun h => ?_) (fun _ => j1)⟩
        have hm : (0 : Int) < ((as.map V.ref).length : Int) := of_decide_eq_true h
        refine ⟨_, rfl, _, rfl, _, rfl, _, rfl, p, _, rfl, .inl (SqL.of hR3.1), d, _, rfl, e3 _ _ hd1, hm, fun m m0 m1 => ?_⟩
        obtain ⟨c', r', hat, hr', l', hc', hl'⟩ := take_in hR m0 (by rw [List.length_map] at m1; exact m1)
        refine ⟨p, _, m, .ref c', rfl, rfl, SqL.of hR3.1, hat, c', _, 0, .str r'.1, rfl, rfl, SqL.of ((e1.trans e3) _ _ hc'), atI_nat (j := 0) rfl, d, r'.1, rfl, e3 _ _ hd1, (fit.gd _ hr').1, fun c2 l2 H4 r2 hc2 hl2 e4 h1 h2 hr2 hg2 => ?_⟩
        have hL3 := e3 _ _ hL
        exact ⟨c2, l2, r2, rfl, e3.trans e4, h1, h2, (by rintro rfl; rw [hL3] at hc2; cases hc2), (by rintro rfl; rw [hL3] at hl2; cases hl2), hg2, by rw [hr2]; exact fit.nn _ hr'⟩
      rintro σ' H4 ⟨c, l, r, rfl, e4, hcr, hlr, nc, nl, hgr, nnr⟩
      have hL4 := e4 _ _ hL
      have hB4 : All2 (RowAt H4) bs ss := hB.imp fun _ _ h => h.mono e4
      have hBl := hB.len
      refine ⟨_, rfl, c, _, 0, .str r.1, rfl, rfl, SqL.of hcr, atI_nat (j := 0) rfl, _, rfl, q, rfl, ⟨_, SqL.of hL4⟩, fun D hD => ?_⟩
      refine lc_it (walk_list (xs := bs.map V.ref)) (fun j H' => H' = upd H4 D (.lst (((ss.take j).map (·.1)).map V.str))) rfl (fun j H' _ h => by rw [h]; exact SqL.of ((Ex.new hD) _ _ hL4)) ?_ ?_
      · rintro j y H6 H7 hj rfl ⟨rfl, hy⟩
        rw [List.getElem?_map] at hy
        cases hai : bs[j]? with
        | none => rw [hai] at hy; cases hy
        | some b =>
        rw [hai] at hy
        cases hy
        obtain ⟨r', hri, l', har, _⟩ := hB4.at' hai
        have har' := (Ex.new (o := .lst (((ss.take j).map (·.1)).map V.str)) hD) _ _ har
        refine ⟨rfl, _, rfl, b, _, 0, .str r'.1, rfl, rfl, SqL.of har', atI_nat (j := 0) rfl, _, upd_same, ?_, ?_⟩
        · rw [List.length_map, List.length_map, List.length_take]
          exact sz_lt (by omega)
        · rw [upd_upd, List.take_add_one, hri, List.map_append, List.map_append]
          rfl
      rintro H6 rfl
      rw [List.length_map, hBl, List.take_length]
      have eD := Ex.new (o := .lst ((ss.map (·.1)).map V.str)) hD
      have hD6 := upd_same (H := H4) (a := D) (o := .lst ((ss.map (·.1)).map V.str))
      generalize upd H4 D (.lst ((ss.map (·.1)).map V.str)) = H5 at eD hD6 ⊢
      have e15 := (e1.trans e4).trans eD
      have hL5 := eD _ _ hL4
      refine ⟨D, _, rfl, .inl (SqL.of hD6), rfl, by rw [List.all_map]; exact List.all_eq_true.mpr fun _ _ => rfl, _, rfl, ?_⟩
      show if (!inV (.str r.1) ((ss.map (·.1)).map V.str)) = true then _ else _
      rw [inV_strs]
      refine ite2 (fun h => ?_) (fun h => ?_)
      · have hnm : r.1 ∉ ss.map (·.1) := by simpa using h
        refine ⟨_, rfl, .inl ⟨rfl, _, SqL.of hL5⟩, _, rfl, q, _, _, rfl, rfl, hL5, by rw [List.length_map]; exact sz_lt (by omega), ⟨_, _, _, _, rfl⟩, e15.mut hq, bs ++ [c], ss ++ [r], ⟨by rw [upd_same, List.map_append]; rfl, ?_⟩, ?_, ?_, ?_, ?_⟩
        · exact (rows_upd hL5 (hB4.imp fun _ _ h => h.mono eD)).snoc ⟨l, by rw [upd_ne nc]; exact eD _ _ hcr, by rw [upd_ne nl]; exact eD _ _ hlr⟩
        · intro x hx
          rcases List.mem_append.mp hx with h | h
          · exact hg x h
          · rw [List.mem_singleton.mp h]; exact hgr
        · intro x hx
          rcases List.mem_append.mp hx with h | h
          · exact hn x h
          · rw [List.mem_singleton.mp h]; exact nnr
        · rw [List.map_append]
          refine List.pairwise_append.mpr ⟨hnd, List.pairwise_singleton _ _, fun u hu v hv => ?_⟩
          rw [List.mem_singleton.mp hv]
          rintro rfl
          exact hnm hu
        · rw [List.length_append]
          show ss.length + 1 ≤ i + 1
          omega
      · exact ⟨⟨_, _, _, _, rfl⟩, e15, bs, ss, ⟨hL5, hB4.imp fun _ _ h => h.mono eD⟩, hg, hn, hnd, by omega⟩
    · rintro σ' H' ⟨⟨v3, v4, v5, v6, rfl⟩, e1, bs, ss, hB, hg, hn, hnd, hl⟩
      exact ⟨_, rfl, k q H' bs ss hq e1 hB ⟨hg, hn, hnd, by omega⟩⟩
end
end K05

set_option Elab.async false
set_option linter.all false
set_option maxRecDepth 100000
namespace K05
open PySem PySem.Spec PyProof.Rows L2 Evl TL UL StX
section
variable {P : Program} {w : World} {K : PySem.W.Frag} {mg : Str → Option Value} {base : Heap} {A : Adr}
/-! ### books joined -/
def clash (ra : List Rw) (r : Rw) : Bool := ra.any fun r' => decide (r'.1 = r.1) && !decide (r' = r)
def confl (ra : List Rw) : List Rw → Option Str
  | [] => none
  | r :: rb => if clash ra r = true then some r.1 else confl ra rb
def added (ra rb : List Rw) : List Rw := rb.filter fun r => !decide (r.1 ∈ ra.map (·.1))
def errJoin (ra rb : List Rw) (TL DF : Addr) : Option (Addr × Str) := match confl ra rb with
  | some z => some (DF, z)
  | none => if 12 < (ra ++ added ra rb).length then some (TL, ("functions" : Str)) else none
theorem added_snoc (ra l : List Rw) (r : Rw) : added ra (l ++ [r]) = added ra l ++ (if r.1 ∈ ra.map (·.1) then [] else [r]) := by
  unfold added
  rw [List.filter_append]
  by_cases h : r.1 ∈ ra.map (·.1)
  · rw [if_pos h, List.filter_cons_of_neg (by rw [decide_eq_true h]; decide)]
    rfl
  · rw [if_neg h, List.filter_cons_of_pos (by rw [decide_eq_false h]; rfl)]
    rfl
theorem dueGo_ok : ∀ (rs : List Rw) (kn : List Str), (rs.map (·.1)).Nodup → (∀ r ∈ rs, r.1 ∉ kn) → dueGo kn rs = (("book" : Str), ("" : Str))
  | [], _, _, _ => rfl
  | r :: rs, kn, nd, h => by
    rw [List.map_cons, List.nodup_cons] at nd
    unfold dueGo
    rw [if_neg (h r List.mem_cons_self)]
    refine dueGo_ok rs _ nd.2 fun x hx q => ?_
    rcases List.mem_append.mp q with q | q
    · exact h x (List.mem_cons_of_mem _ hx) q
    · exact nd.1 (List.mem_map.mpr ⟨x, hx, List.mem_singleton.mp q⟩)
theorem due_nd {rs : List Rw} {TL DF : Addr} (nd : (rs.map (·.1)).Nodup) (h : ∀ r ∈ rs, nn r.1) : errDue (dueOf rs) TL DF = if 12 < rs.length then some (TL, ("functions" : Str)) else none := by
  unfold dueOf
  by_cases hl : 12 < rs.length
  · rw [if_pos hl, if_pos hl]
    rfl
  · rw [if_neg hl, if_neg hl, dueGo_ok rs _ nd fun r hr q => ?_]
    · rfl
    · have n := h r hr
      simp only [List.mem_cons, List.not_mem_nil, or_false] at q
      rcases q with q | q
      · exact n.1 q
      · exact n.2 q
theorem book_nn {rs : List Rw} (h : ((newR :: copyR :: rs).map (·.1)).Nodup) : (∀ r ∈ rs, nn r.1) ∧ (rs.map (·.1)).Nodup := by
  rw [List.map_cons, List.map_cons, List.nodup_cons, List.nodup_cons] at h
  obtain ⟨h1, h2, h3⟩ := h
  refine ⟨fun r hr => ⟨fun e => h1 (List.mem_cons_of_mem _ (List.mem_map.mpr ⟨r, hr, e⟩)), fun e => h2 (List.mem_map.mpr ⟨r, hr, e⟩)⟩, h3⟩
theorem added_nd {ra rb : List Rw} (ha : (ra.map (·.1)).Nodup) (hb : (rb.map (·.1)).Nodup) : ((ra ++ added ra rb).map (·.1)).Nodup := by
  rw [List.map_append]
  refine List.pairwise_append.mpr ⟨ha, hb.sublist (List.Sublist.map _ List.filter_sublist), fun u hu v hv e => ?_⟩
  obtain ⟨r, hr, rfl⟩ := List.mem_map.mp hv
  have := (List.mem_filter.mp hr).2
  rw [← e, decide_eq_true hu] at this
  cases this
theorem has_nn {ra : List Rw} {z : Str} (h : nn z) : hasB (.str z) (newR :: copyR :: ra) = decide (z ∈ ra.map (·.1)) := by
  refine decide_eq_decide.mpr ?_
  rw [List.map_cons, List.map_cons, List.mem_cons, List.mem_cons]
  refine ⟨fun q => ?_, fun q => .inr (.inr q)⟩
  rcases q with q | q | q
  · exact absurd q h.1
  · exact absurd q h.2
  · exact q
theorem clash_one {ra : List Rw} {r r' : Rw} (nd : (ra.map (·.1)).Nodup) (h : r' ∈ ra) (e : r'.1 = r.1) : clash ra r = !decide (r' = r) := by
  unfold clash
  by_cases q : r' = r
  · rw [decide_eq_true q, List.any_eq_false.mpr]
    · rfl
    · intro x hx w
      rw [Bool.and_eq_true] at w
      have : x = r' := one_name nd hx h ((of_decide_eq_true w.1).trans e.symm)
      rw [this, decide_eq_true q] at w
      exact absurd w.2 (by decide)
  · rw [decide_eq_false q, List.any_eq_true.mpr]
    · rfl
    · exact ⟨r', h, by rw [decide_eq_true e, decide_eq_false q]; rfl⟩
theorem clash_none {ra : List Rw} {r : Rw} (h : r.1 ∉ ra.map (·.1)) : clash ra r = false := by
  unfold clash
  rw [List.any_eq_false]
  intro x hx w
  rw [Bool.and_eq_true] at w
  exact h (List.mem_map.mpr ⟨x, hx, of_decide_eq_true w.1⟩)
theorem All2.app {α β : Type} {R : α → β → Prop} : ∀ {as as' : List α} {bs bs' : List β}, All2 R as bs → All2 R as' bs' → All2 R (as ++ as') (bs ++ bs')
  | _, _, _, _, .nil, h => h
  | _, _, _, _, .cons h t, h' => .cons h (t.app h')
theorem BookAt.given {K : PySem.W.Frag} {B C : Addr} {H : Hp} {a : Addr} {ss : List Addr} {rs : List Rw} (h : BookAt K B C H a ss (newR :: copyR :: rs)) : All2 (SigR K C H) (ss.drop 2) rs := by
  cases h.sg with
  | cons _ t =>
    cases t with
    | cons _ t => exact t
def spBookOr (K : PySem.W.Frag) (B C TL DF : Addr) : Sp := fun vs H Q E => ∃ a b sa ra sb rb, vs = [.ref a, .ref b] ∧ BookAt K B C H a sa (newR :: copyR :: ra) ∧ BookAt K B C H b sb (newR :: copyR :: rb) ∧
  (errJoin ra rb TL DF = none → ∀ H' x ss, H x = none → Ex H H' → BookAt K B C H' x ss (newR :: copyR :: (ra ++ added ra rb)) → Q (.ref x) H') ∧
  (∀ X z, errJoin ra rb TL DF = some (X, z) → ∀ d H', Ex H H' → H' d = some (.xd [("what", .str z)]) → E (.ref X) (some d) H')
theorem ok_book_or (T : Tx K mg A) : FnOk P w K mg base (L2.CX P w) 12 A.book_or A.d_book_or p_book_or (spBookOr K A.Book A.Signature A.TooLarge A.DuplicateFunction) := by
  refine T.F_book_or.okX sc_book_or (fun vs H Q E h => ?_) (fun cdv Ar outer s H vs Q E hr h => ?_)
  · obtain ⟨a, b, sa, ra, sb, rb, rfl, _⟩ := h
    rfl
  · obtain ⟨a, b, sa, ra, sb, rb, rfl, ba, bb, k1, k2⟩ := h
    refine ⟨_, (pss_cons (ps_for PassesOwn.leaving rfl (pi_tup (pe_fld (pv 1) rfl)) (pg_name (i := 2) sc_book_or.nd rfl (Or.inl rfl)) (pss_one (ps_if (PW.pt (pw_and (pt_cmpR (UL.op_ownIn (ok_book_has T) (hr.mono (by decide)) T.e_book_has.at_ T.e_book_has.fn T.b_book_has pass0) (pe_fld (pv 2) rfl) (pv 0) (by rfl)) (pw_and1 (pt_cmpR (UL.op_ownNe (ok_sig_eq T) (hr.mono (by decide)) ⟨T.ne_Sig, T.e_sig_eq.at_, T.e_sig_eq.fn, T.ob_Sig⟩ T.b_sig_eq pass0) (UL.pe_ixOwn (ok_book_get T) (hr.mono (by decide)) T.e_book_get.at_ T.fi_book_get T.e_book_get.fn T.b_book_get passL (pv 0) (pe_fld (pv 2) rfl)) (pv 2) (nomark _))))) (pss_one (ps_raise rfl (takes_of rfl rfl rfl rfl) (pmk_oex T.ex_DuplicateFunction.ox T.ex_DuplicateFunction.ii T.ti_lives_init (ok_lives_init T) (hr.mono (by decide)) T.b_lives_init .nil pass0 (by rfl) T.g_DuplicateFunction (pa_cons (pe_fld (pv 2) rfl) pa_nil)))) pss_nil)))
      (pss_cons (ps_setLc (i := 3) (own := [("signature", 2)]) (g := gName 2) rfl sc_book_or.nd rfl rfl (sw_true rfl rfl rfl (by decide +kernel)) (pi_tup (pe_fld (pv 1) rfl)) (blkOk_by (N := n_book_or) (sc := defScope s_book_or) (by decide +kernel)) (fun _ _ _ _ _ => pg_name (i := 2) sc_book_or.nd rfl (Or.inl rfl)) (fun _ _ _ _ _ => pts_one (pt_cmpR (show OpR _ _ (UL.rOwnIn A.Book true (spBookHas K A.Book A.Signature) E0) from (UL.op_ownNotIn (ok_book_has T) (hr.mono (by decide)) T.e_book_has.at_ T.e_book_has.fn T.b_book_has pass0)) (show PE _ _ (tFld K _ _) from (pe_fld (pv 2) rfl)) (pv 0) (by rfl))) (fun _ _ _ _ _ => (pv 2)))
      (pss_cons (ps_set (i := 4) sc_book_or.nd rfl (Or.inl rfl) (pe_lst (pa_star (pe_fld (pv 0) rfl) (pa_star (pv 3) pa_nil))))
      (pss_one (ps_ret (UL.pe_makeStar T.mk_Book (ok_book_init T) (hr.mono (by decide)) (by rfl) T.g_Book (UL.passX (takes_of rfl rfl rfl rfl)) (pv 4))))))), ?_⟩
    obtain ⟨dxa, ga, ea, na, a1, a2, a3, a4⟩ := ba.ex
    obtain ⟨dxb, gb, eb, nb, b1, b2, b3, b4⟩ := bb.ex
    obtain ⟨nna, nda⟩ := book_nn ba.nd
    obtain ⟨nnb, ndb⟩ := book_nn bb.nd
    have gva := ba.given
    have gvb := bb.given
    have gl := gvb.len
    have rla : ra.length ≤ 12 := by have := ba.ln; rw [List.length_cons, List.length_cons] at this; omega
    have rlb : rb.length ≤ 12 := by have := bb.ln; rw [List.length_cons, List.length_cons] at this; omega
    have goodb : ∀ r ∈ rb, good r := fun r hr => bb.gd r (List.mem_cons_of_mem _ (List.mem_cons_of_mem _ hr))
    have gooda : ∀ r ∈ ra, good r := fun r hr => ba.gd r (List.mem_cons_of_mem _ (List.mem_cons_of_mem _ hr))
    generalize sb.drop 2 = tb at b2 gvb gl
    generalize hta : sa.drop 2 = ta at a2 gva
    refine ⟨_, rfl, b, _, dxb, _, _, rfl, b1, T.cl_Book, T.na_Book__given, f_given _ _ _, gb, rfl, ⟨_, b2⟩, for_tup (xs := tb.map V.ref) (fun i σ H' => (∃ v2 v3 v4, σ = [some (.ref a), some (.ref b), v2, v3, v4]) ∧ H' = H ∧ confl ra rb = confl ra (rb.drop i)) ⟨⟨_, _, _, rfl⟩, rfl, rfl⟩ (fun i σ' H' _ q => by rw [q.2.1]; exact b2) ?_ ?_⟩
    · rintro i y σ' H' hi ⟨⟨v2, v3, v4, rfl⟩, rfl, hc⟩
      rw [List.getElem?_map] at hi
      cases hai : tb[i]? with
      | none => rw [hai] at hi; cases hi
      | some s' =>
      rw [hai] at hi
      cases hi
      obtain ⟨r, hri, dx', t', hs, hst⟩ := gvb.at' hai
      have hlt : i < rb.length := (List.getElem?_eq_some_iff.mp hri).1
      have hdr : rb.drop i = r :: rb.drop (i + 1) := by rw [List.drop_eq_getElem_cons hlt, (List.getElem?_eq_some_iff.mp hri).2]
      rw [hdr] at hc
      have hrm := List.mem_of_getElem? hri
      have hz := okS_len (goodb r hrm).1
      have th : Th H' (.str r.1) := .inl ⟨_, rfl, by omega⟩
      refine ⟨_, rfl, s', _, dx', _, _, rfl, hs, T.cl_Signature, T.na_Signature_name, f_name _ _ _, _, rfl, a, dxa, _, rfl, a1, a, .str r.1, sa, _, rfl, ba, th, _, rfl, _, rfl, ?_⟩
      rw [has_nn (nnb r hrm)]
      refine ite2 (fun h => ?_) (fun h => iteF ?_)
      · have hin : r.1 ∈ ra.map (·.1) := of_decide_eq_true h
        refine ⟨_, rfl, _, rfl, s', _, dx', _, _, rfl, hs, T.cl_Signature, T.na_Signature_name, f_name _ _ _, a, dxa, _, rfl, a1, a, .str r.1, sa, _, rfl, ba, th, rfl, (fun j s0 r0 z hz h1 h2 h3 => ?_), fun q => by rw [has_nn (nnb r hrm), decide_eq_true hin] at q; cases q⟩
        cases hz
        have hr0 : r0 ∈ ra := by
          rcases List.mem_cons.mp (List.mem_of_getElem? h2) with e | q
          · exact absurd (h3.symm.trans (by rw [e]; rfl)) (nnb r hrm).1
          · rcases List.mem_cons.mp q with e | q
            · exact absurd (h3.symm.trans (by rw [e]; rfl)) (nnb r hrm).2
            · exact q
        obtain ⟨r2, hr2, dx0, t0, hs0, hst0⟩ := ba.sg.at' h1
        rw [h2] at hr2
        cases hr2
        refine ⟨_, rfl, s0, s', dx0, _, dx', _, rfl, rfl, hs0, hs, s0, r0.1, r0.2.1, r0.2.2, .ref s', _, rfl, ⟨dx0, t0, hs0, hst0⟩, .inl ⟨s', r.1, r.2.1, r.2.2, rfl, ⟨dx', t', hs, hst⟩, rfl⟩, _, rfl, _, rfl, ?_⟩
        have eb : (decide (r0.1 = r.1) && decide (r0.2.1 = r.2.1) && decide (r0.2.2 = r.2.2)) = decide (r0 = r) := by
          obtain ⟨z, n, ns⟩ := r0
          obtain ⟨z', n', ns'⟩ := r
          show (decide (z = z') && decide (n = n') && decide (ns = ns')) = decide ((z, n, ns) = (z', n', ns'))
          by_cases h1 : z = z' <;> by_cases h2 : n = n' <;> by_cases h3 : ns = ns' <;> simp [h1, h2, h3]
        rw [eb, ← clash_one nda hr0 h3]
        have hc' : confl ra rb = if clash ra r = true then some r.1 else confl ra (rb.drop (i + 1)) := hc
        refine ite2 (fun q => ?_) (fun q => ?_)
        · rw [if_pos q] at hc'
          refine ⟨_, rfl, s', _, dx', _, _, rfl, hs, T.cl_Signature, T.na_Signature_name, f_name _ _ _, (by show 1 ≤ 1000; decide), raise_what T.ex_DuplicateFunction rfl fun d H2 e hd => ?_⟩
          exact k2 A.DuplicateFunction r.1 (by unfold errJoin; rw [hc']) d H2 e hd
        · rw [if_neg q] at hc'
          exact ⟨⟨_, _, _, rfl⟩, rfl, hc'⟩
      · have hout : r.1 ∉ ra.map (·.1) := fun q => h (decide_eq_true q)
        have hc' : confl ra rb = if clash ra r = true then some r.1 else confl ra (rb.drop (i + 1)) := hc
        rw [clash_none hout, if_neg (by decide)] at hc'
        exact ⟨⟨_, _, _, rfl⟩, rfl, hc'⟩
    rintro σ' H' ⟨⟨v2, v3, v4, rfl⟩, rfl, hc⟩
    rw [List.length_map, gl, List.drop_length] at hc
    have hc : confl ra rb = none := hc
    have ej : errJoin ra rb A.TooLarge A.DuplicateFunction = errDue (dueOf (ra ++ added ra rb)) A.TooLarge A.DuplicateFunction := by
      have nn2 : ∀ r ∈ ra ++ added ra rb, nn r.1 := fun r hr => by
        rcases List.mem_append.mp hr with q | q
        · exact nna r q
        · exact nnb r (List.mem_filter.mp q).1
      rw [due_nd (added_nd nda ndb) nn2]
      unfold errJoin
      rw [hc]
    -- what is added
    refine ⟨_, rfl, b, _, dxb, _, _, rfl, b1, T.cl_Book, T.na_Book__given, f_given _ _ _, gb, rfl, ⟨_, b2⟩, fun D hD => ?_⟩
    refine lc_it (walk_tup (xs := tb.map V.ref)) (fun i H2 => ∃ us, H2 = upd H' D (.lst (us.map V.ref)) ∧ All2 (SigR K A.Signature H') us (added ra (rb.take i)) ∧ us.length ≤ i) ⟨[], rfl, .nil, Nat.le_refl _⟩ (fun i H2 _ ⟨us, h, _⟩ => by rw [h]; exact ex_t (Ex.new hD) b2) ?_ ?_
    · rintro i y H2 H3 hi ⟨us, rfl, hus, hul⟩ ⟨rfl, hy⟩
      rw [List.getElem?_map] at hy
      cases hai : tb[i]? with
      | none => rw [hai] at hy; cases hy
      | some s' =>
      rw [hai] at hy
      cases hy
      have eD := Ex.new (o := .lst (us.map V.ref)) hD
      obtain ⟨r, hri, dx', t', hs, hst⟩ := gvb.at' hai
      have hrm := List.mem_of_getElem? hri
      have hz := okS_len (goodb r hrm).1
      have hlt : i < rb.length := (List.getElem?_eq_some_iff.mp hri).1
      have nx : rb.take (i + 1) = rb.take i ++ [r] := by rw [List.take_add_one, hri]; rfl
      refine ⟨rfl, _, rfl, s', _, dx', _, _, rfl, eD _ _ hs, T.cl_Signature, T.na_Signature_name, f_name _ _ _, _, rfl, a, dxa, _, rfl, eD _ _ a1, a, .str r.1, sa, _, rfl, ba.mono eD, .inl ⟨_, rfl, by omega⟩, _, rfl, _, rfl, ?_⟩
      rw [has_nn (nnb r hrm)]
      show if (!decide (r.1 ∈ ra.map (·.1))) = true then _ else _
      refine ite2 (fun h => ?_) (fun h => ?_)
      · refine ⟨_, rfl, _, upd_same, by rw [List.length_map]; exact sz_lt (by omega), us ++ [s'], by rw [upd_upd, List.map_append]; rfl, ?_, by rw [List.length_append]; show us.length + 1 ≤ i + 1; omega⟩
        rw [nx]
        rw [added_snoc, if_neg (by simpa using h)]
        exact hus.snoc ⟨dx', t', hs, hst⟩
      · refine ⟨us, rfl, ?_, by omega⟩
        rw [nx]
        rw [added_snoc, if_pos (by simpa using h), List.append_nil]
        exact hus
    rintro H2 ⟨us, rfl, hus, hul⟩
    rw [List.length_map, gl, List.take_length] at hus
    have eD := Ex.new (o := .lst (us.map V.ref)) hD
    have hD2 := upd_same (H := H') (a := D) (o := .lst (us.map V.ref))
    generalize upd H' D (.lst (us.map V.ref)) = H2 at eD hD2 ⊢
    rw [List.length_map] at hul
    have tal : ta.length ≤ 12 := by have := gva.len; omega
    refine ⟨_, rfl, a, _, dxa, _, _, rfl, eD _ _ a1, T.cl_Book, T.na_Book__given, f_given _ _ _, ga, _, rfl, .inl (ex_t eD a2), _, rfl, D, _, rfl, .inr (SqL.of hD2), ?_⟩
    have hcat : ta.map V.ref ++ (us.map V.ref ++ []) = (ta ++ us).map V.ref := by rw [List.append_nil, List.map_append]
    refine ⟨by rw [hcat, List.length_map, List.length_append]; exact sz_of (by omega), fun u hu => ?_⟩
    rw [hcat]
    have eu := Ex.new (o := .lst ((ta ++ us).map V.ref)) hu
    have hu3 := upd_same (H := H2) (a := u) (o := .lst ((ta ++ us).map V.ref))
    generalize upd H2 u (.lst ((ta ++ us).map V.ref)) = H3 at eu hu3 ⊢
    have e3 := eD.trans eu
    have hall : All2 (SigR K A.Signature H3) (ta ++ us) (ra ++ added ra rb) := (gva.imp fun _ _ q => q.mono e3).app (hus.imp fun _ _ q => q.mono e3)
    refine ⟨_, rfl, u, _, rfl, .inr (SqL.of hu3), fun x dx hx hdx ne => ?_⟩
    refine ⟨.ref x, _, rfl, by rw [List.length_map, List.length_append]; omega, fun p' hp' => ⟨x, dx, p', ta ++ us, ra ++ added ra rb, rfl, ?_, upd_same, ?_, ?_, ?_, ?_, ?_⟩⟩
    · rw [upd_ne (ne_of_none upd_same hp')]
      exact upd_same
    · exact hall.imp fun _ _ q => (q.mono (made_in hx hdx)).mono (Ex.new hp')
    · intro r hr
      rcases List.mem_append.mp hr with q | q
      · exact gooda r q
      · exact goodb r (List.mem_filter.mp q).1
    · have := hall.len
      rw [← this, List.length_append]
      omega
    · intro due H4 s1 s2 ex bk
      exact ⟨rfl, k1 (by rw [ej]; exact due) H4 x _ (fresh_back e3 hx) (e3.trans fun b o hb => ex b o (del_at (Ex.new hp' b o (made_in hx hdx b o hb)) (ne_of_none hb hx))) bk⟩
    · intro X z due d H4 e hd
      exact k2 X z (by rw [ej]; exact due) d H4 (e3.trans ((made_in hx hdx).trans ((Ex.new hp').trans e))) hd
end
end K05

set_option Elab.async false
set_option linter.all false
set_option maxRecDepth 100000
namespace K05
open PySem PySem.Spec PyProof.Rows L2 Evl TL UL StX
section
variable {P : Program} {w : World} {K : PySem.W.Frag} {mg : Str → Option Value} {base : Heap} {A : Adr}
def spBookRows (K : PySem.W.Frag) (B C : Addr) : Sp := fun vs H Q _ => ∃ p as rs, vs = [.ref p] ∧ RowsAt H p as rs ∧ Fit rs ∧ ∀ H' x ss, H x = none → Ex H H' → BookAt K B C H' x ss (newR :: copyR :: rs) → Q (.ref x) H'
theorem join_one {ra : List Rw} {r : Rw} {TL DF : Addr} (h : r.1 ∉ ra.map (·.1)) (hl : ra.length < 12) : errJoin ra [r] TL DF = none ∧ added ra [r] = [r] := by
  have h1 : added ra [r] = [r] := by
    have := added_snoc ra [] r
    rw [if_neg h] at this
    exact this
  refine ⟨?_, h1⟩
  unfold errJoin
  rw [show confl ra [r] = none by unfold confl; rw [clash_none h, if_neg (by decide)]; rfl, h1]
  show (if 12 < (ra ++ [r]).length then _ else _) = _
  rw [if_neg (by rw [List.length_append]; show ¬ 12 < ra.length + 1; omega)]
theorem ok_book_rows (T : Tx K mg A) : FnOk P w K mg base CX0 14 A.book_rows A.d_book_rows p_book_rows (spBookRows K A.Book A.Signature) := by
  refine T.F_book_rows.ok sc_book_rows (fun vs H Q E h => ?_) (fun cdv Ar outer s H vs Q E hr h => ?_)
  · obtain ⟨p, as, rs, rfl, _⟩ := h
    rfl
  · obtain ⟨p, as, rs, rfl, hR, fit, k⟩ := h
    obtain ⟨mv, kb_sig_init_2⟩ := T.F_sig_init.kbinds0 (ps := p_sig_init) 3 ["sources"] [] (fun us _ ws => us ++ ws) (by simp) (fun q h => (nomatch h)) (fun a _ c => a.append c) (fun D doc pm an cdv ct us mv ws h1 h2 h3 => by
      match us, h1, mv, h2, ws, h3 with
      | [_, _, _], _, [], _, [_], _ => exact rfl)
    refine ⟨_, (pss_cons (ps_set (i := 1) sc_book_rows.nd rfl (Or.inl rfl) (UL.pe_makeR0 T.mk_Book (ok_book_init T) (hr.mono (by decide)) (by rfl) T.g_Book passL))
      (pss_cons (ps_for PassesOwn.never rfl (pi_list (pv 0)) (pg_name (i := 2) sc_book_rows.nd rfl (Or.inl rfl)) (pss_one (ps_set (i := 1) sc_book_rows.nd rfl (Or.inl rfl) (pe_op (UL.op_ownBin (ok_book_or T) (hr.mono (by decide)) T.sf_Book T.e_book_or.at_ T.e_book_or.fn T.b_book_or passL) (pv 1) (StX.pe_makeR T.mk_Book (ok_book_init T) (hr.mono (by decide)) (by rfl) T.g_Book passL (pa_cons (pe_makeK (n := 2) T.mk_Signature (ok_sig_init T) (hr.mono (by decide)) (by rfl) T.g_Signature kb_sig_init_2 passL (pa_cons (pe_ix ix_list (pv 2) pe_int (fun _ _ => rfl)) (pa_cons (pe_ix ix_list (pv 2) pe_int (fun _ _ => rfl)) pa_nil)) (pk_cons (pe_ix ix_list (pv 2) pe_int (fun _ _ => rfl)) pk_nil)) pa_nil))))))
      (pss_one (ps_ret (pv 1))))), ?_⟩
    have hAl := hR.2.len
    have hln := fit.ln
    have mk : ∀ (H : Hp) (ss : List Addr) (rs : List Rw) (G : Addr → Hp → Prop), All2 (SigR K A.Signature H) ss rs → (∀ r ∈ rs, good r) → rs.length ≤ 12 → errDue (dueOf rs) A.TooLarge A.DuplicateFunction = none → (∀ H' x ss', H x = none → Ex H H' → BookAt K A.Book A.Signature H' x ss' (newR :: copyR :: rs) → G x H') →
        ∀ x dx, H x = none → H dx = none → dx ≠ x → UL.spStar (spBookInit K A.Book A.Signature A.TooLarge A.DuplicateFunction) (.ref x :: ss.map V.ref) (upd (upd H dx (.own x)) x (.ins A.Book dx [])) (fun v H2 => v = .non ∧ G x H2) E0 := by
      intro H ss rs G hS hg hl due kk x dx hx hdx ne
      have hsl := hS.len
      refine ⟨.ref x, ss.map V.ref, rfl, by rw [List.length_map]; omega, fun p' hp' => ⟨x, dx, p', ss, rs, rfl, ?_, upd_same, ?_, hg, by omega, ?_, ?_⟩⟩
      · rw [upd_ne (ne_of_none upd_same hp')]
        exact upd_same
      · exact hS.imp fun _ _ q => (q.mono (made_in hx hdx)).mono (Ex.new hp')
      · intro _ H' s1 s2 ex bk
        exact ⟨rfl, kk H' x _ hx (fun b o hb => ex b o (del_at (Ex.new hp' b o (made_in hx hdx b o hb)) (ne_of_none hb hx))) bk⟩
      · intro X z d2
        rw [due] at d2
        cases d2
    refine mk H [] [] _ .nil (fun _ h => (nomatch h)) (by decide) rfl (fun H1 x1 ss1 hx1 e1 bk1 => ?_)
    refine ⟨_, rfl, p, rfl, ⟨_, SqL.of (e1 _ _ hR.1)⟩, for_list (xs := as.map V.ref) (fun i σ' H' => (∃ x v2, σ' = [some (.ref p), some (.ref x), v2] ∧ H x = none ∧ ∃ ss, BookAt K A.Book A.Signature H' x ss (newR :: copyR :: rs.take i)) ∧ Ex H H') ⟨⟨x1, _, rfl, hx1, ss1, bk1⟩, e1⟩ (fun i σ' H' _ h => SqL.of (h.2 _ _ hR.1)) ?_ ?_⟩
    · rintro i y σ' H2 hi ⟨⟨x, v2, rfl, hx, ss, bk⟩, e2⟩
      rw [List.getElem?_map] at hi
      cases hai : as[i]? with
      | none => rw [hai] at hi; cases hi
      | some a =>
      rw [hai] at hi
      cases hi
      obtain ⟨r, hri, l, har, hal⟩ := (hR.2.imp fun _ _ h => h.mono e2).at' hai
      obtain ⟨hz, ⟨n0, n4⟩, hasc⟩ := fit.gd r (List.mem_of_getElem? hri)
      have hzl := okS_len hz
      have hl4 := asc_len n4 _ hasc
      have hlt : i < rs.length := (List.getElem?_eq_some_iff.mp hri).1
      have nx : rs.take (i + 1) = rs.take i ++ [r] := by rw [List.take_add_one, hri]; rfl
      have hnew : r.1 ∉ (rs.take i).map (·.1) := by
        have nd := fit.nd.sublist (List.Sublist.map (fun r : Rw => r.1) (List.take_sublist (i + 1) rs))
        rw [nx, List.map_append] at nd
        have := (List.pairwise_append.mp nd).2.2
        exact fun q => this _ q _ (List.mem_singleton.mpr rfl) rfl
      have tl : (rs.take i).length < 12 := by rw [List.length_take]; omega
      obtain ⟨j1, j2⟩ := join_one (TL := A.TooLarge) (DF := A.DuplicateFunction) hnew tl
      refine ⟨_, rfl, _, rfl, a, _, 0, .str r.1, rfl, rfl, SqL.of har, atI_nat (j := 0) rfl, _, rfl, a, _, 1, .int r.2.1, rfl, rfl, SqL.of har, atI_nat (j := 1) rfl, _, rfl, a, _, 2, .ref l, rfl, rfl, SqL.of har, atI_nat (j := 2) rfl, rfl, rfl, fun x3 dx3 hx3 hdx3 ne3 => ?_⟩
      have ex0 := made_in (C := A.Signature) hx3 hdx3
      have th : ∀ {H' : Hp} {ms : List Int}, ∀ x ∈ ms.map V.int, Th H' x := fun x hx => by
        obtain ⟨m, _, rfl⟩ := List.mem_map.mp hx
        exact .inr (.inr (.inr (.inl ⟨m, rfl⟩)))
      refine ⟨x3, dx3, .str r.1, .int r.2.1, .ref l, some (r.2.2.map V.int), rfl, upd_same, rfl, .inl ⟨_, rfl, by omega⟩, .inr (.inr (.inr (.inl ⟨_, rfl⟩))), ⟨⟨l, rfl, .inl (ex0 _ _ hal)⟩, th, by rw [List.length_map]; omega⟩, fun _ H4 t e4' h4 ht4 => ⟨rfl, ?_⟩, (fun h => by rw [sigOk_asc hz n0 n4 hasc] at h; cases h)⟩
      have e4 := made_ex hx3 hdx3 e4'
      have e24 := e2.trans e4
      refine mk H4 [x3] [r] _ (.cons ⟨dx3, t, h4, ht4⟩ .nil) (fun r' hr' => by rw [List.mem_singleton.mp hr']; exact fit.gd r (List.mem_of_getElem? hri)) (by show 1 ≤ 12; decide) ?_ (fun H5 xb ssb hxb e5 bkb => ?_)
      · rw [due_nd (rs := [r]) (show ([r.1] : List Str).Nodup from List.pairwise_singleton _ _) (fun r' hr' => by rw [List.mem_singleton.mp hr']; exact fit.nn r (List.mem_of_getElem? hri))]
        exact if_neg (by show ¬ 12 < 1; decide)
      have bk5 := (bk.mono e4).mono e5
      obtain ⟨dx5, g5, v5, b5, q1, q2, q3, q4⟩ := bk5.ex
      obtain ⟨dxb, gb, vb, bb, p1, p2, p3, p4⟩ := bkb.ex
      refine ⟨x, xb, dx5, _, dxb, _, rfl, rfl, q1, p1, x, xb, ss, rs.take i, ssb, [r], rfl, bk5, bkb, fun _ H6 x6 ss6 hx6 e6 bk6 => ⟨x6, rfl, ?_⟩, fun X z q => by rw [j1] at q; cases q⟩
      rw [j2, ← nx] at bk6
      have e26 := (e24.trans e5).trans e6
      exact ⟨⟨x6, _, rfl, fresh_back (e24.trans e5) hx6, ss6, bk6⟩, e26⟩
    · rintro σ' H2 ⟨⟨x, v2, rfl, hx, ss, bk⟩, e2⟩
      rw [List.length_map, hAl, List.take_length] at bk
      exact ⟨_, rfl, k H2 x ss hx e2 bk⟩
end
end K05

set_option Elab.async false
set_option linter.all false
set_option maxRecDepth 100000
namespace K05
open PySem PySem.Spec PyProof.Rows L2 Evl TL UL StX
section
variable {P : Program} {w : World} {K : PySem.W.Frag} {mg : Str → Option Value} {base : Heap} {A : Adr}
/-! ### what is due of two lists of rows -/
def dueText (ra rb : List Rw) : Str × Str := match confl ra rb with
  | some z => (("twice" : Str), z)
  | none => if 12 < (ra ++ added ra rb).length then (("large" : Str), ("functions" : Str)) else (("book" : Str), ("" : Str))
def spDueJ : Sp := fun vs H Q _ => ∃ p q as bs ra rb, vs = [.ref p, .ref q] ∧ RowsAt H p as ra ∧ RowsAt H q bs rb ∧ Fit ra ∧ Fit rb ∧
  ∀ t l H', H t = none → Ex H H' → H' t = some (.lst [.str (dueText ra rb).1, .str (dueText ra rb).2, .ref l]) → ((dueText ra rb).1 = "book" → ∃ cs, RowsAt H' l cs (ra ++ added ra rb)) → Q (.ref t) H'
theorem row_dp {K : PySem.W.Frag} {H : Hp} {c : Addr} {r : Rw} (h : RowAt H c r) : Dp K H (.ref c) (dP r.1 r.2.1 r.2.2) := by
  obtain ⟨l, h1, h2⟩ := h
  exact dP_dp h1 (SqL.of h2)
theorem row_eqv (r r' : Rw) : PyData.eqv (dP r.1 r.2.1 r.2.2) (dP r'.1 r'.2.1 r'.2.2) = decide (r = r') := by
  rw [dP_eqv]
  obtain ⟨z, n, ns⟩ := r
  obtain ⟨z', n', ns'⟩ := r'
  show (decide (z = z') && decide (n = n') && decide (ns = ns')) = decide ((z, n, ns) = (z', n', ns'))
  by_cases h1 : z = z' <;> by_cases h2 : n = n' <;> by_cases h3 : ns = ns' <;> simp [h1, h2, h3]
theorem ok_due (T : Tx K mg A) : FnOk P w K mg base CX0 1 A.due A.d_due p_due spDueJ := by
  refine T.F_due.ok sc_due (fun vs H Q E h => ?_) (fun cdv Ar outer s H vs Q E hr h => ?_)
  · obtain ⟨p, q, as, bs, ra, rb, rfl, _⟩ := h
    rfl
  · obtain ⟨p, q, as, bs, ra, rb, rfl, hA, hB, fa, fb, k⟩ := h
    refine ⟨_, (pss_cons (ps_set (i := 2) sc_due.nd rfl (Or.inl rfl) (pe_callTy call_list_of (by rfl) T.m_list (by decide +kernel) (pa_cons (pv 0) pa_nil)))
      (pss_cons (ps_for PassesOwn.never rfl (pi_list (pv 1)) (pg_name (i := 3) sc_due.nd rfl (Or.inr rfl)) (pss_cons (ps_setLc (i := 4) (own := [("_law_one", 5)]) (g := gName 5) rfl sc_due.nd rfl rfl (sw_true rfl rfl rfl (by decide +kernel)) (pi_list (pv 0)) (blkOk_by (N := n_due) (sc := defScope s_due) (by decide +kernel)) (fun _ _ _ _ _ => pg_name (i := 5) sc_due.nd rfl (Or.inl rfl)) (fun _ _ _ _ _ => pts_one (pt_cmpR op_eq (pe_ix (show IxR _ (rIxL K) from ix_list) (pv 5) pe_int (fun _ _ => rfl)) (pe_ix (show IxR _ (rIxL K) from ix_list) (pv 3) pe_int (fun _ _ => rfl)) (nomark _))) (fun _ _ _ _ _ => (pv 5)))
        (pss_cons (ps_if (PW.pt (pw_and (pt_cmpR op_gt (pe_callB call_len_seq (by rfl) T.m_len PySem.boot_len (pa_cons (pv 4) pa_nil)) pe_int (nomark _)) (pw_and1 (pt_cmpR (op_neD hr.units) (pe_ix ix_list (pv 4) pe_int (fun _ _ => rfl)) (pv 3) (nomark _))))) (pss_one (ps_ret (pe_lst (pa_cons pe_str (pa_cons (pe_ix ix_list (pv 3) pe_int (fun _ _ => rfl)) (pa_cons (pe_lst pa_nil) pa_nil)))))) pss_nil)
        (pss_one (ps_if (pt_cmpR op_eq (pe_callB call_len_seq (by rfl) T.m_len PySem.boot_len (pa_cons (pv 4) pa_nil)) pe_int (nomark _)) (pss_one (ps_expr (pe_bm PySem.F.plainAttrs_list PySem.F.slot_list_append PySem.F.type_list_append mt_append (pv 2) (pa_cons (pv 3) pa_nil)))) pss_nil)))))
      (pss_cons (ps_if (pt_cmpR op_gt (pe_callB call_len_seq (by rfl) T.m_len PySem.boot_len (pa_cons (pv 2) pa_nil)) pe_int (nomark _)) (pss_one (ps_ret (pe_lst (pa_cons pe_str (pa_cons pe_str (pa_cons (pe_lst pa_nil) pa_nil)))))) pss_nil)
      (pss_one (ps_ret (pe_lst (pa_cons pe_str (pa_cons pe_str (pa_cons (pv 2) pa_nil))))))))), ?_⟩
    have hAl := hA.2.len
    have hBl := hB.2.len
    have fal := fa.ln
    have fbl := fb.ln
    refine ⟨_, rfl, p, _, rfl, .inl (SqL.of hA.1), fun R hRn => ?_⟩
    have e0 := Ex.new (o := .lst (as.map V.ref)) hRn
    refine ⟨_, rfl, q, rfl, ⟨_, SqL.of (e0 _ _ hB.1)⟩, for_list (xs := bs.map V.ref) (fun i σ' H' => (∃ v3 v4 v5, σ' = [some (.ref p), some (.ref q), some (.ref R), v3, v4, v5]) ∧ Ex H H' ∧ confl ra rb = confl ra (rb.drop i) ∧ ∃ cs, RowsAt H' R (as ++ cs) (ra ++ added ra (rb.take i)) ∧ cs.length ≤ i) ⟨⟨_, _, _, rfl⟩, e0, rfl, [], ⟨by rw [List.append_nil]; exact upd_same, by rw [List.append_nil]; show All2 _ as (ra ++ []); rw [List.append_nil]; exact hA.2.imp fun _ _ h => h.mono e0⟩, Nat.le_refl _⟩ (fun i σ' H' _ h => SqL.of (h.2.1 _ _ hB.1)) ?_ ?_⟩
    · rintro i y σ' H1 hi ⟨⟨v3, v4, v5, rfl⟩, e1, hc, cs, ⟨hL, hX⟩, hcl⟩
      rw [List.getElem?_map] at hi
      cases hai : bs[i]? with
      | none => rw [hai] at hi; cases hi
      | some b =>
      rw [hai] at hi
      cases hi
      obtain ⟨r, hri, l, hb0, hl0⟩ := hB.2.at' hai
      have nbR : b ≠ R := ne_of_none hb0 hRn
      have nlR : l ≠ R := ne_of_none hl0 hRn
      have hrm := List.mem_of_getElem? hri
      have hlt : i < rb.length := (List.getElem?_eq_some_iff.mp hri).1
      have hdr : rb.drop i = r :: rb.drop (i + 1) := by rw [List.drop_eq_getElem_cons hlt, (List.getElem?_eq_some_iff.mp hri).2]
      have nx : rb.take (i + 1) = rb.take i ++ [r] := by rw [List.take_add_one, hri]; rfl
      rw [hdr] at hc
      have hc' : confl ra rb = if clash ra r = true then some r.1 else confl ra (rb.drop (i + 1)) := hc
      have hbr := e1 _ _ hb0
      -- the twins
      refine ⟨_, rfl, p, rfl, ⟨_, SqL.of (e1 _ _ hA.1)⟩, fun D hD => ?_⟩
      refine lc_it (walk_list (xs := as.map V.ref)) (fun j H' => ∃ ks : List Addr, H' = upd H1 D (.lst (ks.map V.ref)) ∧ All2 (RowAt H1) ks ((ra.take j).filter fun r' => decide (r'.1 = r.1)) ∧ ks.length ≤ j) ⟨[], rfl, .nil, Nat.le_refl _⟩ (fun j H' _ ⟨ks, h, _⟩ => by rw [h]; exact SqL.of ((Ex.new hD) _ _ (e1 _ _ hA.1))) ?_ ?_
      · rintro j y H2 H3 hj ⟨ks, rfl, hK, hkl⟩ ⟨rfl, hy⟩
        rw [List.getElem?_map] at hy
        cases haj : as[j]? with
        | none => rw [haj] at hy; cases hy
        | some c =>
        rw [haj] at hy
        cases hy
        obtain ⟨r', hrj, l', hc1, hc2⟩ := (hA.2.imp fun _ _ h => h.mono e1).at' haj
        have eD := Ex.new (o := .lst (ks.map V.ref)) hD
        have hjl : j < ra.length := (List.getElem?_eq_some_iff.mp hrj).1
        have nj : ra.take (j + 1) = ra.take j ++ [r'] := by rw [List.take_add_one, hrj]; rfl
        refine ⟨rfl, _, rfl, c, _, 0, .str r'.1, rfl, rfl, SqL.of (eD _ _ hc1), atI_nat (j := 0) rfl, _, rfl, b, _, 0, .str r.1, rfl, rfl, SqL.of (eD _ _ hbr), atI_nat (j := 0) rfl, rfl, _, rfl, ite2 (fun w => ?_) (fun w => ?_)⟩
        · have e1 : r'.1 = r.1 := V.str.inj (of_decide_eq_true w)
          refine ⟨_, rfl, _, upd_same, by rw [List.length_map]; exact sz_lt (by omega), ks ++ [c], by rw [upd_upd, List.map_append]; rfl, ?_, by rw [List.length_append]; show ks.length + 1 ≤ j + 1; omega⟩
          rw [nj, List.filter_append, List.filter_cons_of_pos (by exact decide_eq_true e1)]
          exact hK.snoc ⟨l', hc1, hc2⟩
        · have e1 : ¬ r'.1 = r.1 := fun z => w (decide_eq_true (congrArg V.str z))
          refine ⟨ks, rfl, ?_, by omega⟩
          rw [nj, List.filter_append, List.filter_cons_of_neg (by simpa using e1), List.filter_nil, List.append_nil]
          exact hK
      rintro H2 ⟨ks, rfl, hK, hkl⟩
      rw [List.length_map, hAl, List.take_length] at hK
      have eD := Ex.new (o := .lst (ks.map V.ref)) hD
      have hD2 := upd_same (H := H1) (a := D) (o := .lst (ks.map V.ref))
      generalize upd H1 D (.lst (ks.map V.ref)) = H2 at eD hD2 ⊢
      have e2 := e1.trans eD
      have hb2 := eD _ _ hbr
      have hL2 := eD _ _ hL
      have hX2 := hX.imp fun _ _ h => RowAt.mono eD h
      by_cases hin : r.1 ∈ ra.map (·.1)
      · obtain ⟨r1, hr1, hw1⟩ := List.mem_map.mp hin
        cases hfl : ra.filter (fun r' => decide (r'.1 = r.1)) with
        | nil => exact absurd (decide_eq_true hw1) (List.filter_eq_nil_iff.mp hfl r1 hr1)
        | cons r0 rest =>
        rw [hfl] at hK
        have hr0 : r0 ∈ ra.filter (fun r' => decide (r'.1 = r.1)) := by rw [hfl]; exact List.mem_cons_self
        obtain ⟨hr0m, hr0w⟩ := List.mem_filter.mp hr0
        have hr0w : r0.1 = r.1 := of_decide_eq_true hr0w
        cases hK with
        | @cons k0 _ ks' _ hrow _ =>
        refine ⟨_, rfl, D, _, rfl, .inl (SqL.of hD2), _, 0, rfl, rfl, _, rfl, ite2 (fun _ => ?_) (fun w => absurd (decide_eq_true (show (0 : Int) < (((V.ref k0 :: ks'.map V.ref).length : Nat) : Int) by rw [List.length_cons]; omega)) w)⟩
        refine ⟨_, rfl, D, _, 0, .ref k0, rfl, rfl, SqL.of hD2, atI_nat (j := 0) rfl, _, rfl, _, _, row_dp (hrow.mono eD), row_dp ⟨l, hb2, e2 _ _ hl0⟩, dP_shaped (fa.gd r0 hr0m).1, dP_shaped (fb.gd r hrm).1, _, rfl, ?_⟩
        rw [row_eqv, ← clash_one fa.nd hr0m hr0w]
        refine ite2 (fun w => ?_) (fun w => ?_)
        · rw [if_pos w] at hc'
          have hd : dueText ra rb = (("twice" : Str), r.1) := by unfold dueText; rw [hc']
          rw [hd] at k
          refine ⟨_, rfl, b, _, 0, .str r.1, rfl, rfl, SqL.of hb2, atI_nat (j := 0) rfl, sz_of (by show 0 ≤ 100000; decide), fun l2 hl2 => ⟨sz_of (by show 3 ≤ 100000; decide), fun t ht => ?_⟩⟩
          exact k t l2 _ (fresh_back (e2.trans (Ex.new hl2)) ht) ((e2.trans (Ex.new hl2)).trans (Ex.new ht)) upd_same (fun h => absurd h (show ¬ ("twice" : Str) = "book" by decide +kernel))
        · rw [if_neg w] at hc'
          refine ⟨_, rfl, D, _, rfl, .inl (SqL.of hD2), rfl, _, rfl, ite2 (fun q => absurd (V.int.inj (of_decide_eq_true q)) (by show ¬ (((V.ref k0 :: ks'.map V.ref).length : Nat) : Int) = 0; rw [List.length_cons]; omega)) (fun _ => ?_)⟩
          refine ⟨⟨_, _, _, rfl⟩, e2, hc', cs, ⟨hL2, ?_⟩, by omega⟩
          rw [nx, added_snoc, if_pos hin, List.append_nil]
          exact hX2
      · have hfl : ra.filter (fun r' => decide (r'.1 = r.1)) = [] := List.filter_eq_nil_iff.mpr fun r' hr' w => hin (List.mem_map.mpr ⟨r', hr', of_decide_eq_true w⟩)
        rw [hfl] at hK
        cases hK
        rw [clash_none hin, if_neg (by decide)] at hc'
        refine ⟨_, rfl, D, _, rfl, .inl (SqL.of hD2), _, 0, rfl, rfl, _, rfl, ite2 (fun w => absurd (of_decide_eq_true w) (by show ¬ (0 : Int) < ((0 : Nat) : Int); omega)) (fun _ => iteF ?_)⟩
        refine ⟨_, rfl, D, _, rfl, .inl (SqL.of hD2), rfl, _, rfl, ite2 (fun _ => ?_) (fun w => absurd (decide_eq_true (show V.int ((0 : Nat) : Int) = V.int 0 from rfl)) w)⟩
        have hXl := hX2.len
        rw [List.length_append] at hXl
        refine ⟨_, rfl, .inl ⟨rfl, _, SqL.of hL2⟩, _, rfl, R, _, _, rfl, rfl, hL2, by rw [List.length_map, List.length_append]; exact sz_lt (by omega), ⟨_, _, _, rfl⟩, e2.mut hRn, hc', cs ++ [b], ⟨by rw [upd_same, ← List.append_assoc, List.map_append (l₁ := as ++ cs)]; rfl, ?_⟩, by rw [List.length_append]; show cs.length + 1 ≤ i + 1; omega⟩
        rw [nx, added_snoc, if_neg hin, ← List.append_assoc, ← List.append_assoc]
        exact (rows_upd hL2 hX2).snoc ⟨l, by rw [upd_ne nbR]; exact hb2, by rw [upd_ne nlR]; exact e2 _ _ hl0⟩
    rintro σ' H1 ⟨⟨v3, v4, v5, rfl⟩, e1, hc, cs, ⟨hL, hX⟩, hcl⟩
    rw [List.length_map, hBl, List.drop_length] at hc
    rw [List.length_map, hBl, List.take_length] at hX
    have hc : confl ra rb = none := hc
    have hXl := hX.len
    refine ⟨_, rfl, R, _, rfl, .inl (SqL.of hL), _, 12, rfl, rfl, _, rfl, ?_⟩
    rw [List.length_map]
    refine ite2 (fun h => ?_) (fun h => ?_)
    · have h1 : (12 : Int) < ((as ++ cs).length : Int) := of_decide_eq_true h
      have hd : dueText ra rb = (("large" : Str), ("functions" : Str)) := by unfold dueText; rw [hc]; exact if_pos (by omega)
      rw [hd] at k
      refine ⟨sz_of (by show 0 ≤ 100000; decide), fun l2 hl2 => ⟨sz_of (by show 3 ≤ 100000; decide), fun t ht => ?_⟩⟩
      exact k t l2 _ (fresh_back (e1.trans (Ex.new hl2)) ht) ((e1.trans (Ex.new hl2)).trans (Ex.new ht)) upd_same (fun h => absurd h (show ¬ ("large" : Str) = "book" by decide +kernel))
    · have h1 : ¬ (12 : Int) < ((as ++ cs).length : Int) := fun w => h (decide_eq_true w)
      have hd : dueText ra rb = (("book" : Str), ("" : Str)) := by unfold dueText; rw [hc]; exact if_neg (by omega)
      rw [hd] at k
      refine ⟨_, rfl, sz_of (by show 3 ≤ 100000; decide), fun t ht => ?_⟩
      have et := Ex.new (o := .lst [.str "book", .str "", .ref R]) ht
      exact k t R _ (fresh_back e1 ht) (e1.trans et) upd_same (fun _ => ⟨as ++ cs, et _ _ hL, hX.imp fun _ _ h => h.mono et⟩)
/-! ### a book and its rows -/
def spIsBook (K : PySem.W.Frag) (B C : Addr) : Sp := fun vs H Q _ => ∃ a p ss as rs, vs = [.ref a, .ref p] ∧ BookAt K B C H a ss (newR :: copyR :: rs) ∧ RowsAt H p as rs ∧ ∀ H', Ex H H' → Q (.bl true) H'
theorem ok_is_book (T : Tx K mg A) : FnOk P w K mg base CX0 14 A.is_book A.d_is_book p_is_book (spIsBook K A.Book A.Signature) := by
  refine T.F_is_book.ok sc_is_book (fun vs H Q E h => ?_) (fun cdv Ar outer s H vs Q E hr h => ?_)
  · obtain ⟨a, p, ss, as, rs, rfl, _⟩ := h
    rfl
  · obtain ⟨a, p, ss, as, rs, rfl, bk, hR, k⟩ := h
    refine ⟨_, (pss_cons (ps_if (pt_not (pt_val (pe_callB call_isi (by rfl) T.m_isinstance (by decide +kernel) (pa_cons (pv 0) (pa_cons (pe_glob (v := .ref A.Book) (by rfl) T.g_Book rfl) pa_nil))))) (pss_one (ps_ret pe_bl)) pss_nil)
      (pss_cons (ps_set (i := 2) sc_is_book.nd rfl (Or.inl rfl) (pe_op op_cat (pe_lst (pa_cons (pe_lst (pa_cons pe_str (pa_cons pe_int (pa_cons (pe_lst pa_nil) pa_nil)))) (pa_cons (pe_lst (pa_cons pe_str (pa_cons pe_int (pa_cons (pe_lst pa_nil) pa_nil)))) pa_nil))) (pv 1)))
      (pss_cons (ps_set (i := 3) sc_is_book.nd rfl (Or.inl rfl) (pe_callTy (UL.call_listOwnT (n := 4) (EI := E0) (EL := E0) rfl rfl ⟨T.e_book_iter.at_, T.e_book_iter.fn, T.e_book_len.at_, T.e_book_len.fn⟩ ((ok_book_iter T).mono (by decide)) T.b_book_iter ((ok_book_len T).mono (by decide)) T.b_book_len (hr.mono (by decide))) (by rfl) T.m_list (by decide +kernel) (pa_cons (pv 0) pa_nil)))
      (pss_cons (ps_if (PW.pt (pw_or (pt_cmpR op_ne (pe_callB call_len_seq (by rfl) T.m_len PySem.boot_len (pa_cons (pv 3) pa_nil)) (pe_callB call_len_seq (by rfl) T.m_len PySem.boot_len (pa_cons (pv 2) pa_nil)) (nomark _)) (pw_or1 (pt_cmpR op_ne (pe_callB (UL.call_lenOwn (ok_book_len T) (hr.mono (by decide)) T.e_book_len.at_ T.e_book_len.fn T.b_book_len pass0) (by rfl) T.m_len PySem.boot_len (pa_cons (pv 0) pa_nil)) (pe_callB call_len_seq (by rfl) T.m_len PySem.boot_len (pa_cons (pv 2) pa_nil)) (nomark _))))) (pss_one (ps_ret pe_bl)) pss_nil)
      (pss_cons (ps_for PassesOwn.never rfl (pi_range1 (by rfl) T.m_range (pa_cons (pe_callB call_len_seq (by rfl) T.m_len PySem.boot_len (pa_cons (pv 2) pa_nil)) pa_nil)) (pg_name (i := 4) sc_is_book.nd rfl (Or.inl rfl)) (pss_cons (ps_set (i := 5) sc_is_book.nd rfl (Or.inl rfl) (pe_ix ix_list (pv 3) (pv 4) (fun _ _ => rfl)))
        (pss_cons (ps_if (PW.pt (pw_or (pt_not (pt_val (pe_callB call_isi (by rfl) T.m_isinstance (by decide +kernel) (pa_cons (pv 5) (pa_cons (pe_glob (v := .ref A.Signature) (by rfl) T.g_Signature rfl) pa_nil))))) (pw_or (pt_not (pt_val (pe_callB call_isi (by rfl) T.m_isinstance (by decide +kernel) (pa_cons (pe_fld (pv 5) rfl) (pa_cons (pe_bltn (v := .ty "tuple") (u := .type "tuple") (by rfl) T.m_tuple (by decide +kernel) rfl) pa_nil))))) (pw_or1 (pt_not (pt_val (pe_call (ok_integer T) (hr.mono (by decide)) (by rfl) T.g_integer T.F_integer.kp T.b_integer .nil pass0 (pa_cons (pe_fld (pv 5) rfl) pa_nil)))))))) (pss_one (ps_ret pe_bl)) pss_nil)
        (pss_cons (ps_if (PW.pt (pw_or (pt_cmpR (op_neD hr.units) (pe_lst (pa_cons (pe_fld (pv 5) rfl) (pa_cons (pe_fld (pv 5) rfl) (pa_cons (pe_callTy call_list_of (by rfl) T.m_list (by decide +kernel) (pa_cons (pe_fld (pv 5) rfl) pa_nil)) pa_nil)))) (pe_ix ix_list (pv 2) (pv 4) (fun _ _ => rfl)) (nomark _)) (pw_or1 (pt_cmpR (UL.op_ownNotIn (ok_book_has T) (hr.mono (by decide)) T.e_book_has.at_ T.e_book_has.fn T.b_book_has pass0) (pe_ix ix_list (pe_ix ix_list (pv 2) (pv 4) (fun _ _ => rfl)) pe_int (fun _ _ => rfl)) (pv 0) (by rfl))))) (pss_one (ps_ret pe_bl)) pss_nil)
        (pss_one (ps_if (pt_cmpR (UL.op_ownNe (ok_sig_eq T) (hr.mono (by decide)) ⟨T.ne_Sig, T.e_sig_eq.at_, T.e_sig_eq.fn, T.ob_Sig⟩ T.b_sig_eq pass0) (UL.pe_ixOwn (ok_book_get T) (hr.mono (by decide)) T.e_book_get.at_ T.fi_book_get T.e_book_get.fn T.b_book_get passL (pv 0) (pe_ix ix_list (pe_ix ix_list (pv 2) (pv 4) (fun _ _ => rfl)) pe_int (fun _ _ => rfl))) (pv 5) (nomark _)) (pss_one (ps_ret pe_bl)) pss_nil))))))
      (pss_one (ps_ret pe_bl))))))), ?_⟩
    obtain ⟨dx, g, v, b, b1, b2, b3, b4⟩ := bk.ex
    have hA := hR.2.len
    have hSl := bk.sg.len
    have hbl := bk.ln
    have thn : ∀ {n : Int} {H' : Hp}, Th H' (.int n) := .inr (.inr (.inr (.inl ⟨_, rfl⟩)))
    have hl12 : rs.length ≤ 12 := by rw [List.length_cons, List.length_cons] at hbl; omega
    refine ⟨_, rfl, .ref a, _, _, _, true, rfl, .own A.Book, tyx_ins b1 T.cl_Book T.ty_Book, T.kb_own, _, rfl, iteF ?_⟩
    refine ⟨sz_of (by show 0 ≤ 100000; decide), fun l1 hl1 => ⟨sz_of (by show 3 ≤ 100000; decide), fun r1 hr1 => ⟨sz_of (by show 0 ≤ 100000; decide), fun l2 hl2 => ⟨sz_of (by show 3 ≤ 100000; decide), fun r2 hr2 => ⟨sz_of (by show 2 ≤ 100000; decide), fun u hu => ?_⟩⟩⟩⟩⟩
    have g1 := Ex.new (o := .lst []) hl1
    have g2 := Ex.new (o := .lst [.str "new", .int 0, .ref l1]) hr1
    have g3 := Ex.new (o := .lst []) hl2
    have g4 := Ex.new (o := .lst [.str "copy", .int 1, .ref l2]) hr2
    have g5 := Ex.new (o := .lst [.ref r1, .ref r2]) hu
    have w1 := g5 _ _ (g4 _ _ (g3 _ _ (g2 _ _ (upd_same (H := H) (a := l1) (o := .lst [])))))
    have w2 := g5 _ _ (g4 _ _ (g3 _ _ (upd_same (H := upd H l1 (.lst [])) (a := r1) (o := .lst [.str "new", .int 0, .ref l1]))))
    have w3 := g5 _ _ (g4 _ _ (upd_same (H := upd (upd H l1 (.lst [])) r1 (.lst [.str "new", .int 0, .ref l1])) (a := l2) (o := .lst [])))
    have w4 := g5 _ _ (upd_same (H := upd (upd (upd H l1 (.lst [])) r1 (.lst [.str "new", .int 0, .ref l1])) l2 (.lst [])) (a := r2) (o := .lst [.str "copy", .int 1, .ref l2]))
    have gg := (((g1.trans g2).trans g3).trans g4).trans g5
    have w5 := upd_same (H := upd (upd (upd (upd H l1 (.lst [])) r1 (.lst [.str "new", .int 0, .ref l1])) l2 (.lst [])) r2 (.lst [.str "copy", .int 1, .ref l2])) (a := u) (o := .lst [.ref r1, .ref r2])
    generalize upd (upd (upd (upd (upd H l1 (.lst [])) r1 (.lst [.str "new", .int 0, .ref l1])) l2 (.lst [])) r2 (.lst [.str "copy", .int 1, .ref l2])) u (.lst [.ref r1, .ref r2]) = H4 at gg w1 w2 w3 w4 w5 ⊢
    refine ⟨_, rfl, u, p, _, _, rfl, rfl, w5, gg _ _ hR.1, sz_of (by rw [List.length_map]; show 2 + as.length ≤ 100000; omega), fun ev hev => ?_⟩
    have g6 := Ex.new (o := .lst ([.ref r1, .ref r2] ++ as.map V.ref)) hev
    have hev5 := upd_same (H := H4) (a := ev) (o := .lst ([.ref r1, .ref r2] ++ as.map V.ref))
    generalize upd H4 ev (.lst ([.ref r1, .ref r2] ++ as.map V.ref)) = H5 at g6 hev5 ⊢
    have e5 := gg.trans g6
    have hE : RowsAt H5 ev (r1 :: r2 :: as) (newR :: copyR :: rs) := ⟨hev5, .cons ⟨l1, g6 _ _ w2, g6 _ _ w1⟩ (.cons ⟨l2, g6 _ _ w4, g6 _ _ w3⟩ (hR.2.imp fun _ _ h => h.mono e5))⟩
    generalize hall : newR :: copyR :: rs = allr at bk hE hSl hbl b4
    generalize haa : r1 :: r2 :: as = aa at hE
    have hAl := hE.2.len
    have bk5 := bk.mono e5
    -- the list of the book
    refine ⟨_, rfl, a, dx, _, v, ss.map V.ref, rfl, e5 _ _ b1, e5 _ _ b3, by rw [List.length_map]; omega, fun H' e => ⟨a, dx, g, v, b, ss.map V.ref, rfl, (e5.trans e) _ _ b1, (e5.trans e) _ _ b3, fun it hit => ⟨it, rfl, hit, fr0_none ((e5.trans e).free' hit), rfl⟩⟩, fun H' e => ⟨a, ss, allr, rfl, bk5.mono e, by rw [List.length_map], rfl⟩, fun q hq => ?_⟩
    have eq := Ex.new (o := .lst (ss.map V.ref)) hq
    have hq6 := upd_same (H := H5) (a := q) (o := .lst (ss.map V.ref))
    generalize upd H5 q (.lst (ss.map V.ref)) = H6 at eq hq6 ⊢
    have e6 := e5.trans eq
    have bk6 := bk5.mono eq
    have hev6 := eq _ _ hE.1
    refine ⟨_, rfl, q, _, rfl, .inl (SqL.of hq6), _, rfl, ev, _, rfl, .inl (SqL.of hev6), rfl, _, rfl, ?_⟩
    rw [List.length_map, List.length_map, hSl, hAl, decide_eq_true rfl]
    refine iteF ?_
    refine ⟨_, rfl, a, dx, _, rfl, e6 _ _ b1, a, ss, allr, rfl, bk6, _, rfl, by omega, by omega, _, rfl, ev, _, rfl, .inl (SqL.of hev6), rfl, _, rfl, ?_⟩
    rw [List.length_map, hSl, hAl, decide_eq_true rfl]
    refine iteF ?_
    refine ⟨_, rfl, ev, _, rfl, .inl (SqL.of hev6), _, rfl, forR1 (n := ((aa.map V.ref).length : Int)) ⟨by omega, by rw [List.length_map]; omega⟩ (fun i σ' H' => (∃ v4 v5, σ' = [some (.ref a), some (.ref p), some (.ref ev), some (.ref q), v4, v5]) ∧ Ex H6 H') ⟨⟨_, _, rfl⟩, Ex.refl _⟩ ?_ ?_⟩
    · rintro i σ' H' hi ⟨⟨v4, v5, rfl⟩, e⟩
      rw [List.length_map] at hi
      have ha : i < aa.length := by omega
      have hr : i < allr.length := by omega
      have e' := eq.trans e
      have e6' := e6.trans e
      obtain ⟨c, hc, hrow⟩ := (hE.2.imp fun _ _ h => h.mono e').at (List.getElem?_eq_getElem hr)
      obtain ⟨s', hs', hsig⟩ := (bk5.sg.imp fun _ _ h => h.mono e').at (List.getElem?_eq_getElem hr)
      have hrm : allr[i] ∈ allr := List.getElem_mem hr
      have gr := bk5.gd _ hrm
      have hri : allr[i]? = some allr[i] := List.getElem?_eq_getElem hr
      generalize allr[i] = r at hrow hsig hrm gr hri
      have hz := okS_len gr.1
      have hat : atI (ss.map V.ref) (i : Int) = some (.ref s') := atI_nat (by rw [List.getElem?_map, hs']; rfl)
      have hatr : atI (aa.map V.ref) (i : Int) = some (.ref c) := atI_nat (by rw [List.getElem?_map, hc]; rfl)
      obtain ⟨dx', t', hs1, hst⟩ := id hsig
      obtain ⟨lc, hc1, hc2⟩ := id hrow
      have b1' := e6' _ _ b1
      have bk' := bk6.mono e
      have th : ∀ {H' : Hp}, Th H' (.str r.1) := .inl ⟨_, rfl, by omega⟩
      have hasr : hasB (.str r.1) allr = true := decide_eq_true (List.mem_map.mpr ⟨r, hrm, rfl⟩)
      refine ⟨_, rfl, _, rfl, q, _, (i : Int), .ref s', rfl, rfl, SqL.of (e _ _ hq6), hat, ?_⟩
      refine ⟨_, rfl, .ref s', _, _, _, true, rfl, .own A.Signature, tyx_ins hs1 T.cl_Signature T.ty_Signature, T.ks_own, _, rfl, iteF ?_⟩
      refine ⟨_, rfl, s', _, dx', _, _, rfl, hs1, T.cl_Signature, T.na_Signature_sources, f_sources _ _ _, .ref t', _, _, _, true, rfl, .ty "tuple", sqT_ty hst, kit_ty (by decide +kernel), _, rfl, iteF ?_⟩
      refine ⟨_, rfl, s', _, dx', _, _, rfl, hs1, T.cl_Signature, T.na_Signature_count, f_count _ _ _, _, rfl, thn, _, rfl, iteF ?_⟩
      refine ⟨_, rfl, s', _, dx', _, _, rfl, hs1, T.cl_Signature, T.na_Signature_name, f_name _ _ _, _, rfl, s', _, dx', _, _, rfl, hs1, T.cl_Signature, T.na_Signature_count, f_count _ _ _, _, rfl, s', _, dx', _, _, rfl, hs1, T.cl_Signature, T.na_Signature_sources, f_sources _ _ _, t', _, rfl, .inr hst, fun u hu => ⟨sz_of (by show 3 ≤ 100000; decide), fun w hw => ?_⟩⟩
      have h4 := Ex.new (o := .lst (r.2.2.map V.int)) hu
      have h5 := Ex.new (o := .lst [.str r.1, .int r.2.1, .ref u]) hw
      have h45 := h4.trans h5
      refine ⟨_, rfl, _, rfl, ev, _, (i : Int), .ref c, rfl, rfl, SqL.of (h45 _ _ (e' _ _ hE.1)), hatr, _, _, dP_dp upd_same (SqL.of (h5 _ _ upd_same)), row_dp (hrow.mono h45), dP_shaped gr.1, dP_shaped gr.1, _, rfl, ?_⟩
      rw [row_eqv r r, decide_eq_true rfl]
      refine iteF ?_
      have ins := h45 _ _ b1'
      have bk7 := bk'.mono h45
      refine ⟨_, rfl, _, rfl, ev, _, (i : Int), .ref c, rfl, rfl, SqL.of (h45 _ _ (e' _ _ hE.1)), hatr, c, _, 0, .str r.1, rfl, rfl, SqL.of (h45 _ _ hc1), atI_nat (j := 0) rfl, _, rfl, a, dx, _, rfl, ins, a, .str r.1, ss, allr, rfl, bk7, th, _, rfl, _, rfl, ?_⟩
      rw [hasr]
      refine iteF ?_
      refine ⟨_, rfl, _, rfl, _, rfl, ev, _, (i : Int), .ref c, rfl, rfl, SqL.of (h45 _ _ (e' _ _ hE.1)), hatr, c, _, 0, .str r.1, rfl, rfl, SqL.of (h45 _ _ hc1), atI_nat (j := 0) rfl, a, dx, _, rfl, ins, a, .str r.1, ss, allr, rfl, bk7, th, rfl, (fun j s0 r0 z hz' h1 h2 h3 => ?_), fun h => by rw [hasr] at h; cases h⟩
      cases hz'
      have er : r0 = r := one_name bk5.nd (List.mem_of_getElem? h2) hrm h3
      subst er
      obtain ⟨r2', hr2', dx0, t0, hs0, hst0⟩ := bk7.sg.at' h1
      rw [h2] at hr2'
      cases hr2'
      refine ⟨_, rfl, s0, s', dx0, _, dx', _, rfl, rfl, hs0, h45 _ _ hs1, s0, r0.1, r0.2.1, r0.2.2, .ref s', _, rfl, ⟨dx0, t0, hs0, hst0⟩, .inl ⟨s', r0.1, r0.2.1, r0.2.2, rfl, ⟨dx', t', h45 _ _ hs1, ex_t h45 hst⟩, rfl⟩, _, rfl, _, rfl, ?_⟩
      rw [decide_eq_true rfl, decide_eq_true rfl, decide_eq_true rfl]
      exact iteF ⟨⟨_, _, rfl⟩, e.trans h45⟩
    · rintro σ' H' ⟨⟨v4, v5, rfl⟩, e⟩
      exact k _ (e6.trans e)
end
end K05

set_option Elab.async false
set_option linter.all false
set_option maxRecDepth 100000
namespace K05
open PySem PySem.Spec PyProof.Rows L2 Evl TL UL StX
section
variable {P : Program} {w : World} {K : PySem.W.Frag} {mg : Str → Option Value} {base : Heap} {A : Adr}
theorem two_shaped {z z' : Str} (h : PyData.strOk z = true) (h' : PyData.strOk z' = true) : SeqAt.shaped (.list [.str z, .str z']) = true := by
  unfold SeqAt.shaped
  rw [Bool.and_eq_true]
  refine ⟨?_, decide_eq_true ?_⟩
  · simp only [PyData.canLay0, PyData.canLayAll0, h, h', Bool.and_true]
  · simp only [PyData.depth, PyData.depthAll]
    omega
def spLaw (K : PySem.W.Frag) : Sp := fun vs H Q _ => ∃ (a : Addr) (ns : List Int), vs = [.ref a] ∧ SqL K H a (ns.map V.int) ∧ ns.length ≤ 63 ∧ ∀ H', Q (.bl true) H'
theorem join_cases (ra rb : List Rw) (TL DF : Addr) : (dueText ra rb = (("large" : Str), ("functions" : Str)) ∧ errJoin ra rb TL DF = some (TL, ("functions" : Str))) ∨ (∃ r ∈ rb, dueText ra rb = (("twice" : Str), r.1) ∧ errJoin ra rb TL DF = some (DF, r.1)) ∨ (dueText ra rb = (("book" : Str), ("" : Str)) ∧ errJoin ra rb TL DF = none) := by
  have cf : ∀ rb : List Rw, ∀ z, confl ra rb = some z → ∃ r ∈ rb, z = r.1 := by
    intro rb
    induction rb with
    | nil => intro z h; cases h
    | cons r rb ih =>
      intro z h
      unfold confl at h
      by_cases c : clash ra r = true
      · rw [if_pos c] at h
        cases h
        exact ⟨r, List.mem_cons_self, rfl⟩
      · rw [if_neg c] at h
        obtain ⟨r', h1, h2⟩ := ih z h
        exact ⟨r', List.mem_cons_of_mem _ h1, h2⟩
  unfold dueText errJoin
  cases h : confl ra rb with
  | some z =>
    obtain ⟨r, hr, rfl⟩ := cf rb z h
    exact .inr (.inl ⟨r, hr, rfl, rfl⟩)
  | none =>
    by_cases hl : 12 < (ra ++ added ra rb).length
    · exact .inl ⟨if_pos hl, if_pos hl⟩
    · exact .inr (.inr ⟨if_neg hl, if_neg hl⟩)
def spJoint (K : PySem.W.Frag) (B C : Addr) : Sp := fun vs H Q _ => ∃ a b p q sa ra sb rb as bs, vs = [.ref a, .ref b, .ref p, .ref q] ∧ BookAt K B C H a sa (newR :: copyR :: ra) ∧ BookAt K B C H b sb (newR :: copyR :: rb) ∧ RowsAt H p as ra ∧ RowsAt H q bs rb ∧ Fit ra ∧ Fit rb ∧ ∀ H', Ex H H' → Q (.bl true) H'
theorem ok_joint (T : Tx K mg A) : FnOk P w K mg base CX0 18 A.joint A.d_joint p_joint (spJoint K A.Book A.Signature) := by
  refine T.F_joint.ok sc_joint (fun vs H Q E h => ?_) (fun cdv Ar outer s H vs Q E hr h => ?_)
  · obtain ⟨a, b, p, q, sa, ra, sb, rb, as, bs, rfl, _⟩ := h
    rfl
  · obtain ⟨a, b, p, q, sa, ra, sb, rb, as, bs, rfl, ba, bb, hA, hB, fa, fb, k⟩ := h
    refine ⟨_, (pss_cons (ps_set (i := 4) sc_joint.nd rfl (Or.inl rfl) pe_non)
      (pss_cons (ps_set (i := 5) sc_joint.nd rfl (Or.inl rfl) (pe_lst (pa_cons pe_str (pa_cons pe_str pa_nil))))
      (Evl.pss_cut (UL.ps_try_asMany (i := 6) rfl rfl sc_joint.nd rfl rfl takes0 (fun W pn xe tk _ => (pss_one (ps_set (i := 4) sc_joint.nd rfl (Or.inl rfl) (UL.pe_ownBinS (E := WE W) (ok_book_or T) (hr.mono (by decide)) T.sf_Book T.e_book_or.at_ T.e_book_or.fn T.b_book_or (fun σ => passAt tk σ) (pv 0) (pv 1))))) (.cons ⟨rfl, by decide, Or.inl T.g_DuplicateFunction⟩ (fun a oe cls d pn hz hf => (pss_one (ps_set (i := 5) sc_joint.nd rfl (Or.inl rfl) (pe_lst (pa_cons pe_str (pa_cons (pe_xf T.ex_DuplicateFunction.xf T.ex_DuplicateFunction.nw hz hf (pv 6)) pa_nil)))))) (.cons ⟨rfl, by decide, Or.inl T.g_TooLarge⟩ (fun a oe cls d pn hz hf => (pss_one (ps_set (i := 5) sc_joint.nd rfl (Or.inl rfl) (pe_lst (pa_cons pe_str (pa_cons (pe_xf T.ex_TooLarge.xf T.ex_TooLarge.nw hz hf (pv 6)) pa_nil)))))) .nil)))
      (pss_cons (ps_set (i := 7) sc_joint.nd rfl (Or.inl rfl) (pe_call (ok_due T) (hr.mono (by decide)) (by rfl) T.g_due T.F_due.kp T.b_due .nil pass0 (pa_cons (pv 2) (pa_cons (pv 3) pa_nil))))
      (pss_cons (ps_if (pt_cmpR (op_neD hr.units) (pv 5) (pe_lst (pa_cons (pe_ix ix_list (pv 7) pe_int (fun _ _ => rfl)) (pa_cons (pe_ix ix_list (pv 7) pe_int (fun _ _ => rfl)) pa_nil))) (nomark _)) (pss_one (ps_ret pe_bl)) pss_nil)
      (pss_cons (ps_if (PW.pt (pw_and (pt_cmpR op_eq (pe_ix ix_list (pv 7) pe_int (fun _ _ => rfl)) pe_str (nomark _)) (pw_and1 (pt_not (pt_val (pe_call (ok_is_book T) (hr.mono (by decide)) (by rfl) T.g_is_book T.F_is_book.kp T.b_is_book .nil pass0 (pa_cons (pv 4) (pa_cons (pe_ix ix_list (pv 7) pe_int (fun _ _ => rfl)) pa_nil)))))))) (pss_one (ps_ret pe_bl)) pss_nil)
      (pss_one (ps_ret (pe_and (pe_call (ok_is_book T) (hr.mono (by decide)) (by rfl) T.g_is_book T.F_is_book.kp T.b_is_book .nil pass0 (pa_cons (pv 0) (pa_cons (pv 2) pa_nil))) (pe_one (pe_call (ok_is_book T) (hr.mono (by decide)) (by rfl) T.g_is_book T.F_is_book.kp T.b_is_book .nil pass0 (pa_cons (pv 1) (pa_cons (pv 3) pa_nil))))))))))))), ?_⟩
    obtain ⟨dxa, ga, va, na, a1, _⟩ := ba.ex
    obtain ⟨dxb, gb, vb, nb, b1, _⟩ := bb.ex
    refine ⟨sz_of (by show 2 ≤ 100000; decide), fun t0 ht0 => ?_⟩
    have et0 := Ex.new (o := .lst [.str "book", .str ""]) ht0
    refine ⟨fun σ' H' => ∃ bv t z1 z2 e', σ' = [some (.ref a), some (.ref b), some (.ref p), some (.ref q), some bv, some (.ref t), e', none] ∧ Ex H H' ∧ H' t = some (.lst [.str z1, .str z2]) ∧ dueText ra rb = (z1, z2) ∧
      (z1 = "book" → ∃ x ss, bv = .ref x ∧ BookAt K A.Book A.Signature H' x ss (newR :: copyR :: (ra ++ added ra rb))), ?_, ?_⟩
    · refine ⟨_, rfl, _, rfl, a, b, dxa, _, dxb, _, rfl, rfl, et0 _ _ a1, et0 _ _ b1, a, b, sa, ra, sb, rb, rfl, ba.mono et0, bb.mono et0, fun due H3 x ss hx e3 bk => ⟨x, rfl, ?_⟩, fun X z due d' H3 e3 hd3 => ?_⟩
      · rcases join_cases ra rb A.TooLarge A.DuplicateFunction with ⟨_, e⟩ | ⟨_, _, _, e⟩ | ⟨e, _⟩
        · rw [due] at e; cases e
        · rw [due] at e; cases e
        · exact ⟨_, t0, "book", "", _, rfl, et0.trans e3, e3 _ _ upd_same, e, fun _ => ⟨x, ss, rfl, bk⟩⟩
      · rcases join_cases ra rb A.TooLarge A.DuplicateFunction with ⟨e0, e⟩ | ⟨r, _, e0, e⟩ | ⟨_, e⟩
        · rw [due] at e
          cases e
          refine ⟨false, T.te_td, (fun q => Bool.noConfusion q), fun _ => ⟨true, T.te_tt, fun _ y hy => ?_, fun q => Bool.noConfusion q⟩⟩
          refine ⟨_, rfl, rfl, rfl, d', _, .str "functions", rfl, hd3, rfl, sz_of (by show 2 ≤ 100000; decide), fun t1 ht1 => ?_⟩
          exact ⟨_, t1, "large", "functions", _, rfl, (et0.trans e3).trans (Ex.new ht1), upd_same, e0, fun h => absurd h (by decide +kernel)⟩
        · rw [due] at e
          cases e
          refine ⟨true, T.te_dd, fun _ y hy => ?_, fun q => Bool.noConfusion q⟩
          refine ⟨_, rfl, rfl, rfl, d', _, .str r.1, rfl, hd3, rfl, sz_of (by show 2 ≤ 100000; decide), fun t1 ht1 => ?_⟩
          exact ⟨_, t1, "twice", r.1, _, rfl, (et0.trans e3).trans (Ex.new ht1), upd_same, e0, fun h => absurd h (by decide +kernel)⟩
        · rw [due] at e; cases e
    rintro σ' H2 ⟨bv, t, z1, z2, e', rfl, e2, ht, hdue, hbk⟩
    have mA : ∀ {H'}, Ex H H' → RowsAt H' p as ra := fun e => ⟨e _ _ hA.1, hA.2.imp fun _ _ h => h.mono e⟩
    have mB : ∀ {H'}, Ex H H' → RowsAt H' q bs rb := fun e => ⟨e _ _ hB.1, hB.2.imp fun _ _ h => h.mono e⟩
    refine ⟨_, rfl, _, rfl, p, q, as, bs, ra, rb, rfl, mA e2, mB e2, fa, fb, fun u l H3 hu e3 hu3 hl3 => ?_⟩
    rw [hdue] at hu3 hl3
    have e13 := e2.trans e3
    have ht3 := e3 _ _ ht
    have sh : SeqAt.shaped (.list [.str z1, .str z2]) = true := by
      rcases join_cases ra rb A.TooLarge A.DuplicateFunction with ⟨e0, _⟩ | ⟨r, hr, e0, _⟩ | ⟨e0, _⟩
      · rw [hdue] at e0
        cases e0
        exact two_shaped (by decide +kernel) (by decide +kernel)
      · rw [hdue] at e0
        cases e0
        exact two_shaped (by decide +kernel) (okS_str (fb.gd r hr).1)
      · rw [hdue] at e0
        cases e0
        exact two_shaped (by decide +kernel) (by decide +kernel)
    have lay : PyData.canLay0 (.list [.str z1, .str z2]) = true := by
      have h := sh
      unfold SeqAt.shaped at h
      rw [Bool.and_eq_true] at h
      exact h.1
    refine ⟨_, rfl, _, rfl, u, _, 0, .str z1, rfl, rfl, SqL.of hu3, atI_nat (j := 0) rfl, _, rfl, u, _, 1, .str z2, rfl, rfl, SqL.of hu3, atI_nat (j := 1) rfl, sz_of (by show 2 ≤ 100000; decide), fun w hw => ?_⟩
    have ew := Ex.new (o := .lst [.str z1, .str z2]) hw
    refine ⟨_, _, .lst (SqL.of (ew _ _ ht3)) (.cons (.str z1) (.cons (.str z2) .nil)), .lst (SqL.of upd_same) (.cons (.str z1) (.cons (.str z2) .nil)), sh, sh, _, rfl, ?_⟩
    rw [SeqAt.eqv_refl _ lay]
    refine iteF ?_
    have hu4 := ew _ _ hu3
    have e14 := e13.trans ew
    generalize upd H3 w (.lst [.str z1, .str z2]) = H4 at ew hu4 e14 ⊢
    have last : ∀ H5, Ex H H5 → True := fun _ _ => trivial
    refine ⟨_, rfl, u, _, 0, .str z1, rfl, rfl, SqL.of hu4, atI_nat (j := 0) rfl, rfl, _, rfl, ite2 (fun h => ?_) (fun h => iteF ?_)⟩
    · have hz : z1 = "book" := V.str.inj (of_decide_eq_true h)
      obtain ⟨x, ss, rfl, bk⟩ := hbk hz
      obtain ⟨cs, hcs⟩ := hl3 hz
      refine ⟨_, rfl, _, rfl, u, _, 2, .ref l, rfl, rfl, SqL.of hu4, atI_nat (j := 2) rfl, x, l, ss, cs, _, rfl, (bk.mono e3).mono ew, ⟨ew _ _ hcs.1, hcs.2.imp fun _ _ h => h.mono ew⟩, fun H5 e5 => ⟨_, rfl, iteF ?_⟩⟩
      have e15 := e14.trans e5
      refine ⟨_, rfl, _, rfl, a, p, sa, as, ra, rfl, ba.mono e15, mA e15, fun H6 e6 => ⟨_, rfl, iteT ?_⟩⟩
      have e16 := e15.trans e6
      exact ⟨_, rfl, _, rfl, b, q, sb, bs, rb, rfl, bb.mono e16, mB e16, fun H7 e7 => k _ (e16.trans e7)⟩
    · refine ⟨_, rfl, _, rfl, a, p, sa, as, ra, rfl, ba.mono e14, mA e14, fun H6 e6 => ⟨_, rfl, iteT ?_⟩⟩
      have e16 := e14.trans e6
      exact ⟨_, rfl, _, rfl, b, q, sb, bs, rb, rfl, bb.mono e16, mB e16, fun H7 e7 => k _ (e16.trans e7)⟩
theorem ok_law (T : Tx K mg A) : FnOk P w K mg base CX0 24 A.law A.d_law p_law (spLaw K) := by
  refine T.F_law.ok sc_law (fun vs H Q E h => ?_) (fun cdv Ar outer s H vs Q E hr h => ?_)
  · obtain ⟨a, ns, rfl, _⟩ := h
    rfl
  · obtain ⟨a, ns, rfl, hS, hlen, k⟩ := h
    refine ⟨_, (pss_cons (ps_set (i := 1) sc_law.nd rfl (Or.inr rfl) (pe_call (ok_draws T) (hr.mono (by decide)) (by rfl) T.g_draws T.F_draws.kp T.b_draws .nil pass0 (pa_cons (pv 0) pa_nil)))
      (pss_cons (ps_set (i := 2) sc_law.nd rfl (Or.inr rfl) (pe_call (ok_take T) (hr.mono (by decide)) (by rfl) T.g_take T.F_take.kp T.b_take .nil pass0 (pa_cons (pv 1) (pa_cons pe_int pa_nil))))
      (pss_cons (ps_setLc (i := 3) (own := [("_law_k", 7)]) (g := gName 7) (tt := tYes) rfl sc_law.nd rfl rfl (sw_true rfl rfl rfl (by decide +kernel)) (pi_range1 (by rfl) T.m_range (pa_cons (pe_call (ok_take T) (hr.mono (by decide)) (by rfl) T.g_take T.F_take.kp T.b_take .nil pass0 (pa_cons (pv 1) (pa_cons pe_int pa_nil))) pa_nil)) (blkOk_by (N := n_law) (sc := defScope s_law) (by decide +kernel)) (fun _ _ _ _ _ => pg_name (i := 7) sc_law.nd rfl (Or.inl rfl)) (fun _ _ _ _ _ => pts_nil) (fun _ _ _ _ _ => (pe_call (ok_own T) (hr.mono (by decide)) (by rfl) T.g_own T.F_own.kp T.b_own .nil pass0 (pa_cons (pv 1) (pa_cons (pe_op op_add (pv 2) (pv 7)) pa_nil)))))
      (pss_cons (ps_set (i := 4) sc_law.nd rfl (Or.inl rfl) (pe_call (ok_others T) (hr.mono (by decide)) (by rfl) T.g_others T.F_others.kp T.b_others .nil pass0 (pa_cons (pv 1) (pa_cons (pv 3) pa_nil))))
      (pss_cons (ps_set (i := 5) sc_law.nd rfl (Or.inl rfl) (pe_call (ok_book_rows T) (hr.mono (by decide)) (by rfl) T.g_book_rows T.F_book_rows.kp T.b_book_rows .nil pass0 (pa_cons (pv 3) pa_nil)))
      (pss_cons (ps_set (i := 6) sc_law.nd rfl (Or.inl rfl) (pe_call (ok_book_rows T) (hr.mono (by decide)) (by rfl) T.g_book_rows T.F_book_rows.kp T.b_book_rows .nil pass0 (pa_cons (pv 4) pa_nil)))
      (pss_cons (ps_if (PW.pt (pw_or (pt_not (pt_val (pe_call (ok_joint T) (hr.mono (by decide)) (by rfl) T.g_joint T.F_joint.kp T.b_joint .nil pass0 (pa_cons (pv 5) (pa_cons (pv 6) (pa_cons (pv 3) (pa_cons (pv 4) pa_nil))))))) (pw_or1 (pt_not (pt_val (pe_call (ok_joint T) (hr.mono (by decide)) (by rfl) T.g_joint T.F_joint.kp T.b_joint .nil pass0 (pa_cons (pv 6) (pa_cons (pv 5) (pa_cons (pv 4) (pa_cons (pv 3) pa_nil)))))))))) (pss_one (ps_ret pe_bl)) pss_nil)
      (pss_one (ps_ret (pe_and (pe_call (ok_joint T) (hr.mono (by decide)) (by rfl) T.g_joint T.F_joint.kp T.b_joint .nil pass0 (pa_cons (pv 5) (pa_cons (pv 6) (pa_cons (pv 3) (pa_cons (pv 4) pa_nil))))) (pe_one (pe_call (ok_joint T) (hr.mono (by decide)) (by rfl) T.g_joint T.F_joint.kp T.b_joint .nil pass0 (pa_cons (pv 5) (pa_cons (pv 5) (pa_cons (pv 3) (pa_cons (pv 3) pa_nil)))))))))))))))), ?_⟩
    refine ⟨_, rfl, a, ns, rfl, hS, hlen, fun d hd0 => ?_⟩
    have hd : upd H d (DrO d) d = some (DrO d) := upd_same
    revert hd
    generalize upd H d (DrO d) = H0
    intro hd
    refine ⟨_, rfl, d, _, rfl, hd, by decide, fun g g0 g1 => ?_⟩
    refine ⟨_, rfl, d, _, rfl, hd, by decide, fun m m0 m1 => ?_⟩
    refine ⟨m, rfl, by omega, by omega, fun D hD => ?_⟩
    refine lc_range (lo := 0) (n := m.toNat) (fun i H' => Ex H0 H' ∧ ∃ as rs, RowsAt H' D as rs ∧ (∀ r ∈ rs, good r) ∧ (∀ (j : Nat) (r : Rw), rs[j]? = some r → OwnOf (g + (j : Int)) r.1) ∧ rs.length = i) ⟨Ex.new hD, [], [], ⟨upd_same, .nil⟩, fun _ h => (nomatch h), fun _ _ h => (nomatch h), rfl⟩ ?_ ?_
    · rintro i H1 hi ⟨e1, as, rs, ⟨hL, hA⟩, hg, ho, hl⟩
      refine ⟨rfl, ?_⟩
      have hd1 := e1 _ _ hd
      refine ⟨_, rfl, _, rfl, _, rfl, g, _, rfl, rfl, d, _, rfl, hd1, by omega, by omega, fun p l H3 r hp hl0 e3 h1 h2 hgr hro => ?_⟩
      have hL3 := e3 _ _ hL
      have n1 : p ≠ D := by rintro rfl; rw [hL] at hp; cases hp
      have n2 : l ≠ D := by rintro rfl; rw [hL] at hl0; cases hl0
      have hAl := hA.len
      refine ⟨_, hL3, by rw [List.length_map]; exact sz_lt (by omega), (e1.trans e3).mut hD, as ++ [p], rs ++ [r], ⟨by rw [upd_same, List.map_append]; rfl, ?_⟩, ?_, ?_, by rw [List.length_append, hl]; rfl⟩
      · exact (rows_upd hL3 (hA.imp fun _ _ h => h.mono e3)).snoc ⟨l, by rw [upd_ne n1]; exact h1, by rw [upd_ne n2]; exact h2⟩
      · intro x hx
        rcases List.mem_append.mp hx with h | h
        · exact hg x h
        · rw [List.mem_singleton.mp h]; exact hgr
      · intro j x hj
        by_cases hjl : j < rs.length
        · rw [List.getElem?_append_left hjl] at hj
          exact ho j x hj
        · rw [List.getElem?_append_right (by omega)] at hj
          have hj0 : j - rs.length = 0 := by
            by_cases q : j - rs.length = 0
            · exact q
            · obtain ⟨y, hy⟩ : ∃ y, j - rs.length = y + 1 := ⟨j - rs.length - 1, by omega⟩
              rw [hy] at hj
              cases hj
          rw [hj0] at hj
          cases hj
          have : (j : Int) = 0 + (i : Int) := by omega
          rw [this]
          exact hro
    rintro H1 ⟨e1, as, rs, hR, hg, ho, hl⟩
    have fit : Fit rs := by
      refine ⟨hg, fun r hr => ?_, ?_, by omega⟩
      · obtain ⟨j, hj⟩ := List.mem_iff_getElem?.mp hr
        have hjl : j < rs.length := (List.getElem?_eq_some_iff.mp hj).1
        exact own_nn (by omega) (by omega) (ho j r hj)
      · refine List.pairwise_iff_getElem.mpr fun i j hi hj hij e => ?_
        rw [List.length_map] at hi hj
        rw [List.getElem_map, List.getElem_map] at e
        have o1 := ho i _ (List.getElem?_eq_getElem hi)
        have o2 := ho j _ (List.getElem?_eq_getElem hj)
        rw [e] at o1
        have := own_inj (by omega) (by omega) (by omega) (by omega) o1 o2
        omega
    refine ⟨_, rfl, _, rfl, d, D, as, rs, rfl, e1 _ _ hd, hR, fit, fun q H2 bs ss hq e2 hB fitb => ?_⟩
    have hR2 : RowsAt H2 D as rs := ⟨e2 _ _ hR.1, hR.2.imp fun _ _ h => h.mono e2⟩
    refine ⟨_, rfl, D, as, rs, rfl, hR2, fit, fun H3 x sx hx e3 bx => ?_⟩
    refine ⟨_, rfl, q, bs, ss, rfl, ⟨e3 _ _ hB.1, hB.2.imp fun _ _ h => h.mono e3⟩, fitb, fun H4 y sy hy e4 by_ => ?_⟩
    have e24 := e3.trans e4
    have mA : ∀ {H'}, Ex H4 H' → RowsAt H' D as rs := fun e => ⟨(e24.trans e) _ _ hR2.1, hR2.2.imp fun _ _ h => h.mono (e24.trans e)⟩
    have mB : ∀ {H'}, Ex H4 H' → RowsAt H' q bs ss := fun e => ⟨(e24.trans e) _ _ hB.1, hB.2.imp fun _ _ h => h.mono (e24.trans e)⟩
    have mx : ∀ {H'}, Ex H4 H' → BookAt K A.Book A.Signature H' x sx (newR :: copyR :: rs) := fun e => (bx.mono e4).mono e
    have my : ∀ {H'}, Ex H4 H' → BookAt K A.Book A.Signature H' y sy (newR :: copyR :: ss) := fun e => by_.mono e
    have r0 := Ex.refl H4
    refine ⟨_, rfl, _, rfl, _, rfl, _, rfl, x, y, D, q, sx, rs, sy, ss, as, bs, rfl, mx r0, my r0, mA r0, mB r0, fit, fitb, fun H5 e5 => ⟨_, rfl, iteF ?_⟩⟩
    refine ⟨_, rfl, _, rfl, _, rfl, _, rfl, y, x, q, D, sy, ss, sx, rs, bs, as, rfl, my e5, mx e5, mB e5, mA e5, fitb, fit, fun H6 e6 => ⟨_, rfl, iteF ?_⟩⟩
    have e46 := e5.trans e6
    refine ⟨_, rfl, _, rfl, _, rfl, _, rfl, x, y, D, q, sx, rs, sy, ss, as, bs, rfl, mx e46, my e46, mA e46, mB e46, fit, fitb, fun H7 e7 => ⟨_, rfl, iteT ?_⟩⟩
    have e47 := e46.trans e7
    exact ⟨_, rfl, _, rfl, _, rfl, _, rfl, x, x, D, D, sx, rs, sx, rs, as, as, rfl, mx e47, mx e47, mA e47, mA e47, fit, fit, fun H8 e8 => k _⟩

end
theorem all_mk {l : PySem.W.OpenLaw} {w : World} {K : PySem.W.Frag} {h : Heap} {mg : Str → Option Value} {fa : Addr} (X : K.In h) (G : h.Ns mainGlobals mg) (hfa : mg "law" = some (.ref fa))
    {f0 f1 f2 f3 f4 f5 f6 f7 f8 f9 f10 f11 f12 f13 f14 f15 f16 f17 f18 f19 f20 f21 f22 f23 f24 f25 f26 : Addr}
    {od0 an0 od1 an1 od2 an2 od3 an3 od4 an4 od5 an5 od6 an6 od7 an7 od8 an8 od9 an9 od10 an10 od11 an11 od12 an12 od13 an13 od14 an14 od15 an15 od16 an16 od17 an17 od18 an18 od19 an19 od20 an20 od21 an21 od22 an22 od23 an23 od24 an24 od25 an25 od26 an26 : Option Addr}
    {sl0 sl1 sl2 sl3 sl4 sl5 sl6 sl7 sl8 sl9 sl10 sl11 sl12 sl13 sl14 sl15 sl16 sl17 sl18 sl19 sl20 sl21 sl22 sl23 sl24 sl25 sl26 : Array (Option Value)}
    {oc0 kV0 dc0 pm0 cd0 ct0 oc1 kV1 dc1 pm1 cd1 ct1 oc2 kV2 dc2 pm2 cd2 ct2 oc3 kV3 dc3 pm3 cd3 ct3 oc4 kV4 dc4 pm4 cd4 ct4 oc5 kV5 dc5 pm5 cd5 ct5 oc6 kV6 dc6 pm6 cd6 ct6 oc7 dc7 pm7 cd7 ct7 oc8 kV8 dc8 pm8 cd8 ct8 oc9 kV9 dc9 pm9 cd9 ct9 oc10 kV10 dc10 pm10 cd10 ct10 oc11 kV11 dc11 pm11 cd11 ct11 oc12 kV12 dc12 pm12 cd12 ct12 oc13 kV13 dc13 pm13 cd13 ct13 oc14 kV14 dc14 pm14 cd14 ct14 oc15 kV15 dc15 pm15 cd15 ct15 oc16 kV16 dc16 pm16 cd16 ct16 oc17 kV17 dc17 pm17 cd17 ct17 oc18 kV18 dc18 pm18 cd18 ct18 oc19 kV19 dc19 pm19 cd19 ct19 oc20 kV20 dc20 pm20 cd20 ct20 oc21 kV21 dc21 pm21 cd21 ct21 oc22 kV22 dc22 pm22 cd22 ct22 oc23 kV23 dc23 pm23 cd23 ct23 oc24 kV24 dc24 pm24 cd24 ct24 oc25 kV25 dc25 pm25 cd25 ct25 oc26 kV26 dc26 pm26 cd26 ct26 : Value}
    {xLivesError : Addr}
    {xInvalidSignature : Addr}
    {xUnknownFunction : Addr}
    {xTooLarge : Addr}
    {xDuplicateFunction : Addr}
    {xSignature : Addr}
    {xBook : Addr}
    {tDIGITS : Nat}
    {tLETTERS : Nat}
    {tMOST_CHARACTERS : Nat}
    {tMOST_GIVEN : Nat}
    {tMOST_PARAMETERS : Nat}
    {xRESERVED : Addr} {vRESERVED : List Value} {odRESERVED : Option Addr} {nnRESERVED : Nat} {slRESERVED : Array (Option Value)}
    {dT0 : Addr} {dO0 : Option Addr} {dN0 : Nat} {dS0 : Array (Option Value)} {dt0x0 : Nat}
    {kD7 : Addr}
    {kT7sources : Addr} {kO7sources : Option Addr} {kN7sources : Nat} {kS7sources : Array (Option Value)}
    {nmLivesError qLivesError : Str} {NLivesError : Addr} {bsLivesError bmLivesError : List Value} {snLivesError : List Str} {subLivesError : List Value} {abLivesError : Bool} {colLivesError : Option Bool} {ddLivesError : Option Addr} {m0LivesError m1LivesError m2LivesError m3LivesError m5LivesError : Option Value}
    {nmInvalidSignature qInvalidSignature : Str} {NInvalidSignature : Addr} {bsInvalidSignature bmInvalidSignature : List Value} {snInvalidSignature : List Str} {subInvalidSignature : List Value} {abInvalidSignature : Bool} {colInvalidSignature : Option Bool} {ddInvalidSignature : Option Addr} {m0InvalidSignature m1InvalidSignature m2InvalidSignature m3InvalidSignature m5InvalidSignature : Option Value}
    {nmUnknownFunction qUnknownFunction : Str} {NUnknownFunction : Addr} {bsUnknownFunction bmUnknownFunction : List Value} {snUnknownFunction : List Str} {subUnknownFunction : List Value} {abUnknownFunction : Bool} {colUnknownFunction : Option Bool} {ddUnknownFunction : Option Addr} {m0UnknownFunction m1UnknownFunction m2UnknownFunction m3UnknownFunction m5UnknownFunction : Option Value}
    {nmTooLarge qTooLarge : Str} {NTooLarge : Addr} {bsTooLarge bmTooLarge : List Value} {snTooLarge : List Str} {subTooLarge : List Value} {abTooLarge : Bool} {colTooLarge : Option Bool} {ddTooLarge : Option Addr} {m0TooLarge m1TooLarge m2TooLarge m3TooLarge m5TooLarge : Option Value}
    {nmDuplicateFunction qDuplicateFunction : Str} {NDuplicateFunction : Addr} {bsDuplicateFunction bmDuplicateFunction : List Value} {snDuplicateFunction : List Str} {subDuplicateFunction : List Value} {abDuplicateFunction : Bool} {colDuplicateFunction : Option Bool} {ddDuplicateFunction : Option Addr} {m0DuplicateFunction m1DuplicateFunction m2DuplicateFunction m3DuplicateFunction m5DuplicateFunction : Option Value}
    (aCLivesError : PySem.W.nsIn K mainGlobals "LivesError" = some (some (.ref xLivesError)))
    (aCInvalidSignature : PySem.W.nsIn K mainGlobals "InvalidSignature" = some (some (.ref xInvalidSignature)))
    (aCUnknownFunction : PySem.W.nsIn K mainGlobals "UnknownFunction" = some (some (.ref xUnknownFunction)))
    (aCTooLarge : PySem.W.nsIn K mainGlobals "TooLarge" = some (some (.ref xTooLarge)))
    (aCDuplicateFunction : PySem.W.nsIn K mainGlobals "DuplicateFunction" = some (some (.ref xDuplicateFunction)))
    (aCSignature : PySem.W.nsIn K mainGlobals "Signature" = some (some (.ref xSignature)))
    (aCBook : PySem.W.nsIn K mainGlobals "Book" = some (some (.ref xBook)))
    (a0 : PySem.W.nsIn K mainGlobals "copied" = some (some (.ref f0)))
    (l0 : K.lookup f0 = some ⟨oc0, od0, .func (PySem.W.fnOf "copied" "copied" (defArgs s_copied) (defBody s_copied) (defScope s_copied) (.ref dT0) kV0 dc0 pm0 an0 cd0 ct0), sl0⟩)
    (dl0 : K.lookup dT0 = some ⟨.type "tuple", dO0, .seq ([.int 4 dt0x0] : List Value).toArray dN0, dS0⟩)
    (c0 : PySem.W.codeIn K cd0 "copied" = true)
    (k0 : PySem.W.keepIn K (.ref f0) = true)
    (a1 : PySem.W.findIn K (.ref xLivesError) "__init__" = some (some (.ref f1)))
    (i1 : PySem.W.typeIn K (.ref f1) = some (.type "function"))
    (l1 : K.lookup f1 = some ⟨oc1, od1, .func (PySem.W.fnOf "__init__" "LivesError.__init__" (defArgs s_lives_init) (defBody s_lives_init) (defScope s_lives_init) .none kV1 dc1 pm1 an1 cd1 ct1), sl1⟩)
    (c1 : PySem.W.codeIn K cd1 "LivesError.__init__" = true)
    (k1 : PySem.W.keepIn K (.ref f1) = true)
    (a2 : PySem.W.nsIn K mainGlobals "is_whole" = some (some (.ref f2)))
    (l2 : K.lookup f2 = some ⟨oc2, od2, .func (PySem.W.fnOf "is_whole" "is_whole" (defArgs s_is_whole) (defBody s_is_whole) (defScope s_is_whole) .none kV2 dc2 pm2 an2 cd2 ct2), sl2⟩)
    (c2 : PySem.W.codeIn K cd2 "is_whole" = true)
    (k2 : PySem.W.keepIn K (.ref f2) = true)
    (a3 : PySem.W.nsIn K mainGlobals "is_integer_in" = some (some (.ref f3)))
    (l3 : K.lookup f3 = some ⟨oc3, od3, .func (PySem.W.fnOf "is_integer_in" "is_integer_in" (defArgs s_is_int) (defBody s_is_int) (defScope s_is_int) .none kV3 dc3 pm3 an3 cd3 ct3), sl3⟩)
    (c3 : PySem.W.codeIn K cd3 "is_integer_in" = true)
    (k3 : PySem.W.keepIn K (.ref f3) = true)
    (a4 : PySem.W.nsIn K mainGlobals "is_name" = some (some (.ref f4)))
    (l4 : K.lookup f4 = some ⟨oc4, od4, .func (PySem.W.fnOf "is_name" "is_name" (defArgs s_is_name) (defBody s_is_name) (defScope s_is_name) .none kV4 dc4 pm4 an4 cd4 ct4), sl4⟩)
    (c4 : PySem.W.codeIn K cd4 "is_name" = true)
    (k4 : PySem.W.keepIn K (.ref f4) = true)
    (a5 : PySem.W.nsIn K mainGlobals "are_sources" = some (some (.ref f5)))
    (l5 : K.lookup f5 = some ⟨oc5, od5, .func (PySem.W.fnOf "are_sources" "are_sources" (defArgs s_are_sources) (defBody s_are_sources) (defScope s_are_sources) .none kV5 dc5 pm5 an5 cd5 ct5), sl5⟩)
    (c5 : PySem.W.codeIn K cd5 "are_sources" = true)
    (k5 : PySem.W.keepIn K (.ref f5) = true)
    (a6 : PySem.W.nsIn K mainGlobals "is_signature" = some (some (.ref f6)))
    (l6 : K.lookup f6 = some ⟨oc6, od6, .func (PySem.W.fnOf "is_signature" "is_signature" (defArgs s_is_signature) (defBody s_is_signature) (defScope s_is_signature) .none kV6 dc6 pm6 an6 cd6 ct6), sl6⟩)
    (c6 : PySem.W.codeIn K cd6 "is_signature" = true)
    (k6 : PySem.W.keepIn K (.ref f6) = true)
    (a7 : PySem.W.findIn K (.ref xSignature) "__init__" = some (some (.ref f7)))
    (i7 : PySem.W.isFn K (.ref f7) = true)
    (l7 : K.lookup f7 = some ⟨oc7, od7, .func (PySem.W.fnOf "__init__" "Signature.__init__" (defArgs s_sig_init) (defBody s_sig_init) (defScope s_sig_init) .none (.ref kD7) dc7 pm7 an7 cd7 ct7), sl7⟩)
    (c7 : PySem.W.codeIn K cd7 "Signature.__init__" = true)
    (k7 : PySem.W.keepIn K (.ref f7) = true)
    (kw7sources : PySem.W.nsIn K kD7 "sources" = some (some (.ref kT7sources)))
    (kl7sources : K.lookup kT7sources = some ⟨.type "tuple", kO7sources, .seq (([] : List Value).toArray) kN7sources, kS7sources⟩)
    (a8 : PySem.W.findIn K (.ref xSignature) "__eq__" = some (some (.ref f8)))
    (i8 : PySem.W.isFn K (.ref f8) = true)
    (l8 : K.lookup f8 = some ⟨oc8, od8, .func (PySem.W.fnOf "__eq__" "Signature.__eq__" (defArgs s_sig_eq) (defBody s_sig_eq) (defScope s_sig_eq) .none kV8 dc8 pm8 an8 cd8 ct8), sl8⟩)
    (c8 : PySem.W.codeIn K cd8 "Signature.__eq__" = true)
    (k8 : PySem.W.keepIn K (.ref f8) = true)
    (a9 : PySem.W.nsIn K mainGlobals "_law_draws" = some (some (.ref f9)))
    (l9 : K.lookup f9 = some ⟨oc9, od9, .func (PySem.W.fnOf "_law_draws" "_law_draws" (defArgs s_draws) (defBody s_draws) (defScope s_draws) .none kV9 dc9 pm9 an9 cd9 ct9), sl9⟩)
    (c9 : PySem.W.codeIn K cd9 "_law_draws" = true)
    (k9 : PySem.W.keepIn K (.ref f9) = true)
    (a10 : PySem.W.nsIn K mainGlobals "_law_take" = some (some (.ref f10)))
    (l10 : K.lookup f10 = some ⟨oc10, od10, .func (PySem.W.fnOf "_law_take" "_law_take" (defArgs s_take) (defBody s_take) (defScope s_take) .none kV10 dc10 pm10 an10 cd10 ct10), sl10⟩)
    (c10 : PySem.W.codeIn K cd10 "_law_take" = true)
    (k10 : PySem.W.keepIn K (.ref f10) = true)
    (a11 : PySem.W.nsIn K mainGlobals "_law_name" = some (some (.ref f11)))
    (l11 : K.lookup f11 = some ⟨oc11, od11, .func (PySem.W.fnOf "_law_name" "_law_name" (defArgs s_name) (defBody s_name) (defScope s_name) .none kV11 dc11 pm11 an11 cd11 ct11), sl11⟩)
    (c11 : PySem.W.codeIn K cd11 "_law_name" = true)
    (k11 : PySem.W.keepIn K (.ref f11) = true)
    (a12 : PySem.W.nsIn K mainGlobals "_law_integer" = some (some (.ref f12)))
    (l12 : K.lookup f12 = some ⟨oc12, od12, .func (PySem.W.fnOf "_law_integer" "_law_integer" (defArgs s_integer) (defBody s_integer) (defScope s_integer) .none kV12 dc12 pm12 an12 cd12 ct12), sl12⟩)
    (c12 : PySem.W.codeIn K cd12 "_law_integer" = true)
    (k12 : PySem.W.keepIn K (.ref f12) = true)
    (a13 : PySem.W.nsIn K mainGlobals "_law_parts" = some (some (.ref f13)))
    (l13 : K.lookup f13 = some ⟨oc13, od13, .func (PySem.W.fnOf "_law_parts" "_law_parts" (defArgs s_parts) (defBody s_parts) (defScope s_parts) .none kV13 dc13 pm13 an13 cd13 ct13), sl13⟩)
    (c13 : PySem.W.codeIn K cd13 "_law_parts" = true)
    (k13 : PySem.W.keepIn K (.ref f13) = true)
    (a14 : PySem.W.findIn K (.ref xBook) "__init__" = some (some (.ref f14)))
    (i14 : PySem.W.isFn K (.ref f14) = true)
    (l14 : K.lookup f14 = some ⟨oc14, od14, .func (PySem.W.fnOf "__init__" "Book.__init__" (defArgs s_book_init) (defBody s_book_init) (defScope s_book_init) .none kV14 dc14 pm14 an14 cd14 ct14), sl14⟩)
    (c14 : PySem.W.codeIn K cd14 "Book.__init__" = true)
    (k14 : PySem.W.keepIn K (.ref f14) = true)
    (a15 : PySem.W.findIn K (.ref xBook) "__len__" = some (some (.ref f15)))
    (i15 : PySem.W.isFn K (.ref f15) = true)
    (l15 : K.lookup f15 = some ⟨oc15, od15, .func (PySem.W.fnOf "__len__" "Book.__len__" (defArgs s_book_len) (defBody s_book_len) (defScope s_book_len) .none kV15 dc15 pm15 an15 cd15 ct15), sl15⟩)
    (c15 : PySem.W.codeIn K cd15 "Book.__len__" = true)
    (k15 : PySem.W.keepIn K (.ref f15) = true)
    (a16 : PySem.W.findIn K (.ref xBook) "__contains__" = some (some (.ref f16)))
    (i16 : PySem.W.isFn K (.ref f16) = true)
    (l16 : K.lookup f16 = some ⟨oc16, od16, .func (PySem.W.fnOf "__contains__" "Book.__contains__" (defArgs s_book_has) (defBody s_book_has) (defScope s_book_has) .none kV16 dc16 pm16 an16 cd16 ct16), sl16⟩)
    (c16 : PySem.W.codeIn K cd16 "Book.__contains__" = true)
    (k16 : PySem.W.keepIn K (.ref f16) = true)
    (a17 : PySem.W.findIn K (.ref xBook) "__getitem__" = some (some (.ref f17)))
    (i17 : PySem.W.isFn K (.ref f17) = true)
    (l17 : K.lookup f17 = some ⟨oc17, od17, .func (PySem.W.fnOf "__getitem__" "Book.__getitem__" (defArgs s_book_get) (defBody s_book_get) (defScope s_book_get) .none kV17 dc17 pm17 an17 cd17 ct17), sl17⟩)
    (c17 : PySem.W.codeIn K cd17 "Book.__getitem__" = true)
    (k17 : PySem.W.keepIn K (.ref f17) = true)
    (a18 : PySem.W.findIn K (.ref xBook) "__iter__" = some (some (.ref f18)))
    (i18 : PySem.W.isFn K (.ref f18) = true)
    (l18 : K.lookup f18 = some ⟨oc18, od18, .func (PySem.W.fnOf "__iter__" "Book.__iter__" (defArgs s_book_iter) (defBody s_book_iter) (defScope s_book_iter) .none kV18 dc18 pm18 an18 cd18 ct18), sl18⟩)
    (c18 : PySem.W.codeIn K cd18 "Book.__iter__" = true)
    (k18 : PySem.W.keepIn K (.ref f18) = true)
    (a19 : PySem.W.findIn K (.ref xBook) "__or__" = some (some (.ref f19)))
    (i19 : PySem.W.isFn K (.ref f19) = true)
    (l19 : K.lookup f19 = some ⟨oc19, od19, .func (PySem.W.fnOf "__or__" "Book.__or__" (defArgs s_book_or) (defBody s_book_or) (defScope s_book_or) .none kV19 dc19 pm19 an19 cd19 ct19), sl19⟩)
    (c19 : PySem.W.codeIn K cd19 "Book.__or__" = true)
    (k19 : PySem.W.keepIn K (.ref f19) = true)
    (a20 : PySem.W.nsIn K mainGlobals "_law_own" = some (some (.ref f20)))
    (l20 : K.lookup f20 = some ⟨oc20, od20, .func (PySem.W.fnOf "_law_own" "_law_own" (defArgs s_own) (defBody s_own) (defScope s_own) .none kV20 dc20 pm20 an20 cd20 ct20), sl20⟩)
    (c20 : PySem.W.codeIn K cd20 "_law_own" = true)
    (k20 : PySem.W.keepIn K (.ref f20) = true)
    (a21 : PySem.W.nsIn K mainGlobals "_law_others" = some (some (.ref f21)))
    (l21 : K.lookup f21 = some ⟨oc21, od21, .func (PySem.W.fnOf "_law_others" "_law_others" (defArgs s_others) (defBody s_others) (defScope s_others) .none kV21 dc21 pm21 an21 cd21 ct21), sl21⟩)
    (c21 : PySem.W.codeIn K cd21 "_law_others" = true)
    (k21 : PySem.W.keepIn K (.ref f21) = true)
    (a22 : PySem.W.nsIn K mainGlobals "_law_book_rows" = some (some (.ref f22)))
    (l22 : K.lookup f22 = some ⟨oc22, od22, .func (PySem.W.fnOf "_law_book_rows" "_law_book_rows" (defArgs s_book_rows) (defBody s_book_rows) (defScope s_book_rows) .none kV22 dc22 pm22 an22 cd22 ct22), sl22⟩)
    (c22 : PySem.W.codeIn K cd22 "_law_book_rows" = true)
    (k22 : PySem.W.keepIn K (.ref f22) = true)
    (a23 : PySem.W.nsIn K mainGlobals "_law_due" = some (some (.ref f23)))
    (l23 : K.lookup f23 = some ⟨oc23, od23, .func (PySem.W.fnOf "_law_due" "_law_due" (defArgs s_due) (defBody s_due) (defScope s_due) .none kV23 dc23 pm23 an23 cd23 ct23), sl23⟩)
    (c23 : PySem.W.codeIn K cd23 "_law_due" = true)
    (k23 : PySem.W.keepIn K (.ref f23) = true)
    (a24 : PySem.W.nsIn K mainGlobals "_law_is_book" = some (some (.ref f24)))
    (l24 : K.lookup f24 = some ⟨oc24, od24, .func (PySem.W.fnOf "_law_is_book" "_law_is_book" (defArgs s_is_book) (defBody s_is_book) (defScope s_is_book) .none kV24 dc24 pm24 an24 cd24 ct24), sl24⟩)
    (c24 : PySem.W.codeIn K cd24 "_law_is_book" = true)
    (k24 : PySem.W.keepIn K (.ref f24) = true)
    (a25 : PySem.W.nsIn K mainGlobals "_law_joint_holds" = some (some (.ref f25)))
    (l25 : K.lookup f25 = some ⟨oc25, od25, .func (PySem.W.fnOf "_law_joint_holds" "_law_joint_holds" (defArgs s_joint) (defBody s_joint) (defScope s_joint) .none kV25 dc25 pm25 an25 cd25 ct25), sl25⟩)
    (c25 : PySem.W.codeIn K cd25 "_law_joint_holds" = true)
    (k25 : PySem.W.keepIn K (.ref f25) = true)
    (a26 : PySem.W.nsIn K mainGlobals "law" = some (some (.ref f26)))
    (l26 : K.lookup f26 = some ⟨oc26, od26, .func (PySem.W.fnOf "law" "law" (defArgs s_law) (defBody s_law) (defScope s_law) .none kV26 dc26 pm26 an26 cd26 ct26), sl26⟩)
    (c26 : PySem.W.codeIn K cd26 "law" = true)
    (k26 : PySem.W.keepIn K (.ref f26) = true)
    (zValueError : PySem.W.nsIn K mainGlobals "ValueError" = some none)
    (zabs : PySem.W.nsIn K mainGlobals "abs" = some none)
    (zall : PySem.W.nsIn K mainGlobals "all" = some none)
    (zbool : PySem.W.nsIn K mainGlobals "bool" = some none)
    (zdict : PySem.W.nsIn K mainGlobals "dict" = some none)
    (zint : PySem.W.nsIn K mainGlobals "int" = some none)
    (zisinstance : PySem.W.nsIn K mainGlobals "isinstance" = some none)
    (ziter : PySem.W.nsIn K mainGlobals "iter" = some none)
    (zlen : PySem.W.nsIn K mainGlobals "len" = some none)
    (zlist : PySem.W.nsIn K mainGlobals "list" = some none)
    (zmin : PySem.W.nsIn K mainGlobals "min" = some none)
    (zrange : PySem.W.nsIn K mainGlobals "range" = some none)
    (zstr : PySem.W.nsIn K mainGlobals "str" = some none)
    (ztuple : PySem.W.nsIn K mainGlobals "tuple" = some none)
    (xL_LivesError : K.lookup xLivesError = some (excClassObj nmLivesError qLivesError xLivesError NLivesError bsLivesError bmLivesError true snLivesError subLivesError abLivesError colLivesError ddLivesError m0LivesError m1LivesError m2LivesError m3LivesError m5LivesError "ValueError.__new__"))
    (xR_LivesError : PySem.HandSPX.refsVE bmLivesError = true)
    (sa_LivesError : PySem.W.findIn K (.ref xLivesError) "__setattr__" = some (some (.builtin "object.__setattr__")))
    (eC_LivesError : PySem.W.subIn K (.ref xLivesError) (.type "BaseException") = some true)
    (tC_LivesError : PySem.W.typeIn K (.ref xLivesError) = some (.type "type"))
    (kc_LivesError : PySem.W.keepIn K (.ref xLivesError) = true)
    (nw_LivesError : PySem.W.findIn K (.ref xLivesError) "what" = some none)
    (ii_LivesError : PySem.W.findIn K (.ref xLivesError) "__init__" = some (some (.ref f1)))
    (ga_LivesError : PySem.W.findIn K (.ref xLivesError) "__getattribute__" = some (some (.builtin "BaseException.__getattribute__")))
    (gg_LivesError : PySem.W.findIn K (.ref xLivesError) "__getattr__" = some none)
    (hd_LivesError : PySem.W.hasDictIn K xLivesError = true)
    (xL_InvalidSignature : K.lookup xInvalidSignature = some (excClassObj nmInvalidSignature qInvalidSignature xInvalidSignature NInvalidSignature bsInvalidSignature bmInvalidSignature true snInvalidSignature subInvalidSignature abInvalidSignature colInvalidSignature ddInvalidSignature m0InvalidSignature m1InvalidSignature m2InvalidSignature m3InvalidSignature m5InvalidSignature "ValueError.__new__"))
    (xR_InvalidSignature : PySem.HandSPX.refsVE bmInvalidSignature = true)
    (sa_InvalidSignature : PySem.W.findIn K (.ref xInvalidSignature) "__setattr__" = some (some (.builtin "object.__setattr__")))
    (eC_InvalidSignature : PySem.W.subIn K (.ref xInvalidSignature) (.type "BaseException") = some true)
    (tC_InvalidSignature : PySem.W.typeIn K (.ref xInvalidSignature) = some (.type "type"))
    (kc_InvalidSignature : PySem.W.keepIn K (.ref xInvalidSignature) = true)
    (nw_InvalidSignature : PySem.W.findIn K (.ref xInvalidSignature) "what" = some none)
    (ii_InvalidSignature : PySem.W.findIn K (.ref xInvalidSignature) "__init__" = some (some (.ref f1)))
    (ga_InvalidSignature : PySem.W.findIn K (.ref xInvalidSignature) "__getattribute__" = some (some (.builtin "BaseException.__getattribute__")))
    (gg_InvalidSignature : PySem.W.findIn K (.ref xInvalidSignature) "__getattr__" = some none)
    (hd_InvalidSignature : PySem.W.hasDictIn K xInvalidSignature = true)
    (xL_UnknownFunction : K.lookup xUnknownFunction = some (excClassObj nmUnknownFunction qUnknownFunction xUnknownFunction NUnknownFunction bsUnknownFunction bmUnknownFunction true snUnknownFunction subUnknownFunction abUnknownFunction colUnknownFunction ddUnknownFunction m0UnknownFunction m1UnknownFunction m2UnknownFunction m3UnknownFunction m5UnknownFunction "ValueError.__new__"))
    (xR_UnknownFunction : PySem.HandSPX.refsVE bmUnknownFunction = true)
    (sa_UnknownFunction : PySem.W.findIn K (.ref xUnknownFunction) "__setattr__" = some (some (.builtin "object.__setattr__")))
    (eC_UnknownFunction : PySem.W.subIn K (.ref xUnknownFunction) (.type "BaseException") = some true)
    (tC_UnknownFunction : PySem.W.typeIn K (.ref xUnknownFunction) = some (.type "type"))
    (kc_UnknownFunction : PySem.W.keepIn K (.ref xUnknownFunction) = true)
    (nw_UnknownFunction : PySem.W.findIn K (.ref xUnknownFunction) "what" = some none)
    (ii_UnknownFunction : PySem.W.findIn K (.ref xUnknownFunction) "__init__" = some (some (.ref f1)))
    (ga_UnknownFunction : PySem.W.findIn K (.ref xUnknownFunction) "__getattribute__" = some (some (.builtin "BaseException.__getattribute__")))
    (gg_UnknownFunction : PySem.W.findIn K (.ref xUnknownFunction) "__getattr__" = some none)
    (hd_UnknownFunction : PySem.W.hasDictIn K xUnknownFunction = true)
    (xL_TooLarge : K.lookup xTooLarge = some (excClassObj nmTooLarge qTooLarge xTooLarge NTooLarge bsTooLarge bmTooLarge true snTooLarge subTooLarge abTooLarge colTooLarge ddTooLarge m0TooLarge m1TooLarge m2TooLarge m3TooLarge m5TooLarge "ValueError.__new__"))
    (xR_TooLarge : PySem.HandSPX.refsVE bmTooLarge = true)
    (sa_TooLarge : PySem.W.findIn K (.ref xTooLarge) "__setattr__" = some (some (.builtin "object.__setattr__")))
    (eC_TooLarge : PySem.W.subIn K (.ref xTooLarge) (.type "BaseException") = some true)
    (tC_TooLarge : PySem.W.typeIn K (.ref xTooLarge) = some (.type "type"))
    (kc_TooLarge : PySem.W.keepIn K (.ref xTooLarge) = true)
    (nw_TooLarge : PySem.W.findIn K (.ref xTooLarge) "what" = some none)
    (ii_TooLarge : PySem.W.findIn K (.ref xTooLarge) "__init__" = some (some (.ref f1)))
    (ga_TooLarge : PySem.W.findIn K (.ref xTooLarge) "__getattribute__" = some (some (.builtin "BaseException.__getattribute__")))
    (gg_TooLarge : PySem.W.findIn K (.ref xTooLarge) "__getattr__" = some none)
    (hd_TooLarge : PySem.W.hasDictIn K xTooLarge = true)
    (xL_DuplicateFunction : K.lookup xDuplicateFunction = some (excClassObj nmDuplicateFunction qDuplicateFunction xDuplicateFunction NDuplicateFunction bsDuplicateFunction bmDuplicateFunction true snDuplicateFunction subDuplicateFunction abDuplicateFunction colDuplicateFunction ddDuplicateFunction m0DuplicateFunction m1DuplicateFunction m2DuplicateFunction m3DuplicateFunction m5DuplicateFunction "ValueError.__new__"))
    (xR_DuplicateFunction : PySem.HandSPX.refsVE bmDuplicateFunction = true)
    (sa_DuplicateFunction : PySem.W.findIn K (.ref xDuplicateFunction) "__setattr__" = some (some (.builtin "object.__setattr__")))
    (eC_DuplicateFunction : PySem.W.subIn K (.ref xDuplicateFunction) (.type "BaseException") = some true)
    (tC_DuplicateFunction : PySem.W.typeIn K (.ref xDuplicateFunction) = some (.type "type"))
    (kc_DuplicateFunction : PySem.W.keepIn K (.ref xDuplicateFunction) = true)
    (nw_DuplicateFunction : PySem.W.findIn K (.ref xDuplicateFunction) "what" = some none)
    (ii_DuplicateFunction : PySem.W.findIn K (.ref xDuplicateFunction) "__init__" = some (some (.ref f1)))
    (ga_DuplicateFunction : PySem.W.findIn K (.ref xDuplicateFunction) "__getattribute__" = some (some (.builtin "BaseException.__getattribute__")))
    (gg_DuplicateFunction : PySem.W.findIn K (.ref xDuplicateFunction) "__getattr__" = some none)
    (hd_DuplicateFunction : PySem.W.hasDictIn K xDuplicateFunction = true)
    (pg_Signature : PySem.W.plainGet K xSignature Str.empty = true)
    (hd_Signature : PySem.W.hasDictIn K xSignature = true)
    (po_Signature : PySem.W.plainOver K xSignature = true)
    (sa_Signature : PySem.W.findIn K (.ref xSignature) "__setattr__" = some (some (.builtin "object.__setattr__")))
    (mk_Signature : PySem.W.makesIn K xSignature = true)
    (kc_Signature : PySem.W.keepIn K (.ref xSignature) = true)
    (ha_Signature : PySem.W.findIn K (.ref xSignature) "__class__" = some (some (.builtin "object.__class__")))
    (hm_Signature : PySem.W.mroIn K xSignature (.type "object") = some true)
    (na_Signature_name : PySem.W.findIn K (.ref xSignature) "name" = some none)
    (na_Signature_count : PySem.W.findIn K (.ref xSignature) "count" = some none)
    (na_Signature_sources : PySem.W.findIn K (.ref xSignature) "sources" = some none)
    (pg_Book : PySem.W.plainGet K xBook Str.empty = true)
    (hd_Book : PySem.W.hasDictIn K xBook = true)
    (po_Book : PySem.W.plainOver K xBook = true)
    (sa_Book : PySem.W.findIn K (.ref xBook) "__setattr__" = some (some (.builtin "object.__setattr__")))
    (mk_Book : PySem.W.makesIn K xBook = true)
    (kc_Book : PySem.W.keepIn K (.ref xBook) = true)
    (ha_Book : PySem.W.findIn K (.ref xBook) "__class__" = some (some (.builtin "object.__class__")))
    (hm_Book : PySem.W.mroIn K xBook (.type "object") = some true)
    (na_Book__given : PySem.W.findIn K (.ref xBook) "_given" = some none)
    (na_Book__every : PySem.W.findIn K (.ref xBook) "_every" = some none)
    (na_Book__by_name : PySem.W.findIn K (.ref xBook) "_by_name" = some none)
    (hnO : PySem.W.specialIn K (.builtin "object.__class__") "__get__" = some (some (.builtin "getset_descriptor.__get__")))
    (htO : PySem.W.takesIn K (.builtin "object.__class__") = some true)
    (fa_si_dd : PySem.W.subIn K (.ref xDuplicateFunction) (.ref xDuplicateFunction) = some true)
    (fa_tyS : PySem.W.typeIn K (.ref xSignature) = some (.type "type"))
    (fa_sb_str : PySem.W.subIn K (.type "str") (.ref xSignature) = some false)
    (fa_sb_tup : PySem.W.subIn K (.type "tuple") (.ref xSignature) = some false)
    (fa_fi_book_get : PySem.W.fnIn K f17 = true)
    (fa_si_tt : PySem.W.subIn K (.ref xTooLarge) (.ref xTooLarge) = some true)
    (fa_si_td : PySem.W.subIn K (.ref xTooLarge) (.ref xDuplicateFunction) = some false)
    (fa_sf_Book : PySem.W.selfFirst K xBook = true)
    (fa_ne_Sig : PySem.W.findIn K (.ref xSignature) "__ne__" = some (some (.builtin "object.__ne__")))
    (fa_ob_Sig : PySem.W.subIn K (.ref xSignature) (.type "object") = some true)
    (eDIGITS : PySem.W.nsIn K mainGlobals "DIGITS" = some (some (.str "0123456789" tDIGITS)))
    (eLETTERS : PySem.W.nsIn K mainGlobals "LETTERS" = some (some (.str "abcdefghijklmnopqrstuvwxyz" tLETTERS)))
    (eMOST_CHARACTERS : PySem.W.nsIn K mainGlobals "MOST_CHARACTERS" = some (some (.int 8 tMOST_CHARACTERS)))
    (eMOST_GIVEN : PySem.W.nsIn K mainGlobals "MOST_GIVEN" = some (some (.int 12 tMOST_GIVEN)))
    (eMOST_PARAMETERS : PySem.W.nsIn K mainGlobals "MOST_PARAMETERS" = some (some (.int 4 tMOST_PARAMETERS)))
    (eRESERVED : PySem.W.nsIn K mainGlobals "RESERVED" = some (some (.ref xRESERVED)))
    (oRESERVED : K.lookup xRESERVED = some ⟨.type "tuple", odRESERVED, .seq vRESERVED.toArray nnRESERVED, slRESERVED⟩)
    (wRESERVED : Vals k_RESERVED vRESERVED)
    : ∃ fd : FuncData, (∀ (s : Shared) (v : Value), BindsTo s fd ⟨[v], []⟩ [("_law_script", v)]) ∧ ∀ base : Heap, K.In base → base.Ns mainGlobals mg → FnOk l.prog w K mg base CX0 24 fa fd ["_law_script"] (spLaw K) := by
  have e := hfa.symm.trans (PySem.W.mg_of X G a26)
  cases e
  have F1 := fun_mk (st := s_lives_init) l1 c1 k1
  have b1 := F1.binds (ps := p_lives_init) fun _ _ _ _ _ _ us hl => match us, hl with | [_, _], _ => rfl
  have F2 := fun_mk (st := s_is_whole) l2 c2 k2
  have b2 := F2.binds (ps := p_is_whole) fun _ _ _ _ _ _ us hl => match us, hl with | [_], _ => rfl
  have F3 := fun_mk (st := s_is_int) l3 c3 k3
  have b3 := F3.binds (ps := p_is_int) fun _ _ _ _ _ _ us hl => match us, hl with | [_, _, _], _ => rfl
  have F4 := fun_mk (st := s_is_name) l4 c4 k4
  have b4 := F4.binds (ps := p_is_name) fun _ _ _ _ _ _ us hl => match us, hl with | [_], _ => rfl
  have F5 := fun_mk (st := s_are_sources) l5 c5 k5
  have b5 := F5.binds (ps := p_are_sources) fun _ _ _ _ _ _ us hl => match us, hl with | [_, _], _ => rfl
  have F6 := fun_mk (st := s_is_signature) l6 c6 k6
  have b6 := F6.binds (ps := p_is_signature) fun _ _ _ _ _ _ us hl => match us, hl with | [_, _, _], _ => rfl
  have F8 := fun_mk (st := s_sig_eq) l8 c8 k8
  have b8 := F8.binds (ps := p_sig_eq) fun _ _ _ _ _ _ us hl => match us, hl with | [_, _], _ => rfl
  have F9 := fun_mk (st := s_draws) l9 c9 k9
  have b9 := F9.binds (ps := p_draws) fun _ _ _ _ _ _ us hl => match us, hl with | [_], _ => rfl
  have F10 := fun_mk (st := s_take) l10 c10 k10
  have b10 := F10.binds (ps := p_take) fun _ _ _ _ _ _ us hl => match us, hl with | [_, _], _ => rfl
  have F11 := fun_mk (st := s_name) l11 c11 k11
  have b11 := F11.binds (ps := p_name) fun _ _ _ _ _ _ us hl => match us, hl with | [_, _], _ => rfl
  have F12 := fun_mk (st := s_integer) l12 c12 k12
  have b12 := F12.binds (ps := p_integer) fun _ _ _ _ _ _ us hl => match us, hl with | [_], _ => rfl
  have F13 := fun_mk (st := s_parts) l13 c13 k13
  have b13 := F13.binds (ps := p_parts) fun _ _ _ _ _ _ us hl => match us, hl with | [_, _], _ => rfl
  have F14 := fun_mk (st := s_book_init) l14 c14 k14
  have F15 := fun_mk (st := s_book_len) l15 c15 k15
  have b15 := F15.binds (ps := p_book_len) fun _ _ _ _ _ _ us hl => match us, hl with | [_], _ => rfl
  have F16 := fun_mk (st := s_book_has) l16 c16 k16
  have b16 := F16.binds (ps := p_book_has) fun _ _ _ _ _ _ us hl => match us, hl with | [_, _], _ => rfl
  have F17 := fun_mk (st := s_book_get) l17 c17 k17
  have b17 := F17.binds (ps := p_book_get) fun _ _ _ _ _ _ us hl => match us, hl with | [_, _], _ => rfl
  have F18 := fun_mk (st := s_book_iter) l18 c18 k18
  have b18 := F18.binds (ps := p_book_iter) fun _ _ _ _ _ _ us hl => match us, hl with | [_], _ => rfl
  have F19 := fun_mk (st := s_book_or) l19 c19 k19
  have b19 := F19.binds (ps := p_book_or) fun _ _ _ _ _ _ us hl => match us, hl with | [_, _], _ => rfl
  have F20 := fun_mk (st := s_own) l20 c20 k20
  have b20 := F20.binds (ps := p_own) fun _ _ _ _ _ _ us hl => match us, hl with | [_, _], _ => rfl
  have F21 := fun_mk (st := s_others) l21 c21 k21
  have b21 := F21.binds (ps := p_others) fun _ _ _ _ _ _ us hl => match us, hl with | [_, _], _ => rfl
  have F22 := fun_mk (st := s_book_rows) l22 c22 k22
  have b22 := F22.binds (ps := p_book_rows) fun _ _ _ _ _ _ us hl => match us, hl with | [_], _ => rfl
  have F23 := fun_mk (st := s_due) l23 c23 k23
  have b23 := F23.binds (ps := p_due) fun _ _ _ _ _ _ us hl => match us, hl with | [_, _], _ => rfl
  have F24 := fun_mk (st := s_is_book) l24 c24 k24
  have b24 := F24.binds (ps := p_is_book) fun _ _ _ _ _ _ us hl => match us, hl with | [_, _], _ => rfl
  have F25 := fun_mk (st := s_joint) l25 c25 k25
  have b25 := F25.binds (ps := p_joint) fun _ _ _ _ _ _ us hl => match us, hl with | [_, _, _, _], _ => rfl
  have F26 := fun_mk (st := s_law) l26 c26 k26
  have b26 := F26.binds (ps := p_law) fun _ _ _ _ _ _ us hl => match us, hl with | [_], _ => rfl
  let A : Adr := ⟨f0, (PySem.W.fnOf "copied" "copied" (defArgs s_copied) (defBody s_copied) (defScope s_copied) (.ref dT0) kV0 dc0 pm0 an0 cd0 ct0), f1, (PySem.W.fnOf "__init__" "LivesError.__init__" (defArgs s_lives_init) (defBody s_lives_init) (defScope s_lives_init) .none kV1 dc1 pm1 an1 cd1 ct1), f2, (PySem.W.fnOf "is_whole" "is_whole" (defArgs s_is_whole) (defBody s_is_whole) (defScope s_is_whole) .none kV2 dc2 pm2 an2 cd2 ct2), f3, (PySem.W.fnOf "is_integer_in" "is_integer_in" (defArgs s_is_int) (defBody s_is_int) (defScope s_is_int) .none kV3 dc3 pm3 an3 cd3 ct3), f4, (PySem.W.fnOf "is_name" "is_name" (defArgs s_is_name) (defBody s_is_name) (defScope s_is_name) .none kV4 dc4 pm4 an4 cd4 ct4), f5, (PySem.W.fnOf "are_sources" "are_sources" (defArgs s_are_sources) (defBody s_are_sources) (defScope s_are_sources) .none kV5 dc5 pm5 an5 cd5 ct5), f6, (PySem.W.fnOf "is_signature" "is_signature" (defArgs s_is_signature) (defBody s_is_signature) (defScope s_is_signature) .none kV6 dc6 pm6 an6 cd6 ct6), f7, (PySem.W.fnOf "__init__" "Signature.__init__" (defArgs s_sig_init) (defBody s_sig_init) (defScope s_sig_init) .none (.ref kD7) dc7 pm7 an7 cd7 ct7), f8, (PySem.W.fnOf "__eq__" "Signature.__eq__" (defArgs s_sig_eq) (defBody s_sig_eq) (defScope s_sig_eq) .none kV8 dc8 pm8 an8 cd8 ct8), f9, (PySem.W.fnOf "_law_draws" "_law_draws" (defArgs s_draws) (defBody s_draws) (defScope s_draws) .none kV9 dc9 pm9 an9 cd9 ct9), f10, (PySem.W.fnOf "_law_take" "_law_take" (defArgs s_take) (defBody s_take) (defScope s_take) .none kV10 dc10 pm10 an10 cd10 ct10), f11, (PySem.W.fnOf "_law_name" "_law_name" (defArgs s_name) (defBody s_name) (defScope s_name) .none kV11 dc11 pm11 an11 cd11 ct11), f12, (PySem.W.fnOf "_law_integer" "_law_integer" (defArgs s_integer) (defBody s_integer) (defScope s_integer) .none kV12 dc12 pm12 an12 cd12 ct12), f13, (PySem.W.fnOf "_law_parts" "_law_parts" (defArgs s_parts) (defBody s_parts) (defScope s_parts) .none kV13 dc13 pm13 an13 cd13 ct13), f14, (PySem.W.fnOf "__init__" "Book.__init__" (defArgs s_book_init) (defBody s_book_init) (defScope s_book_init) .none kV14 dc14 pm14 an14 cd14 ct14), f15, (PySem.W.fnOf "__len__" "Book.__len__" (defArgs s_book_len) (defBody s_book_len) (defScope s_book_len) .none kV15 dc15 pm15 an15 cd15 ct15), f16, (PySem.W.fnOf "__contains__" "Book.__contains__" (defArgs s_book_has) (defBody s_book_has) (defScope s_book_has) .none kV16 dc16 pm16 an16 cd16 ct16), f17, (PySem.W.fnOf "__getitem__" "Book.__getitem__" (defArgs s_book_get) (defBody s_book_get) (defScope s_book_get) .none kV17 dc17 pm17 an17 cd17 ct17), f18, (PySem.W.fnOf "__iter__" "Book.__iter__" (defArgs s_book_iter) (defBody s_book_iter) (defScope s_book_iter) .none kV18 dc18 pm18 an18 cd18 ct18), f19, (PySem.W.fnOf "__or__" "Book.__or__" (defArgs s_book_or) (defBody s_book_or) (defScope s_book_or) .none kV19 dc19 pm19 an19 cd19 ct19), f20, (PySem.W.fnOf "_law_own" "_law_own" (defArgs s_own) (defBody s_own) (defScope s_own) .none kV20 dc20 pm20 an20 cd20 ct20), f21, (PySem.W.fnOf "_law_others" "_law_others" (defArgs s_others) (defBody s_others) (defScope s_others) .none kV21 dc21 pm21 an21 cd21 ct21), f22, (PySem.W.fnOf "_law_book_rows" "_law_book_rows" (defArgs s_book_rows) (defBody s_book_rows) (defScope s_book_rows) .none kV22 dc22 pm22 an22 cd22 ct22), f23, (PySem.W.fnOf "_law_due" "_law_due" (defArgs s_due) (defBody s_due) (defScope s_due) .none kV23 dc23 pm23 an23 cd23 ct23), f24, (PySem.W.fnOf "_law_is_book" "_law_is_book" (defArgs s_is_book) (defBody s_is_book) (defScope s_is_book) .none kV24 dc24 pm24 an24 cd24 ct24), f25, (PySem.W.fnOf "_law_joint_holds" "_law_joint_holds" (defArgs s_joint) (defBody s_joint) (defScope s_joint) .none kV25 dc25 pm25 an25 cd25 ct25), fa, (PySem.W.fnOf "law" "law" (defArgs s_law) (defBody s_law) (defScope s_law) .none kV26 dc26 pm26 an26 cd26 ct26), kT7sources, xLivesError, xInvalidSignature, xUnknownFunction, xTooLarge, xDuplicateFunction, xSignature, xBook, tDIGITS, tLETTERS, tMOST_CHARACTERS, tMOST_GIVEN, tMOST_PARAMETERS, xRESERVED⟩
  have T : Tx K mg A := {
    F_copied := ⟨⟨_, _, _, _, _, _, _, _, _, _, rfl, l0, c0, .inr ⟨(fun z => nomatch z), _, _, _, _, rfl, dl0, rfl, (.cons ⟨_, rfl⟩ .nil)⟩, .inl rfl⟩, k0⟩,
    g_copied := PySem.W.mg_of X G a0,
    F_lives_init := F1,
    b_lives_init := b1,
    ti_lives_init := i1,
    F_is_whole := F2,
    b_is_whole := b2,
    g_is_whole := PySem.W.mg_of X G a2,
    F_is_int := F3,
    b_is_int := b3,
    g_is_int := PySem.W.mg_of X G a3,
    F_is_name := F4,
    b_is_name := b4,
    g_is_name := PySem.W.mg_of X G a4,
    F_are_sources := F5,
    b_are_sources := b5,
    g_are_sources := PySem.W.mg_of X G a5,
    F_is_signature := F6,
    b_is_signature := b6,
    g_is_signature := PySem.W.mg_of X G a6,
    F_sig_init := ⟨⟨_, _, _, _, _, _, _, _, _, _, rfl, l7, c7, .inl ⟨rfl, rfl⟩, .inr ⟨_, rfl, fun q hq => by
      simp only [List.mem_cons, List.not_mem_nil, or_false] at hq
      rcases hq with rfl
      · exact ⟨_, kw7sources, rfl⟩⟩⟩, k7⟩,
    q_sig_init_sources := fun H => .inr ⟨_, _, _, kl7sources, rfl, rfl, by decide, .nil⟩,
    o_sig_init_sources := ⟨_, kl7sources, rfl⟩,
    e_sig_init := ⟨a7, i7, k7⟩,
    F_sig_eq := F8,
    b_sig_eq := b8,
    e_sig_eq := ⟨a8, i8, k8⟩,
    F_draws := F9,
    b_draws := b9,
    g_draws := PySem.W.mg_of X G a9,
    F_take := F10,
    b_take := b10,
    g_take := PySem.W.mg_of X G a10,
    F_name := F11,
    b_name := b11,
    g_name := PySem.W.mg_of X G a11,
    F_integer := F12,
    b_integer := b12,
    g_integer := PySem.W.mg_of X G a12,
    F_parts := F13,
    b_parts := b13,
    g_parts := PySem.W.mg_of X G a13,
    F_book_init := F14,
    e_book_init := ⟨a14, i14, k14⟩,
    F_book_len := F15,
    b_book_len := b15,
    e_book_len := ⟨a15, i15, k15⟩,
    F_book_has := F16,
    b_book_has := b16,
    e_book_has := ⟨a16, i16, k16⟩,
    F_book_get := F17,
    b_book_get := b17,
    e_book_get := ⟨a17, i17, k17⟩,
    F_book_iter := F18,
    b_book_iter := b18,
    e_book_iter := ⟨a18, i18, k18⟩,
    F_book_or := F19,
    b_book_or := b19,
    e_book_or := ⟨a19, i19, k19⟩,
    F_own := F20,
    b_own := b20,
    g_own := PySem.W.mg_of X G a20,
    F_others := F21,
    b_others := b21,
    g_others := PySem.W.mg_of X G a21,
    F_book_rows := F22,
    b_book_rows := b22,
    g_book_rows := PySem.W.mg_of X G a22,
    F_due := F23,
    b_due := b23,
    g_due := PySem.W.mg_of X G a23,
    F_is_book := F24,
    b_is_book := b24,
    g_is_book := PySem.W.mg_of X G a24,
    F_joint := F25,
    b_joint := b25,
    g_joint := PySem.W.mg_of X G a25,
    F_law := F26,
    b_law := b26,
    g_law := PySem.W.mg_of X G a26,
    m_ValueError := PySem.W.mg_none_of X G zValueError,
    m_abs := PySem.W.mg_none_of X G zabs,
    m_all := PySem.W.mg_none_of X G zall,
    m_bool := PySem.W.mg_none_of X G zbool,
    m_dict := PySem.W.mg_none_of X G zdict,
    m_int := PySem.W.mg_none_of X G zint,
    m_isinstance := PySem.W.mg_none_of X G zisinstance,
    m_iter := PySem.W.mg_none_of X G ziter,
    m_len := PySem.W.mg_none_of X G zlen,
    m_list := PySem.W.mg_none_of X G zlist,
    m_min := PySem.W.mg_none_of X G zmin,
    m_range := PySem.W.mg_none_of X G zrange,
    m_str := PySem.W.mg_none_of X G zstr,
    m_tuple := PySem.W.mg_none_of X G ztuple,
    g_LivesError := PySem.W.mg_of X G aCLivesError,
    ex_LivesError := ⟨⟨⟨_, _, _, _, _, _, _, _, _, _, _, _, _, _, _, xL_LivesError, xR_LivesError⟩, sa_LivesError, eC_LivesError, tC_LivesError, kc_LivesError⟩, ii_LivesError, nw_LivesError, ⟨ga_LivesError, gg_LivesError, eC_LivesError, hd_LivesError⟩⟩,
    g_InvalidSignature := PySem.W.mg_of X G aCInvalidSignature,
    ex_InvalidSignature := ⟨⟨⟨_, _, _, _, _, _, _, _, _, _, _, _, _, _, _, xL_InvalidSignature, xR_InvalidSignature⟩, sa_InvalidSignature, eC_InvalidSignature, tC_InvalidSignature, kc_InvalidSignature⟩, ii_InvalidSignature, nw_InvalidSignature, ⟨ga_InvalidSignature, gg_InvalidSignature, eC_InvalidSignature, hd_InvalidSignature⟩⟩,
    g_UnknownFunction := PySem.W.mg_of X G aCUnknownFunction,
    ex_UnknownFunction := ⟨⟨⟨_, _, _, _, _, _, _, _, _, _, _, _, _, _, _, xL_UnknownFunction, xR_UnknownFunction⟩, sa_UnknownFunction, eC_UnknownFunction, tC_UnknownFunction, kc_UnknownFunction⟩, ii_UnknownFunction, nw_UnknownFunction, ⟨ga_UnknownFunction, gg_UnknownFunction, eC_UnknownFunction, hd_UnknownFunction⟩⟩,
    g_TooLarge := PySem.W.mg_of X G aCTooLarge,
    ex_TooLarge := ⟨⟨⟨_, _, _, _, _, _, _, _, _, _, _, _, _, _, _, xL_TooLarge, xR_TooLarge⟩, sa_TooLarge, eC_TooLarge, tC_TooLarge, kc_TooLarge⟩, ii_TooLarge, nw_TooLarge, ⟨ga_TooLarge, gg_TooLarge, eC_TooLarge, hd_TooLarge⟩⟩,
    g_DuplicateFunction := PySem.W.mg_of X G aCDuplicateFunction,
    ex_DuplicateFunction := ⟨⟨⟨_, _, _, _, _, _, _, _, _, _, _, _, _, _, _, xL_DuplicateFunction, xR_DuplicateFunction⟩, sa_DuplicateFunction, eC_DuplicateFunction, tC_DuplicateFunction, kc_DuplicateFunction⟩, ii_DuplicateFunction, nw_DuplicateFunction, ⟨ga_DuplicateFunction, gg_DuplicateFunction, eC_DuplicateFunction, hd_DuplicateFunction⟩⟩,
    g_Signature := PySem.W.mg_of X G aCSignature,
    cl_Signature := ⟨pg_Signature, hd_Signature, po_Signature, sa_Signature⟩,
    ty_Signature := ⟨ha_Signature, hnO, htO, hm_Signature⟩,
    mk_Signature := ⟨mk_Signature, a7, i7, kc_Signature⟩,
    na_Signature_name := na_Signature_name,
    na_Signature_count := na_Signature_count,
    na_Signature_sources := na_Signature_sources,
    g_Book := PySem.W.mg_of X G aCBook,
    cl_Book := ⟨pg_Book, hd_Book, po_Book, sa_Book⟩,
    ty_Book := ⟨ha_Book, hnO, htO, hm_Book⟩,
    mk_Book := ⟨mk_Book, a14, i14, kc_Book⟩,
    na_Book__given := na_Book__given,
    na_Book__every := na_Book__every,
    na_Book__by_name := na_Book__by_name,
    ks_str := UL.kit_type_ref hd_Signature fa_tyS fa_sb_str,
    ks_tup := UL.kit_type_ref hd_Signature fa_tyS fa_sb_tup,
    ks_own := UL.kit_own,
    kb_own := UL.kit_own,
    te_tt := UL.exm_cls eC_TooLarge hd_TooLarge tC_TooLarge fa_si_tt,
    te_dd := UL.exm_cls eC_DuplicateFunction hd_DuplicateFunction tC_DuplicateFunction fa_si_dd,
    te_td := UL.exm_cls eC_DuplicateFunction hd_DuplicateFunction tC_DuplicateFunction fa_si_td,
    si_dd := fa_si_dd,
    tyS := fa_tyS,
    sb_str := fa_sb_str,
    sb_tup := fa_sb_tup,
    fi_book_get := fa_fi_book_get,
    si_tt := fa_si_tt,
    si_td := fa_si_td,
    sf_Book := fa_sf_Book,
    ne_Sig := fa_ne_Sig,
    ob_Sig := fa_ob_Sig,
    c_DIGITS := PySem.W.mg_of X G eDIGITS,
    c_LETTERS := PySem.W.mg_of X G eLETTERS,
    c_MOST_CHARACTERS := PySem.W.mg_of X G eMOST_CHARACTERS,
    c_MOST_GIVEN := PySem.W.mg_of X G eMOST_GIVEN,
    c_MOST_PARAMETERS := PySem.W.mg_of X G eMOST_PARAMETERS,
    c_RESERVED := PySem.W.mg_of X G eRESERVED,
    q_RESERVED := fun H => .inr ⟨_, _, _, oRESERVED, rfl, rfl, (by rw [List.size_toArray, ← Paired.length wRESERVED]; decide), wRESERVED⟩,
    o_RESERVED := ⟨_, oRESERVED, rfl⟩ }
  exact ⟨_, fun s v => .of_eq rfl, fun base _ _ => ok_law T⟩
end K05
open PySem PySem.W PyProof.Rows
set_option maxHeartbeats 0 in
theorem PySem.Challenge.cw_unnamedlives_k05_books_joined_holds : PySem.Challenge.rw_unnamedlives_k05_books_joined.Holds := by
  w_on; o_law; k_head; (case hw => w_witness2)
  k_fill
  refine L2.walk_of (l := PySem.Challenge.rw_unnamedlives_k05_books_joined) (n := 63) (k := 24) (x := "_law_script") (CX := fun _ => L2.CX0) (sp := fun w => K05.spLaw _) rfl (by decide) rfl ⟨rfl, by decide, by decide⟩ (fun w h Y => PySem.W.kIn_of Y) ?F (fun _ _ a ns hl _ hS => ⟨a, ns, rfl, hS, hl, fun _ => rfl⟩) (fun _ _ _ _ _ h => h)
  case F =>
    intro w mg fa h KX G hmg
    refine' K05.all_mk KX G hmg ?aCLivesError ?aCInvalidSignature ?aCUnknownFunction ?aCTooLarge ?aCDuplicateFunction ?aCSignature ?aCBook ?a0 ?l0 ?dl0 ?c0 ?k0 ?a1 ?i1 ?l1 ?c1 ?k1 ?a2 ?l2 ?c2 ?k2 ?a3 ?l3 ?c3 ?k3 ?a4 ?l4 ?c4 ?k4 ?a5 ?l5 ?c5 ?k5 ?a6 ?l6 ?c6 ?k6 ?a7 ?i7 ?l7 ?c7 ?k7 ?kw7sources ?kl7sources ?a8 ?i8 ?l8 ?c8 ?k8 ?a9 ?l9 ?c9 ?k9 ?a10 ?l10 ?c10 ?k10 ?a11 ?l11 ?c11 ?k11 ?a12 ?l12 ?c12 ?k12 ?a13 ?l13 ?c13 ?k13 ?a14 ?i14 ?l14 ?c14 ?k14 ?a15 ?i15 ?l15 ?c15 ?k15 ?a16 ?i16 ?l16 ?c16 ?k16 ?a17 ?i17 ?l17 ?c17 ?k17 ?a18 ?i18 ?l18 ?c18 ?k18 ?a19 ?i19 ?l19 ?c19 ?k19 ?a20 ?l20 ?c20 ?k20 ?a21 ?l21 ?c21 ?k21 ?a22 ?l22 ?c22 ?k22 ?a23 ?l23 ?c23 ?k23 ?a24 ?l24 ?c24 ?k24 ?a25 ?l25 ?c25 ?k25 ?a26 ?l26 ?c26 ?k26 ?zValueError ?zabs ?zall ?zbool ?zdict ?zint ?zisinstance ?ziter ?zlen ?zlist ?zmin ?zrange ?zstr ?ztuple ?xL_LivesError ?xR_LivesError ?sa_LivesError ?eC_LivesError ?tC_LivesError ?kc_LivesError ?nw_LivesError ?ii_LivesError ?ga_LivesError ?gg_LivesError ?hd_LivesError ?xL_InvalidSignature ?xR_InvalidSignature ?sa_InvalidSignature ?eC_InvalidSignature ?tC_InvalidSignature ?kc_InvalidSignature ?nw_InvalidSignature ?ii_InvalidSignature ?ga_InvalidSignature ?gg_InvalidSignature ?hd_InvalidSignature ?xL_UnknownFunction ?xR_UnknownFunction ?sa_UnknownFunction ?eC_UnknownFunction ?tC_UnknownFunction ?kc_UnknownFunction ?nw_UnknownFunction ?ii_UnknownFunction ?ga_UnknownFunction ?gg_UnknownFunction ?hd_UnknownFunction ?xL_TooLarge ?xR_TooLarge ?sa_TooLarge ?eC_TooLarge ?tC_TooLarge ?kc_TooLarge ?nw_TooLarge ?ii_TooLarge ?ga_TooLarge ?gg_TooLarge ?hd_TooLarge ?xL_DuplicateFunction ?xR_DuplicateFunction ?sa_DuplicateFunction ?eC_DuplicateFunction ?tC_DuplicateFunction ?kc_DuplicateFunction ?nw_DuplicateFunction ?ii_DuplicateFunction ?ga_DuplicateFunction ?gg_DuplicateFunction ?hd_DuplicateFunction ?pg_Signature ?hd_Signature ?po_Signature ?sa_Signature ?mk_Signature ?kc_Signature ?ha_Signature ?hm_Signature ?na_Signature_name ?na_Signature_count ?na_Signature_sources ?pg_Book ?hd_Book ?po_Book ?sa_Book ?mk_Book ?kc_Book ?ha_Book ?hm_Book ?na_Book__given ?na_Book__every ?na_Book__by_name ?hnO ?htO ?fa_si_dd ?fa_tyS ?fa_sb_str ?fa_sb_tup ?fa_fi_book_get ?fa_si_tt ?fa_si_td ?fa_sf_Book ?fa_ne_Sig ?fa_ob_Sig ?eDIGITS ?eLETTERS ?eMOST_CHARACTERS ?eMOST_GIVEN ?eMOST_PARAMETERS ?eRESERVED ?oRESERVED ?wRESERVED
    (case aCLivesError => k_is)
    (case aCInvalidSignature => k_is)
    (case aCUnknownFunction => k_is)
    (case aCTooLarge => k_is)
    (case aCDuplicateFunction => k_is)
    (case aCSignature => k_is)
    (case aCBook => k_is)
    (case a0 => k_is)
    (case l0 => k_is)
    (case dl0 => k_is)
    (case c0 => k_is)
    (case k0 => k_is)
    (case a1 => k_is)
    (case i1 => k_is)
    (case l1 => k_is)
    (case c1 => k_is)
    (case k1 => k_is)
    (case a2 => k_is)
    (case l2 => k_is)
    (case c2 => k_is)
    (case k2 => k_is)
    (case a3 => k_is)
    (case l3 => k_is)
    (case c3 => k_is)
    (case k3 => k_is)
    (case a4 => k_is)
    (case l4 => k_is)
    (case c4 => k_is)
    (case k4 => k_is)
    (case a5 => k_is)
    (case l5 => k_is)
    (case c5 => k_is)
    (case k5 => k_is)
    (case a6 => k_is)
    (case l6 => k_is)
    (case c6 => k_is)
    (case k6 => k_is)
    (case a7 => k_is)
    (case i7 => k_is)
    (case l7 => k_is)
    (case c7 => k_is)
    (case k7 => k_is)
    (case kw7sources => k_is)
    (case kl7sources => k_is)
    (case a8 => k_is)
    (case i8 => k_is)
    (case l8 => k_is)
    (case c8 => k_is)
    (case k8 => k_is)
    (case a9 => k_is)
    (case l9 => k_is)
    (case c9 => k_is)
    (case k9 => k_is)
    (case a10 => k_is)
    (case l10 => k_is)
    (case c10 => k_is)
    (case k10 => k_is)
    (case a11 => k_is)
    (case l11 => k_is)
    (case c11 => k_is)
    (case k11 => k_is)
    (case a12 => k_is)
    (case l12 => k_is)
    (case c12 => k_is)
    (case k12 => k_is)
    (case a13 => k_is)
    (case l13 => k_is)
    (case c13 => k_is)
    (case k13 => k_is)
    (case a14 => k_is)
    (case i14 => k_is)
    (case l14 => k_is)
    (case c14 => k_is)
    (case k14 => k_is)
    (case a15 => k_is)
    (case i15 => k_is)
    (case l15 => k_is)
    (case c15 => k_is)
    (case k15 => k_is)
    (case a16 => k_is)
    (case i16 => k_is)
    (case l16 => k_is)
    (case c16 => k_is)
    (case k16 => k_is)
    (case a17 => k_is)
    (case i17 => k_is)
    (case l17 => k_is)
    (case c17 => k_is)
    (case k17 => k_is)
    (case a18 => k_is)
    (case i18 => k_is)
    (case l18 => k_is)
    (case c18 => k_is)
    (case k18 => k_is)
    (case a19 => k_is)
    (case i19 => k_is)
    (case l19 => k_is)
    (case c19 => k_is)
    (case k19 => k_is)
    (case a20 => k_is)
    (case l20 => k_is)
    (case c20 => k_is)
    (case k20 => k_is)
    (case a21 => k_is)
    (case l21 => k_is)
    (case c21 => k_is)
    (case k21 => k_is)
    (case a22 => k_is)
    (case l22 => k_is)
    (case c22 => k_is)
    (case k22 => k_is)
    (case a23 => k_is)
    (case l23 => k_is)
    (case c23 => k_is)
    (case k23 => k_is)
    (case a24 => k_is)
    (case l24 => k_is)
    (case c24 => k_is)
    (case k24 => k_is)
    (case a25 => k_is)
    (case l25 => k_is)
    (case c25 => k_is)
    (case k25 => k_is)
    (case a26 => k_is)
    (case l26 => k_is)
    (case c26 => k_is)
    (case k26 => k_is)
    (case zValueError => k_is)
    (case zabs => k_is)
    (case zall => k_is)
    (case zbool => k_is)
    (case zdict => k_is)
    (case zint => k_is)
    (case zisinstance => k_is)
    (case ziter => k_is)
    (case zlen => k_is)
    (case zlist => k_is)
    (case zmin => k_is)
    (case zrange => k_is)
    (case zstr => k_is)
    (case ztuple => k_is)
    (case xL_LivesError => k_is)
    (case xR_LivesError => decide +kernel)
    (case sa_LivesError => k_is)
    (case eC_LivesError => k_is)
    (case tC_LivesError => k_is)
    (case kc_LivesError => k_is)
    (case nw_LivesError => k_is)
    (case ii_LivesError => k_is)
    (case ga_LivesError => k_is)
    (case gg_LivesError => k_is)
    (case hd_LivesError => k_is)
    (case xL_InvalidSignature => k_is)
    (case xR_InvalidSignature => decide +kernel)
    (case sa_InvalidSignature => k_is)
    (case eC_InvalidSignature => k_is)
    (case tC_InvalidSignature => k_is)
    (case kc_InvalidSignature => k_is)
    (case nw_InvalidSignature => k_is)
    (case ii_InvalidSignature => k_is)
    (case ga_InvalidSignature => k_is)
    (case gg_InvalidSignature => k_is)
    (case hd_InvalidSignature => k_is)
    (case xL_UnknownFunction => k_is)
    (case xR_UnknownFunction => decide +kernel)
    (case sa_UnknownFunction => k_is)
    (case eC_UnknownFunction => k_is)
    (case tC_UnknownFunction => k_is)
    (case kc_UnknownFunction => k_is)
    (case nw_UnknownFunction => k_is)
    (case ii_UnknownFunction => k_is)
    (case ga_UnknownFunction => k_is)
    (case gg_UnknownFunction => k_is)
    (case hd_UnknownFunction => k_is)
    (case xL_TooLarge => k_is)
    (case xR_TooLarge => decide +kernel)
    (case sa_TooLarge => k_is)
    (case eC_TooLarge => k_is)
    (case tC_TooLarge => k_is)
    (case kc_TooLarge => k_is)
    (case nw_TooLarge => k_is)
    (case ii_TooLarge => k_is)
    (case ga_TooLarge => k_is)
    (case gg_TooLarge => k_is)
    (case hd_TooLarge => k_is)
    (case xL_DuplicateFunction => k_is)
    (case xR_DuplicateFunction => decide +kernel)
    (case sa_DuplicateFunction => k_is)
    (case eC_DuplicateFunction => k_is)
    (case tC_DuplicateFunction => k_is)
    (case kc_DuplicateFunction => k_is)
    (case nw_DuplicateFunction => k_is)
    (case ii_DuplicateFunction => k_is)
    (case ga_DuplicateFunction => k_is)
    (case gg_DuplicateFunction => k_is)
    (case hd_DuplicateFunction => k_is)
    (case pg_Signature => k_is)
    (case hd_Signature => k_is)
    (case po_Signature => k_is)
    (case sa_Signature => k_is)
    (case mk_Signature => k_is)
    (case kc_Signature => k_is)
    (case ha_Signature => k_is)
    (case hm_Signature => k_is)
    (case na_Signature_name => k_is)
    (case na_Signature_count => k_is)
    (case na_Signature_sources => k_is)
    (case pg_Book => k_is)
    (case hd_Book => k_is)
    (case po_Book => k_is)
    (case sa_Book => k_is)
    (case mk_Book => k_is)
    (case kc_Book => k_is)
    (case ha_Book => k_is)
    (case hm_Book => k_is)
    (case na_Book__given => k_is)
    (case na_Book__every => k_is)
    (case na_Book__by_name => k_is)
    (case hnO => k_is)
    (case htO => k_is)
    (case fa_si_dd => k_is)
    (case fa_tyS => k_is)
    (case fa_sb_str => k_is)
    (case fa_sb_tup => k_is)
    (case fa_fi_book_get => k_is)
    (case fa_si_tt => k_is)
    (case fa_si_td => k_is)
    (case fa_sf_Book => k_is)
    (case fa_ne_Sig => k_is)
    (case fa_ob_Sig => k_is)
    (case eDIGITS => k_is)
    (case eLETTERS => k_is)
    (case eMOST_CHARACTERS => k_is)
    (case eMOST_GIVEN => k_is)
    (case eMOST_PARAMETERS => k_is)
    (case eRESERVED => k_is)
    (case oRESERVED => k_is)
    (case wRESERVED => exact UL.vals_of rfl)
