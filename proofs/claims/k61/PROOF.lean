import PyProof.Rows.All
import Wide.All
import OpenK.AllK
import Wide.FinOn
import HandS.ForMost
import HandS.Walk
import HandS.Evl
import HandS.IsInst
import HandS.Exc
import HandS.TryOnly
import HandS.ExcOwn
import HandS.ExcInit
import HandS.ExcField
import HandS.WordsExc
import HandS.Defaults
import HandS.MakeKw
import HandS.MakeKwOnly
import HandS.Property
import KE.KExcIs
import HandS.ClsMeth
import HandS.Star
import OpenK.KMeth
import OpenK.KOps
import HandS.IterVal
import HandS.OwnIter
import HandS.ExcValue
import PyProof.InstNe
import HandS.Iter
import HandS.More
import HandS.CallLocal
import PyProof.Draws
import PyProof.EnumMake
import HandS.Set
import HandS.SetFor
import HandS.SetKeys
import PyProof.Rows.SortShellAny
import HandS.DictComp
import HandS.DictEq
import HandS.TupAny
import HandS.Flow
import HandS.TupLe
import PySem.Challenge.RW_unnamedlives_k61_effect_parts
set_option Elab.async false
set_option linter.all false
set_option maxRecDepth 100000
/-! own: a list of draws as ONE unchanging thing of the abstract heap; small words -/
namespace UL
open PySem PySem.Spec PyProof.Rows L2 Evl TL

/-! ### draws -/
def Good (ns : List Int) : Prop := (∀ m ∈ ns, 0 ≤ m ∧ m < 1000003) ∧ ns.length ≤ 4000
def drObj (d : Addr) (h : Heap) : Prop := ∃ (ns : List Int) (its : List Value) (n : Nat), Good ns ∧ Vals (ns.map V.int) its ∧ h.get? d = some { cls := .type "list", data := .seq its.toArray n }
def DrO (d : Addr) : HO := .ext (drObj d)
theorem good_sz {ns : List Int} (g : Good ns) : (ns.map V.int).length ≤ sizeLine := by
  rw [List.length_map]
  exact Nat.le_trans g.2 (by decide)
section
variable {X : Cx} {pins : List (Addr × Obj)} {σ : L2.St} {H : Hp} {s : Shared} {d : Addr}
theorem inv_open (I : Inv X pins σ H s) (h : H d = some (DrO d)) : ∃ ns, Good ns ∧ Inv X pins σ (upd H d (.lst (ns.map V.int))) s := by
  obtain ⟨⟨ns, its, n, g, r, e⟩, _, _⟩ := I.hok d _ h
  exact ⟨ns, g, I.write (x := d) (e := d) (h' := s.heap) (t' := s.toks) (by rw [h]; trivial) (.inl rfl) (fun _ _ _ q => q) ⟨_, e⟩ ⟨good_sz g, its, n, r, e⟩⟩
theorem inv_close {ns : List Int} (I : Inv X pins σ H s) (h : H d = some (.lst (ns.map V.int))) (g : Good ns) : Inv X pins σ (upd H d (DrO d)) s := by
  obtain ⟨z, its, n, r, e⟩ := I.hok d _ h
  exact I.write (x := d) (e := d) (h' := s.heap) (t' := s.toks) (by rw [h]; trivial) (.inl rfl) (fun _ _ _ q => q) ⟨_, e⟩
    ⟨⟨ns, its, n, g, r, e⟩, ⟨_, e⟩, fun h1 h2 ⟨ns', its', n', g', r', e'⟩ k => ⟨ns', its', n', g', r', k _ e'⟩⟩
/-- the list of draws in slot i is opened ahead of the statements -/
def tOpen (i : Nat) (t : TS) : TS := fun D σ H => ∃ d, σ[i]? = some (some (.ref d)) ∧ H d = some (DrO d) ∧ ∀ ns, Good ns → t D σ (upd H d (.lst (ns.map V.int)))
theorem pss_open (i : Nat) {sts : List Stmt} {t : TS} (h : PSs X sts t) : PSs X sts (tOpen i t) := by
  refine ⟨fun pins s σ H D I q => ?_⟩
  obtain ⟨d, _, hd, k⟩ := q
  obtain ⟨ns, g, J⟩ := inv_open I hd
  exact h.run pins s σ _ D J (k ns g)
/-- .. and closed behind an expression -/
def tClose (t : TE) : TE := fun σ H Q => t σ H fun v H1 => ∃ d ns, H1 d = some (.lst (ns.map V.int)) ∧ Good ns ∧ Q v (upd H1 d (DrO d))
theorem pe_close {e : Expr} {t : TE} (h : PE X e t) : PE X e (tClose t) := by
  refine ⟨fun pins s σ H Q I q => ?_⟩
  refine thn (h.run pins s σ H _ I q) fun u s1 ⟨v, H1, I1, r, d, ns, hd, g, k⟩ => ?_
  exact ⟨v, _, inv_close I1 hd g, r, k⟩
end
theorem upd_back {H : Hp} {d : Addr} {o u : HO} (h : H d = some o) : upd (upd H d u) d o = H := by
  funext b
  unfold upd
  by_cases e : b = d
  · rw [if_pos e, e, h]
  · rw [if_neg e, if_neg e]
theorem upd_id {H : Hp} {d : Addr} {o : HO} (h : H d = some o) : upd H d o = H := by
  funext b
  unfold upd
  by_cases e : b = d
  · rw [if_pos e, e, h]
  · rw [if_neg e]
theorem same_upd {H : Hp} {p : Addr} {o : HO} (h : H p = none) : Same H (upd H p o) := fun b x e => by
  rw [upd_ne (ne_of_none e h)]
  exact e
theorem _root_.Evl.Ex.free' {H H' : Hp} {p : Addr} (e : Ex H H') (h : H' p = none) : H p = none := fresh_back e h
theorem good_tail {n : Int} {ns : List Int} (g : Good (n :: ns)) : 0 ≤ n ∧ n < 1000003 ∧ Good ns :=
  ⟨(g.1 n List.mem_cons_self).1, (g.1 n List.mem_cons_self).2, fun m hm => g.1 m (List.mem_cons_of_mem _ hm), Nat.le_trans (Nat.le_succ _) g.2⟩
theorem good_nil : Good [] := ⟨fun _ h => (nomatch h), by decide⟩
theorem good_add {ns : List Int} {n : Int} (g : ∀ m ∈ ns, 0 ≤ m ∧ m < 1000003) (h : 0 ≤ n ∧ n < 1000003) : ∀ m ∈ ns ++ [n], 0 ≤ m ∧ m < 1000003 := fun m hm => by
  rcases List.mem_append.mp hm with h1 | h1
  · exact g m h1
  · rw [List.mem_singleton.mp h1]
    exact h

/-! ### text * int -/
theorem op_mul_str {X : Cx} : OpR X (binaryOp .Mult) (fun x y H Q => ∃ (z : Str) (n : Int), x = .str z ∧ y = .int n ∧ MulOk z n ∧ Q (.str (Txt.mul z n)) H) := by
  intro pins s σ H x y v u Q I rx ry h
  obtain ⟨i, j, rfl, rfl, hz, q⟩ := h
  obtain ⟨t, rfl⟩ := rx
  obtain ⟨t', rfl⟩ := ry
  exact SB.mul hz (fun t' tk => ⟨.str (Txt.mul i j), H, I.tok _, ⟨_, rfl⟩, q⟩)
theorem mulOk_small {z : Str} {n : Int} (hz : z.length ≤ 64) (h0 : 0 ≤ n) (h1 : n ≤ 64) : MulOk z n := by
  refine ⟨?_, fun h2 _ => ?_, fun _ _ => ?_⟩
  · rw [decide_eq_false (by omega), decide_eq_false (by omega)]
    rfl
  · intro h
    have h3 : (64 : Int) ≤ (2 ^ 63 - 1) / n := (Int.le_ediv_iff_mul_le (by omega)).mpr (by omega)
    omega
  · unfold PySem.Builtin.Str.tooLong
    refine decide_eq_false ?_
    have h3 : z.length * n.toNat ≤ 64 * 64 := Nat.mul_le_mul hz (by omega)
    have h4 : (64 * 64 : Nat) ≤ sizeLine := by decide
    omega
theorem tl_reps (x : Array Nat) : ∀ (k : Nat) (a : Array Nat), ((List.replicate k x).foldl (· ++ ·) a).toList = a.toList ++ (List.replicate k x.toList).flatten
  | 0, a => by simp
  | k + 1, a => by
    rw [List.replicate_succ, List.foldl_cons, tl_reps x k (a ++ x), List.replicate_succ, List.flatten_cons, Array.toList_append, List.append_assoc]
theorem tl_mul (z : Str) (n : Int) : tl (Txt.mul z n) = (List.replicate n.toNat (tl z)).flatten := by
  unfold Txt.mul
  by_cases h1 : n < 1
  · rw [if_pos h1, show n.toNat = 0 by omega]
    rfl
  · rw [if_neg h1]
    by_cases h2 : (n == 1 || z.length == 0) = true
    · rw [if_pos h2]
      rcases Bool.or_eq_true _ _ ▸ h2 with h3 | h3
      · have : n = 1 := by simpa using h3
        subst this
        show tl z = (List.replicate 1 (tl z)).flatten
        simp
      · have h4 : (tl z) = [] := by
          have : z.length = 0 := by simpa using h3
          rw [len_tl] at this
          exact List.eq_nil_of_length_eq_zero this
        rw [h4]
        simp
    · rw [if_neg h2]
      show ((List.replicate n.toNat z.cps).foldl (· ++ ·) #[]).toList = _
      rw [tl_reps]
      rfl

theorem rel_of {x : V} {u : Value} (h : absV u = some x) : RelV x u := by
  cases u <;> first | (cases h; done) | (cases h; exact rfl) | (cases h; exact ⟨_, rfl⟩)
theorem vals_of : ∀ {xs : List V} {us : List Value}, us.map absV = xs.map some → Vals xs us
  | [], [], _ => .nil
  | [], _ :: _, h => (nomatch h)
  | _ :: _, [], h => (nomatch h)
  | x :: xs, u :: us, h => by
    rw [List.map_cons, List.map_cons] at h
    exact .cons (rel_of (List.cons.inj h).1) (vals_of (List.cons.inj h).2)
theorem dp_strs {K : PySem.W.Frag} {H : Hp} : ∀ zs : List Str, DpAll K H (zs.map V.str) (zs.map PyData.str)
  | [] => .nil
  | z :: r => .cons (.str z) (dp_strs r)
/-! ### loops -/
section
variable {D : Ends} {tb : TS} {j : Nat} {σ : L2.St} {H : Hp}
theorem forR1 {n : Int} (hn : -(2 ^ 62) ≤ n ∧ n < 2 ^ 62) (Pv : Nat → L2.St → Hp → Prop) (h0 : Pv 0 σ H)
    (hs : ∀ (i : Nat) σ' H', (i : Int) < n → Pv i σ' H' → tb { D with nx := Pv (i + 1), ct := Pv (i + 1), bk := D.nx } (σ'.set j (some (.int (i : Int)))) H') (hd : ∀ σ' H', Pv n.toNat σ' H' → D.nx σ' H') :
    -(2 ^ 62) ≤ n ∧ n < 2 ^ 62 ∧ ∃ W : Nat → Nat → L2.St → Hp → Prop, (∃ m, W 0 m σ H) ∧ ∀ i m σ H, W i m σ H →
      ((Itr 0 n.toNat).stop i H ∧ D.nx σ H) ∨ ((Itr 0 n.toNat).go i H ∧ ∃ N : L2.St → Hp → Prop, (∀ σ' H', N σ' H' → ∃ m', m' < m ∧ W (i + 1) m' σ' H') ∧ ∀ x H', (Itr 0 n.toNat).yld i H x H' → gName j x σ H' fun σ2 H2 => tb { D with nx := N, ct := N, bk := D.nx } σ2 H2) :=
  ⟨hn.1, hn.2, for_range (lo := 0) (n := n.toNat) Pv h0 (fun i σ' H' hi p => by
    have e0 : (0 : Int) + (i : Int) = (i : Int) := Int.zero_add _
    show tb { D with nx := Pv (i + 1), ct := Pv (i + 1), bk := D.nx } (σ'.set j (some (.int ((0 : Int) + (i : Int))))) H'
    rw [e0]
    exact hs i σ' H' (by omega) p) hd⟩
end
theorem seq0 (n : Nat) : seqIndex? 0 (n + 1) = some 0 := by
  unfold seqIndex?
  have h : (0 : Int) < ((n + 1 : Nat) : Int) := by omega
  have h2 : (0 ≤ (0 : Int) && decide ((0 : Int) < ((n + 1 : Nat) : Int))) = true := by
    rw [decide_eq_true h]
    rfl
  show (if (0 ≤ (0 : Int) && decide ((0 : Int) < ((n + 1 : Nat) : Int))) = true then some (0 : Int).toNat else none) = some 0
  rw [if_pos h2]
  rfl
theorem at_lt {α : Type} {xs : List α} {n : Int} (h0 : 0 ≤ n) (h1 : n < (xs.length : Int)) : ∃ c, atI xs n = some c := by
  obtain ⟨m, rfl⟩ := Int.eq_ofNat_of_zero_le h0
  have hm : m < xs.length := by omega
  exact ⟨xs[m], atI_nat (List.getElem?_eq_getElem hm)⟩
theorem at_in {α : Type} {xs : List α} {n : Int} (h0 : 0 ≤ n) (h1 : n < (xs.length : Int)) : ∃ c, atI xs n = some c ∧ c ∈ xs := by
  obtain ⟨m, rfl⟩ := Int.eq_ofNat_of_zero_le h0
  have hm : m < xs.length := by omega
  exact ⟨xs[m], atI_nat (List.getElem?_eq_getElem hm), List.getElem_mem hm⟩
theorem emod_in {a : Int} : 0 ≤ a % 1000003 ∧ a % 1000003 < 1000003 := ⟨Int.emod_nonneg _ (by decide), Int.emod_lt_of_pos _ (by decide)⟩
theorem int_get {ns : List Int} {i : Nat} (h : i < ns.length) : (ns.map V.int)[i]? = some (.int ns[i]) := by
  rw [List.getElem?_map, List.getElem?_eq_getElem h]
  rfl
/-! ### comprehensions over a text -/
theorem lc_str {z : Str} {f : Nat → V} {j : Nat} {te : TE} {vs : List Nat} {σ : L2.St} {H1 : Hp} {D : Addr} {Qd : Hp → Prop} (hz : z.length ≤ 100000) (hD : H1 D = none) (hw : ∀ x, wipe ((wipe σ vs).set j (some x)) vs = wipe σ vs)
    (he : ∀ (c : Nat) H', Ex H1 H' → ∀ Q : VK, Q (f c) H' → te ((wipe σ vs).set j (some (.str ⟨#[c]⟩))) H' Q) (hd : Qd (upd H1 D (.lst ((tl z).map f)))) :
    ∃ W : Nat → Nat → Hp → Prop, (∃ m, W 0 m (upd H1 D (.lst []))) ∧ ∀ i m H, W i m H →
      ((Its z).stop i H ∧ Qd H) ∨ ((Its z).go i H ∧ ∃ Nx : Hp → Prop, (∀ H', Nx H' → ∃ m', m' < m ∧ W (i + 1) m' H') ∧ ∀ x H', (Its z).yld i H x H' → gName j x (wipe σ vs) H' fun σ2 H2 => wipe σ2 vs = wipe σ vs ∧ tYes σ2 H2 fun b H3 =>
        if b = true then te σ2 H3 fun y H4 => ∃ acc, H4 D = some (.lst acc) ∧ acc.length < sizeLine ∧ Nx (upd H4 D (.lst (acc ++ [y]))) else Nx H3) := by
  refine lc_it walk_str (fun i H' => H' = upd H1 D (.lst (((tl z).take i).map f))) rfl (fun _ _ _ _ => trivial) ?_ ?_
  · rintro i x H H' hi rfl ⟨rfl, c, hc, rfl⟩
    refine ⟨hw _, ?_⟩
    show te _ _ _
    refine he c _ (Ex.new hD) _ ?_
    have hc' : (tl z)[i]? = some c := by rw [← hc]; exact Array.getElem?_toList
    refine ⟨_, upd_same, ?_, ?_⟩
    · rw [List.length_map, List.length_take]
      exact sz_lt (by have := len_tl z; have hs : i < z.length := hi; omega)
    · rw [upd_upd, List.take_add_one, hc', List.map_append]
      rfl
  · rintro H rfl
    have e : (tl z).take z.cps.size = tl z := List.take_of_length_le (by rw [← len_tl]; exact Nat.le_refl _)
    rw [e]
    exact hd
theorem for_str {z : Str} {j : Nat} {tb : TS} {D : Ends} {σ : L2.St} {H : Hp} (Pv : Nat → L2.St → Hp → Prop) (h0 : Pv 0 σ H)
    (hs : ∀ i c σ' H', (tl z)[i]? = some c → Pv i σ' H' → tb { D with nx := Pv (i + 1), ct := Pv (i + 1), bk := D.nx } (σ'.set j (some (.str ⟨#[c]⟩))) H') (hd : ∀ σ' H', Pv (tl z).length σ' H' → D.nx σ' H') :
    ∃ W : Nat → Nat → L2.St → Hp → Prop, (∃ m, W 0 m σ H) ∧ ∀ i m σ H, W i m σ H →
      ((Its z).stop i H ∧ D.nx σ H) ∨ ((Its z).go i H ∧ ∃ N : L2.St → Hp → Prop, (∀ σ' H', N σ' H' → ∃ m', m' < m ∧ W (i + 1) m' σ' H') ∧ ∀ x H', (Its z).yld i H x H' → gName j x σ H' fun σ2 H2 => tb { D with nx := N, ct := N, bk := D.nx } σ2 H2) := by
  refine for_it walk_str Pv h0 (fun _ _ _ _ _ => trivial) ?_ ?_
  · rintro i x σ' H1 H2 hi p ⟨rfl, c, hc, rfl⟩
    exact hs i c σ' _ (by rw [← hc]; exact Array.getElem?_toList) p
  · intro σ' H' p
    exact hd σ' H' p
/-- [te for _ in range(n)]: things of a kind that stays true, also when a list is written -/
theorem lc_n {G : Hp → V → Prop} {n : Int} {j : Nat} {te : TE} {vs : List Nat} {σ : L2.St} {H1 : Hp} {D : Addr} {Qd : Hp → Prop} (hn : 0 ≤ n ∧ n ≤ 100000) (hD : H1 D = none) (hG : ∀ H H' v, Ex H H' → G H v → G H' v)
    (hG2 : ∀ H xs ys v, H D = some (.lst xs) → G H v → G (upd H D (.lst ys)) v) (hw : ∀ x, wipe ((wipe σ vs).set j (some x)) vs = wipe σ vs)
    (he : ∀ (i : Nat) H', (i : Int) < n → Ex H1 H' → ∀ Q : VK, (∀ v H2, Ex H' H2 → G H2 v → Q v H2) → te ((wipe σ vs).set j (some (.int (i : Int)))) H' Q) (hd : ∀ H' xs, Ex H1 H' → H' D = some (.lst xs) → (xs.length : Int) = n → (∀ x ∈ xs, G H' x) → Qd H') :
    ∃ W : Nat → Nat → Hp → Prop, (∃ m, W 0 m (upd H1 D (.lst []))) ∧ ∀ i m H, W i m H →
      ((Itr 0 n.toNat).stop i H ∧ Qd H) ∨ ((Itr 0 n.toNat).go i H ∧ ∃ Nx : Hp → Prop, (∀ H', Nx H' → ∃ m', m' < m ∧ W (i + 1) m' H') ∧ ∀ x H', (Itr 0 n.toNat).yld i H x H' → gName j x (wipe σ vs) H' fun σ2 H2 => wipe σ2 vs = wipe σ vs ∧ tYes σ2 H2 fun b H3 =>
        if b = true then te σ2 H3 fun y H4 => ∃ acc, H4 D = some (.lst acc) ∧ acc.length < sizeLine ∧ Nx (upd H4 D (.lst (acc ++ [y]))) else Nx H3) := by
  refine lc_range (lo := 0) (n := n.toNat) (fun i H' => ∃ xs : List V, Ex H1 H' ∧ H' D = some (.lst xs) ∧ xs.length = i ∧ ∀ x ∈ xs, G H' x) ⟨[], Ex.new hD, upd_same, rfl, fun _ h => (nomatch h)⟩ ?_ ?_
  · rintro i H' hi ⟨xs, e1, hL, hl, hx⟩
    have e0 : (0 : Int) + (i : Int) = (i : Int) := Int.zero_add _
    show wipe ((wipe σ vs).set j (some (.int ((0 : Int) + (i : Int))))) vs = wipe σ vs ∧ _
    refine ⟨hw _, ?_⟩
    show te ((wipe σ vs).set j (some (.int ((0 : Int) + (i : Int))))) _ _
    rw [e0]
    refine he i H' (by omega) e1 _ fun v H2 e2 g => ⟨xs, e2 _ _ hL, sz_lt (by omega), xs ++ [v], (e1.trans e2).mut hD, upd_same, by rw [List.length_append, hl]; rfl, fun x hm => ?_⟩
    rcases List.mem_append.mp hm with h | h
    · exact hG2 _ _ _ _ (e2 _ _ hL) (hG _ _ _ e2 (hx x h))
    · rw [List.mem_singleton.mp h]
      exact hG2 _ _ _ _ (e2 _ _ hL) g
  · rintro H' ⟨xs, e1, hL, hl, hx⟩
    exact hd H' xs e1 hL (by omega) hx
end UL

set_option Elab.async false
set_option linter.all false
set_option maxRecDepth 100000
/-! own: one of two readings; objects made with keywords where an error may leave; own ==; isinstance of an error that has a dict -/
namespace UL
open PySem PySem.Spec PyProof.Rows L2 Evl TL

/-! ### one of two readings -/
section
variable {X : Cx} {e : Expr} {t1 t2 : TE} {op : CmpOp} {tg iter : Expr} {w1 w2 : TI}
def tAlt (t1 t2 : TE) : TE := fun σ H Q => t1 σ H Q ∨ t2 σ H Q
theorem pe_alt (h1 : PE X e t1) (h2 : PE X e t2) : PE X e (tAlt t1 t2) :=
  ⟨fun pins s σ H Q I h => h.elim (fun q => h1.run pins s σ H Q I q) (fun q => h2.run pins s σ H Q I q)⟩
def iAlt (w1 w2 : TI) : TI := fun σ H R => w1 σ H R ∨ w2 σ H R
theorem pi_alt (h1 : PI X tg iter w1) (h2 : PI X tg iter w2) : PI X tg iter (iAlt w1 w2) :=
  ⟨fun pins s σ H R I h => h.elim (fun q => h1.run pins s σ H R I q) (fun q => h2.run pins s σ H R I q)⟩
def rAlt (r1 r2 : R2) : R2 := fun x y H Q => r1 x y H Q ∨ r2 x y H Q
theorem op_alt {f : Value → Value → Sem Value} {r1 r2 : R2} (h1 : OpR X f r1) (h2 : OpR X f r2) : OpR X f (rAlt r1 r2) :=
  fun pins s σ H x y v u Q I rx ry h => h.elim (fun q => h1 pins s σ H x y v u Q I rx ry q) (fun q => h2 pins s σ H x y v u Q I rx ry q)
def cAlt (r1 r2 : List V → Hp → VK → Prop) : List V → Hp → VK → Prop := fun xs H Q => r1 xs H Q ∨ r2 xs H Q
theorem call_alt {f : Value} {r1 r2 : List V → Hp → VK → Prop} (h1 : CallR X f r1) (h2 : CallR X f r2) : CallR X f (cAlt r1 r2) :=
  fun pins s σ H xs us Q I r h => h.elim (fun q => h1 pins s σ H xs us Q I r q) (fun q => h2 pins s σ H xs us Q I r q)
end

/-! ### C(e, .., k = v, ..) where what is raised is wished for at the caller's slots -/
def tMakeS (C : Addr) (n m : Nat) (sp : Sp) (gV : List V → List V → List V) (E : L2.St → XK) (t tk : TA) : TE := fun σ H Q => t σ H fun vs H1 => tk σ H1 fun zs H2 => vs.length = n ∧ zs.length = m ∧
  ∀ x dx, H2 x = none → H2 dx = none → dx ≠ x → sp (gV (.ref x :: vs) zs) (upd (upd H2 dx (.own x)) x (.ins C dx [])) (fun v H3 => v = .non ∧ Q (.ref x) H3) (E σ)
section
variable {X : Cx} {CX : CXT} {k n : Nat} {f C : Addr} {fd : FuncData} {ps ks : List Str} {sp : Sp} {E : L2.St → XK} {x : Str} {p pos : Pos} {e : Expr} {es : List Expr} {kws : List Keyword} {t tk : TA} {g : List Value → List Value → List Value} {gV : List V → List V → List V}
theorem mk_run {pins : List (Addr × Obj)} {σ : L2.St} {H : Hp} {s : Shared} {Q : VK} {us ws : List Value} {vs zs : List V} (M : Mk X.K C f) (F : FnOk X.prog X.w X.K X.mg X.base CX k f fd ps sp) (hr : Room (k + 1) X.A)
    (hb : KBn X.K fd ps (n + 1) ks g gV) (hx : PassesAt CX X σ (E σ)) (I : Inv X pins σ H s) (r : Vals vs us) (rz : Vals zs ws) (l1 : vs.length = n) (l2 : zs.length = ks.length)
    (h : ∀ x dx, H x = none → H dx = none → dx ≠ x → sp (gV (.ref x :: vs) zs) (upd (upd H dx (.own x)) x (.ins C dx [])) (fun v H2 => v = .non ∧ Q (.ref x) H2) (E σ)) :
    wpAny (model X.prog X.w) X.A (call (.ref C) us (ks.zip ws)) (EP X pins σ Q) X.xe s := by
  let sz := s.heap.objs.size
  have J := Inv.made (C := C) I
  have q0 := h (sz + 1) sz (I.hok.fresh (Nat.le_succ _)) (I.hok.fresh (Nat.le_refl _)) (Nat.ne_of_lt (Nat.lt_succ_self _))
  have ra : Vals (V.ref (sz + 1) :: vs) (Value.ref (sz + 1) :: us) := .cons rfl r
  have na : (Value.ref (sz + 1) :: us).length = n + 1 := by rw [← ra.length, List.length_cons, l1]
  have run := F.run _ X.stack _ _ ⟨Value.ref (sz + 1) :: us, ks.zip ws⟩ (g (Value.ref (sz + 1) :: us) ws) _ _ (E σ) (hr.make C us (ks.zip ws)) (J.env0.make C us (ks.zip ws)) (hb.to _ (Value.ref (sz + 1) :: us) ws J.kIn na (rz.length.symm.trans l2)) (hb.rel ra rz) q0
  refine wpAny_call (make_map (f := f) I.kIn M.makes M.init (beq_iff_eq.mp M.fn) (codeAny_mono run fun rr s' z => ?_))
  match rr, z with
  | .error er, z => exact hx pins _ _ er s' J z
  | .ok (.ret u), z =>
    obtain ⟨v, H', J', rv, ev, q⟩ := J.after z
    subst ev
    exact ⟨rv, ⟨V.ref (sz + 1), H', J', rfl, q⟩⟩
  | .ok .next, z => exact False.elim z
  | .ok .brk, z => exact False.elim z
  | .ok .cont, z => exact False.elim z
theorem pe_makeS (M : Mk X.K C f) (F : FnOk X.prog X.w X.K X.mg X.base CX k f fd ps sp) (hr : Room (k + 1) X.A) (hg : Gl X x) (hm : X.mg x = some (.ref C)) (hb : KBn X.K fd ps (n + 1) ks g gV) (hx : ∀ σ, PassesAt CX X σ (E σ)) (ha : PA X (e :: es) t) (hkw : PK X kws tk)
    (a1 : (backToKw pos (keywordEach kws X.env)).all (·.1.isSome) = true := by rfl) (a2 : (backToKw pos (keywordEach kws X.env)).filterMap (·.1) = ks := by rfl) (a3 : (x == ("__debug__" : Str)) = false := by decide)
    (a4 : starEach (e :: es) X.env = (false, eval e X.env) :: starEach es X.env := by rfl) (a5 : ((backTo pos (starEach (e :: es) X.env)).any (·.1) || (backToKw pos (keywordEach kws X.env)).any (·.1.isNone)) = false := by rfl) :
    PE X (.Call (.Name x p) (e :: es) kws pos) (tMakeS C n ks.length sp gV E t tk) := by
  refine ⟨fun pins s σ H Q I h => wpAny_Call_Name_kw (ld_glob I hg hm ?_ a3)⟩
  refine PySem.W.callWith_KW (h₀ := X.base) I.ok.mod.kin M.kp a1 (thn (ha.run pos pins s σ H _ I h) fun us s1 hh => ?_) a5 a4
  obtain ⟨vs, H1, I1, r, q⟩ := hh
  refine thn (hkw.run pos pins s1 σ H1 _ I1 q) fun ws s2 hh => ?_
  obtain ⟨zs, H2, I2, rz, l1, l2, q2⟩ := hh
  exact ⟨I2.kIn, by rw [a2]; exact mk_run M F hr hb (hx σ) I2 r rz l1 l2 q2⟩
end
/-- what leaves a call is wished for wherever the slots stand -/
theorem passAny {X : Cx} {W : WX} (tk : Takes X W) : ∀ σ, PassesAt (L2.CX X.prog X.w) X σ (WE W σ) := fun σ => passAt tk σ
/-- .. in a def that lets it out: the wish E is the caller's -/
theorem passOut {X : Cx} {E : XK} (tk : Takes X fun cls d _ H => E cls d H) : ∀ σ, PassesAt (L2.CX X.prog X.w) X σ E := fun σ => passAt tk σ

/-! ### own == -/
/-- what may stand on the right of an own ==: of its class, or of a type beside it -/
def RSide (K : PySem.W.Frag) (C : Addr) (y : V) (H : Hp) : Prop := (∃ b dy gs, y = .ref b ∧ H b = some (.ins C dy gs)) ∨ (∃ z, y = .str z ∧ PySem.W.subIn K (.type "str") (.ref C) = some false) ∨ ∃ b ys, y = .ref b ∧ H b = some (.tup ys) ∧ PySem.W.subIn K (.type "tuple") (.ref C) = some false
def rOwnEq (K : PySem.W.Frag) (C : Addr) (sp : Sp) (E : XK) : R2 := fun x y H Q => ∃ a dx fs, x = .ref a ∧ H a = some (.ins C dx fs) ∧ RSide K C y H ∧ sp [.ref a, y] H (fun v H' => (∃ b, v = .bl b) ∧ Q v H') E
section
variable {X : Cx} {CX : CXT} {k : Nat} {f C : Addr} {fd : FuncData} {ps : List Str} {sp : Sp} {E : XK}
theorem op_ownEq (F : FnOk X.prog X.w X.K X.mg X.base CX k f fd ps sp) (hr : Room k X.A) (hs : PySem.W.findIn X.K (.ref C) "__eq__" = some (some (.ref f))) (hf : PySem.W.isFn X.K (.ref f) = true) (hb : L2.Binds X.K fd ps []) (hx : Passes CX X E) :
    OpR X (compareOp .Eq) (rOwnEq X.K C sp E) := by
  intro pins s σ H x y v u Q I rx ry h
  obtain ⟨a, dx, fs, rfl, ha, hy, q⟩ := h
  cases rx
  obtain ⟨mA, J, _⟩ := ins_get I.hok ha
  obtain ⟨od, J, _⟩ := J.look
  obtain ⟨m, hF⟩ := I.fr
  have side : ∃ tb, PySem.W.Looks (model X.prog X.w) s.heap (typeOf u) tb ∧ PySem.W.notFirst X.K C tb = true := by
    rcases hy with ⟨b, dy, gs, rfl, hb2⟩ | ⟨z, rfl, hn⟩ | ⟨b, ys, rfl, hb2, hn⟩
    · cases ry
      obtain ⟨mB, J', _⟩ := ins_get I.hok hb2
      obtain ⟨od', J', _⟩ := J'.look
      exact ⟨_, J'.type, by simp [PySem.W.notFirst]⟩
    · obtain ⟨t, rfl⟩ := ry
      exact ⟨.type "str", .now, by simp [PySem.W.notFirst, hn]⟩
    · cases ry
      obtain ⟨z, its, r, o, hg, hc, n, hd⟩ := I.hok b _ hb2
      exact ⟨.type "tuple", hc ▸ (PySem.W.Looks.ld hg).andThen .now, by simp [PySem.W.notFirst, hn]⟩
  obtain ⟨tb, ty, nf⟩ := side
  show wpAny _ _ (richCompare .Eq (.ref a) u) _ _ _
  refine PySem.W.cmp_K (op := .Eq) (tb := tb) hr.units0 hF I.ok.mod.kin J ty nf hs hf ?_
  have r2 : Vals [V.ref a, y] [Value.ref a, u] := .cons rfl (.cons ry .nil)
  have hl : [Value.ref a, u].length = ps.length := by rw [← r2.length]; exact F.len _ _ _ _ q
  have bd := hb s [Value.ref a, u] I.kIn (by rw [List.append_nil]; exact hl)
  rw [List.append_nil] at bd
  refine wpAny_call (codeAny_mono (F.run X.A X.stack s H ⟨[.ref a, u], []⟩ [.ref a, u] [.ref a, y] _ E hr I.env0 bd r2 q) fun rr s' z => ?_)
  match rr, z with
  | .error er, z => exact hx pins σ H s er s' I z
  | .ok (.ret w), z =>
    obtain ⟨v, H', I', rv, ⟨b, rfl⟩, q'⟩ := I.after z
    cases rv
    exact ⟨V.bl b, H', I', rfl, q'⟩
  | .ok .next, z => exact False.elim z
  | .ok .brk, z => exact False.elim z
  | .ok .cont, z => exact False.elim z
end

/-! ### isinstance of a caught error that has a dict -/
def rIsX (K : PySem.W.Frag) (D a : Addr) (cls : Value) (d : Option Addr) : List V → Hp → VK → Prop := fun xs H Q => ∃ (c : V) (cv : Value) (b : Bool) (dd : Addr) (fs : List (Str × V)), xs = [.ref a, c] ∧ cls = .ref D ∧ (∀ u, RelV c u → u = cv) ∧ d = some dd ∧ H dd = some (.xd fs) ∧ PySem.W.kitOne K (.ref D) cv = some b ∧ Q (.bl b) H
structure ExI (K : PySem.W.Frag) (D : Addr) : Prop where
  c1 : (PySem.W.clsIn K D).isSome = true
  c2 : PySem.W.findIn K (.ref D) "__getattribute__" = some (some (.builtin "BaseException.__getattribute__"))
  c3 : PySem.W.findIn K (.ref D) "__getattr__" = some none
  c4 : PySem.W.subIn K (.ref D) (.type "BaseException") = some true
  c5 : PySem.W.findIn K (.ref D) "__class__" = some (some (.builtin "object.__class__"))
  c6 : PySem.W.specialIn K (.builtin "object.__class__") "__get__" = some (some (.builtin "getset_descriptor.__get__"))
  c7 : PySem.W.takesIn K (.builtin "object.__class__") = some true
  c8 : PySem.W.mroIn K D (.type "object") = some true
theorem call_isX {X : Cx} {a D : Addr} {cls : Value} {d : Option Addr} {oe : Obj} {pn : List (Addr × Obj)} (T : ExI X.K D) (hz : Zc cls d oe) (hf : ∃ vs, oe.data = .fields vs) : CallR (X.suite a ((a, oe) :: pn)) (.builtin "isinstance") (rIsX X.K D a cls d) := by
  intro pins s σ H xs us Q I r h
  obtain ⟨c, cv, b, dd, fs, rfl, rfl, hcv, rfl, hd, ek, q⟩ := h
  obtain ⟨u1, w1, e1, r1, rr1⟩ : ∃ u1 w1, us = [u1, w1] ∧ RelV (.ref a) u1 ∧ RelV c w1 := by
    cases r with
    | cons q1 q2 =>
      cases q2 with
      | cons q3 q4 =>
        cases q4
        exact ⟨_, _, rfl, q1, q3⟩
  subst e1
  cases r1
  have e2 := hcv _ rr1
  subst e2
  obtain ⟨hget, _⟩ := I.pin (a, oe) (List.mem_append.mpr (.inl List.mem_cons_self))
  obtain ⟨vs, hv⟩ := hf
  have hx : ObjOk X.prog X.w H s.heap dd (.xd fs) := I.hok dd _ hd
  obtain ⟨mA, hns, _⟩ := hx
  obtain ⟨od, ho, _⟩ := lookIn_ns hns
  have J : PySem.W.InstAt s.heap a oe D (some od) := ⟨hget, hz.1, by unfold PySem.W.notCls; rw [hv] <;> rfl, by rw [hz.2]; exact ho⟩
  exact PySem.W.kia_one (PySem.W.kitx_exc T.c1 T.c2 T.c3 T.c4 T.c5 T.c6 T.c7 T.c8) I.kIn J ek (fun z => nomatch z) fun tk => ⟨.bl b, H, I.kept (t' := tk) fun _ _ z => z, rfl, q⟩
/-! ### what the written part says of a class -/
structure TyF (K : PySem.W.Frag) (C : Addr) : Prop where
  ha : PySem.W.findIn K (.ref C) "__class__" = some (some (.builtin "object.__class__"))
  hn : PySem.W.specialIn K (.builtin "object.__class__") "__get__" = some (some (.builtin "getset_descriptor.__get__"))
  ht : PySem.W.takesIn K (.builtin "object.__class__") = some true
  hm : PySem.W.mroIn K C (.type "object") = some true
theorem tyx_ins {K : PySem.W.Frag} {H : Hp} {a C dx : Addr} {fs : List (Str × V)} (e : H a = some (.ins C dx fs)) (c : Cls K C) (t : TyF K C) : TyX K H (.ref a) (.ref C) := .base (.ins e c t.ha t.hn t.ht t.hm)
structure ExF (K : PySem.W.Frag) (C I : Addr) : Prop where
  ox : OexC K C
  ii : PySem.W.findIn K (.ref C) "__init__" = some (some (.ref I))
  nw : PySem.W.findIn K (.ref C) "what" = some none
  xf : XfC K C

/-! ### errors that keep what they are made with -/
/-- the promise of the base class's __init__: self.what = what -/
def spWhat (K : PySem.W.Frag) : Sp := fun vs H Q _ => ∃ (a C : Addr) (v : V), vs = [.ref a, v] ∧ flatV v = true ∧ H a = some (exo a C none) ∧ OexC K C ∧ PySem.W.findIn K (.ref C) "what" = some none ∧
  ∀ dx, H dx = none → dx ≠ a → Q .non (upd (upd H dx (exd dx [("what", v)])) a (exo a C (some dx)))
theorem raise_what {K : PySem.W.Frag} {C I : Addr} {H : Hp} {v : V} {Q : XK} (F : ExF K C I) (hv : flatV v = true) (k : ∀ d H', Ex H H' → H' d = some (.xd [("what", v)]) → Q (.ref C) (some d) H') :
    ∀ a, H a = none → spWhat K [.ref a, v] (upd H a (exo a C none)) (fun u H2 => u = .non ∧ ∃ (d : Addr) (fs : List (Str × V)), H2 a = some (exo a C (some d)) ∧ H2 d = some (exd d fs) ∧ H d = none ∧ Q (.ref C) (some d) (upd (L2.del H2 a) d (.xd fs))) (fun _ _ _ => False) := by
  intro a ha
  refine ⟨a, C, v, rfl, hv, upd_same, F.ox, F.nw, fun dx hd hne => ⟨rfl, dx, [("what", v)], upd_same, ?_, ?_, ?_⟩⟩
  · rw [upd_ne hne, upd_same]
  · rw [upd_ne hne] at hd
    exact hd
  · have hd0 : H dx = none := by
      rw [upd_ne hne] at hd
      exact hd
    refine k dx _ (fun b o hb => ?_) upd_same
    have b1 : b ≠ a := ne_of_none hb ha
    have b2 : b ≠ dx := ne_of_none hb hd0
    rw [upd_ne b2]
    show (if b = a then none else _) = _
    rw [if_neg b1, upd_ne b1, upd_ne b2, upd_ne b1]
    exact hb
theorem flat_ty {K : PySem.W.Frag} {H : Hp} {v : V} (h : flatV v = true) : ∃ t, TyX K H v t ∧ PySem.W.kitOne K t (.type "list") = some false ∧ PySem.W.kitOne K t (.type "tuple") = some false ∧ PySem.W.kitOne K t (.type "dict") = some false := by
  cases v with
  | non => exact ⟨_, .base .non, kit_ty (r := false) (by decide +kernel), kit_ty (r := false) (by decide +kernel), kit_ty (r := false) (by decide +kernel)⟩
  | bl b => exact ⟨_, .base (.bl b), kit_ty (r := false) (by decide +kernel), kit_ty (r := false) (by decide +kernel), kit_ty (r := false) (by decide +kernel)⟩
  | int i => exact ⟨_, .base (.int i), kit_ty (r := false) (by decide +kernel), kit_ty (r := false) (by decide +kernel), kit_ty (r := false) (by decide +kernel)⟩
  | str z => exact ⟨_, .base (.str z), kit_ty (r := false) (by decide +kernel), kit_ty (r := false) (by decide +kernel), kit_ty (r := false) (by decide +kernel)⟩
  | _ => cases h

/-! ### sequences: a list or a tuple -/
section
variable {K : PySem.W.Frag} {H H' : Hp} {v : V} {xs : List V}
def SeqV (K : PySem.W.Frag) (H : Hp) (v : V) (xs : List V) : Prop := ∃ a, v = .ref a ∧ (H a = some (.lst xs) ∨ H a = some (.tup xs) ∨ (SqT K H a xs ∧ ∃ o, K.lookup a = some o ∧ o.cls = .type "tuple"))
theorem SeqV.mono (e : Ex H H') (h : SeqV K H v xs) : SeqV K H' v xs := by
  obtain ⟨a, rfl, h | h | ⟨h, o⟩⟩ := h
  · exact ⟨a, rfl, .inl (e _ _ h)⟩
  · exact ⟨a, rfl, .inr (.inl (e _ _ h))⟩
  · exact ⟨a, rfl, .inr (.inr ⟨ex_t e h, o⟩)⟩
theorem SeqV.ty (h : SeqV K H v xs) : ∃ t, TyX K H v t ∧ PySem.W.kitAny K t [.type "list", .type "tuple"] = some true := by
  obtain ⟨a, rfl, h | h | ⟨_, o, ho, hc⟩⟩ := h
  · exact ⟨_, .base (.lst h), rfl⟩
  · exact ⟨_, .base (.tup h), rfl⟩
  · exact ⟨_, .kTuple ho hc, rfl⟩
theorem SeqV.two (h : SeqV K H v xs) : ∃ a, v = .ref a ∧ (SqL K H a xs ∨ SqT K H a xs) := by
  obtain ⟨a, rfl, h | h | ⟨h, o⟩⟩ := h
  · exact ⟨a, rfl, .inl (SqL.of h)⟩
  · exact ⟨a, rfl, .inr (SqT.of h)⟩
  · exact ⟨a, rfl, .inr h⟩
def NSeq (H : Hp) (v : V) : Prop := v = .non ∨ (∃ b, v = .bl b) ∨ (∃ i, v = .int i) ∨ (∃ z, v = .str z) ∨ ∃ a kvs, v = .ref a ∧ H a = some (.dK kvs)
theorem NSeq.mono (e : Ex H H') (h : NSeq H v) : NSeq H' v := by
  rcases h with h | h | h | h | ⟨a, kvs, h, h1⟩
  · exact .inl h
  · exact .inr (.inl h)
  · exact .inr (.inr (.inl h))
  · exact .inr (.inr (.inr (.inl h)))
  · exact .inr (.inr (.inr (.inr ⟨a, kvs, h, e _ _ h1⟩)))
theorem NSeq.ty (h : NSeq H v) : ∃ t, TyX K H v t ∧ PySem.W.kitAny K t [.type "list", .type "tuple"] = some false := by
  rcases h with rfl | ⟨b, rfl⟩ | ⟨i, rfl⟩ | ⟨z, rfl⟩ | ⟨a, kvs, rfl, h⟩
  · exact ⟨_, .base .non, rfl⟩
  · exact ⟨_, .base (.bl b), rfl⟩
  · exact ⟨_, .base (.int i), rfl⟩
  · exact ⟨_, .base (.str z), rfl⟩
  · exact ⟨_, .base (.dK h), rfl⟩
theorem for_seq {a : Addr} {tl : TE} {g : TG} {tb : TS} {D : Ends} {σ : L2.St} (htl : ∀ Q : VK, Q (.ref a) H → tl σ H Q) (hx : SqL K H a xs ∨ SqT K H a xs) (Pv : Nat → L2.St → Hp → Prop) (h0 : Pv 0 σ H) (stay : ∀ i σ' H', Pv i σ' H' → Ex H H')
    (hs : ∀ i x σ' H', xs[i]? = some x → Pv i σ' H' → g x σ' H' fun σ2 H2 => tb { D with nx := Pv (i + 1), ct := Pv (i + 1), bk := D.nx } σ2 H2) (hd : ∀ σ' H', Pv xs.length σ' H' → D.nx σ' H') : tFor (iAlt (iList K tl) (iTup K tl)) g tb D σ H := by
  rcases hx with hx | hx
  · exact .inl (htl _ ⟨a, rfl, ⟨_, hx⟩, for_list Pv h0 (fun i σ' H' _ p => ex_l (stay i σ' H' p) hx) hs hd⟩)
  · exact .inr (htl _ ⟨a, rfl, ⟨_, hx⟩, for_tup Pv h0 (fun i σ' H' _ p => ex_t (stay i σ' H' p) hx) hs hd⟩)
end

theorem del_at {H : Hp} {x b : Addr} {o : HO} (h : H b = some o) (n : b ≠ x) : L2.del H x b = some o := by
  show (if b = x then none else H b) = _
  rw [if_neg n]
  exact h
theorem sqT_del {K : PySem.W.Frag} {H : Hp} {x a C dx : Addr} {fs : List (Str × V)} {xs : List V} (hx : H x = some (.ins C dx fs)) (h : SqT K H a xs) : SqT K (L2.del H x) a xs := by
  rcases h with (h | ⟨o, h⟩) | h
  · exact .inl (.inl (del_at h (ne_of h hx (by intro z; cases z))))
  · exact .inl (.inr ⟨o, del_at h (ne_of h hx (by intro z; cases z))⟩)
  · exact .inr h
/-- all but the object at x stands -/
theorem ex_del {H H1 H' : Hp} {x : Addr} (e : Ex H H1) (k : ∀ b o, b ≠ x → H1 b = some o → H' b = some o) : Ex (L2.del H x) H' := fun b o hb => by
  by_cases n : b = x
  · rw [show L2.del H x b = none from if_pos n] at hb
    cases hb
  · rw [show L2.del H x b = H b from if_neg n] at hb
    exact k b o n (e b o hb)

def rLen (K : PySem.W.Frag) : List V → Hp → VK → Prop := fun xs H Q => ∃ p ys, xs = [.ref p] ∧ (SqL K H p ys ∨ SqT K H p ys) ∧ Q (.int ys.length) H
theorem cutV_mem {xs : List V} {lo hi : Option Int} : (∀ x ∈ cutV xs lo hi, x ∈ xs) ∧ (cutV xs lo hi).length ≤ xs.length := by
  unfold cutV
  refine ⟨fun x hx => List.mem_of_mem_drop (List.mem_of_mem_take hx), ?_⟩
  rw [List.length_take, List.length_drop]
  omega

theorem made_in {H : Hp} {x dx C : Addr} (hx : H x = none) (hd : H dx = none) : Ex H (upd (upd H dx (.own x)) x (.ins C dx [])) := fun b o hb => by
  rw [upd_ne (ne_of_none hb hx), upd_ne (ne_of_none hb hd)]
  exact hb
theorem made_ex {H H' : Hp} {x dx C : Addr} (hx : H x = none) (hd : H dx = none) (e : Ex (L2.del (upd (upd H dx (.own x)) x (.ins C dx [])) x) H') : Ex H H' := fun b o hb =>
  e b o (del_at (made_in hx hd b o hb) (ne_of_none hb hx))
theorem sqT_ty {K : PySem.W.Frag} {H : Hp} {t : Addr} {xs : List V} (h : SqT K H t xs) : TyX K H (.ref t) (.type "tuple") := by
  rcases h with (h | ⟨o, h⟩) | ⟨o, its, n, ho, hc, _⟩
  · exact .base (.tup h)
  · exact .fTuple h
  · exact .kTuple ho hc

theorem SeqV.isl {K : PySem.W.Frag} {H : Hp} {v : V} {xs : List V} (h : SeqV K H v xs) : (∃ a, v = .ref a ∧ H a = some (.lst xs) ∧ TyX K H v (.type "list")) ∨ (∃ a, v = .ref a ∧ SqT K H a xs ∧ TyX K H v (.type "tuple")) := by
  obtain ⟨a, rfl, h | h | ⟨h, o, ho, hc⟩⟩ := h
  · exact .inl ⟨a, rfl, h, .base (.lst h)⟩
  · exact .inr ⟨a, rfl, SqT.of h, .base (.tup h)⟩
  · exact .inr ⟨a, rfl, h, .kTuple ho hc⟩

theorem cut_one (xs : List V) : cutV xs (some 1) none = xs.drop 1 := by
  unfold cutV
  rw [show HT.sIx xs.length 0 (some 1) = min 1 xs.length from HT.sIx_nat xs.length 0 1, HT.sIx_none]
  cases xs with
  | nil => rfl
  | cons x r =>
    rw [show min 1 (x :: r).length = 1 by rw [List.length_cons]; omega]
    exact List.take_of_length_le (by rw [List.length_drop]; omega)

section
variable {K : PySem.W.Frag} {C D : Addr} {T : String} {b : Bool}
theorem cls_some (h : PySem.W.hasDictIn K C = true) : (PySem.W.clsIn K C).isSome = true := by
  obtain ⟨cd, hc, _⟩ := PySem.W.any_some h
  rw [hc]
  rfl
theorem kit_own : PySem.W.kitOne K (.ref C) (.ref C) = some true := by
  unfold PySem.W.kitOne
  rw [if_pos (beq_self_eq_true _)]
theorem both_cls (h1 : PySem.W.hasDictIn K C = true) (h2 : PySem.W.typeIn K (.ref C) = some (.type "type")) : ((PySem.W.clsIn K C).isSome && PySem.W.typeIn K (.ref C) == some (.type "type")) = true := by
  rw [cls_some h1, h2] <;> rfl
theorem kit_type_ref (h1 : PySem.W.hasDictIn K C = true) (h2 : PySem.W.typeIn K (.ref C) = some (.type "type")) (h3 : PySem.W.subIn K (.type T) (.ref C) = some b) : PySem.W.kitOne K (.type T) (.ref C) = some b := by
  unfold PySem.W.kitOne
  rw [if_neg (by intro z; cases (beq_iff_eq.mp z))]
  exact (show PySem.W.kitCls K (.type T) (.ref C) = PySem.W.subIn K (.type T) (.ref C) from if_pos (both_cls h1 h2)).trans h3
theorem kit_ref_type (hm : PySem.W.kitMeta T = true) (h : PySem.W.subIn K (.ref D) (.type T) = some b) : PySem.W.kitOne K (.ref D) (.type T) = some b := by
  unfold PySem.W.kitOne
  rw [if_neg (by intro z; cases (beq_iff_eq.mp z))]
  exact (show PySem.W.kitCls K (.ref D) (.type T) = PySem.W.subIn K (.ref D) (.type T) from if_pos hm).trans h
theorem kit_ref_ref (ne : D ≠ C) (h1 : PySem.W.hasDictIn K C = true) (h2 : PySem.W.typeIn K (.ref C) = some (.type "type")) (h3 : PySem.W.subIn K (.ref D) (.ref C) = some b) : PySem.W.kitOne K (.ref D) (.ref C) = some b := by
  unfold PySem.W.kitOne
  rw [if_neg (by intro z; exact ne (Value.ref.inj (beq_iff_eq.mp z)))]
  exact (show PySem.W.kitCls K (.ref D) (.ref C) = PySem.W.subIn K (.ref D) (.ref C) from if_pos (both_cls h1 h2)).trans h3
theorem exm_cls (h0 : PySem.W.subIn K (.ref C) (.type "BaseException") = some true) (h1 : PySem.W.hasDictIn K C = true) (h2 : PySem.W.typeIn K (.ref C) = some (.type "type")) (h3 : PySem.W.subIn K (.ref D) (.ref C) = some b) : PySem.W.exmOne K (.ref D) (.ref C) = some b := by
  have e1 : (PySem.W.subIn K (.ref C) (.type "BaseException") == some true) = true := by rw [h0] <;> rfl
  show (if (PySem.W.subIn K (.ref C) (.type "BaseException") == some true) = true then (if ((PySem.W.clsIn K C).isSome && PySem.W.typeIn K (.ref C) == some (.type "type")) = true then PySem.W.subIn K (.ref D) (.ref C) else none) else none) = some b
  rw [if_pos e1, if_pos (both_cls h1 h2)]
  exact h3
end

theorem cut_from (xs : List V) (k : Nat) : cutV xs (some (k : Int)) none = xs.drop k := by
  unfold cutV
  rw [HT.sIx_nat, HT.sIx_none]
  by_cases h : k ≤ xs.length
  · rw [Nat.min_eq_left h]
    exact List.take_of_length_le (by rw [List.length_drop]; omega)
  · rw [Nat.min_eq_right (by omega), List.drop_length, List.drop_eq_nil_of_le (by omega), List.take_nil]
end UL

set_option Elab.async false
set_option linter.all false
set_option maxRecDepth 100000
/-! own: a static method called off its class -/
namespace UL
open PySem PySem.Spec PyProof.Rows L2 Evl TL

/-- C.m is a staticmethod: its record at p, its def at g -/
structure SMet (K : PySem.W.Frag) (C : Addr) (mc : Value) (m : Str) (p g : Addr) : Prop where
  rd : PySem.W.readsIn K C mc = true
  ga : PySem.W.specialIn K (.ref C) "__getattribute__" = some (some (.builtin "type.__getattribute__"))
  fc : PySem.W.findCls K (.ref C) mc m = some (.get (.builtin "staticmethod.__get__") (.ref p) .none (.ref C))
  rc : ∃ rest, PySem.W.recIn K p "staticmethod" = some (.ref g :: rest)
  kg : PySem.W.keepIn K (.ref g) = true
def tSm (C : Addr) (sp : Sp) (E : L2.St → XK) (ta : TE) (t : TA) : TE := fun σ H Q => ta σ H fun x H1 => x = .ref C ∧ t σ H1 fun vs H2 => sp vs H2 Q (E σ)
section
variable {X : Cx} {CX : CXT} {k : Nat} {C p g : Addr} {mc : Value} {fd : FuncData} {ps : List Str} {sp : Sp} {E : L2.St → XK} {o e : Expr} {es : List Expr} {m : Str} {pos apos : Pos} {ta : TE} {t : TA} {pl : Sem Bool}
theorem pe_smS (he : PE X o ta) (c : SMet X.K C mc m p g) (F : FnOk X.prog X.w X.K X.mg X.base CX k g fd ps sp) (hr : Room k X.A) (hb : L2.Binds X.K fd ps []) (hx : ∀ σ, PassesAt CX X σ (E σ)) (ha : PA X (e :: es) t)
    (h1 : starEach (e :: es) X.env = (false, eval e X.env) :: starEach es X.env := by rfl) (h2 : (backTo pos (starEach es X.env)).any (·.1) = false := by rfl)
    (h3 : eval (.Call (.Attribute o m apos) (e :: es) [] pos) X.env = (do
      let who ← eval o X.env
      standAt apos.atName
      let (fn, fst) ← holding [who] (getMethod who m pl)
      callWith pos fn fst (backTo pos (starEach (e :: es) X.env)) (backToKw pos (keywordEach [] X.env))) := by rfl) :
    PE X (.Call (.Attribute o m apos) (e :: es) [] pos) (tSm C sp E ta t) := by
  refine ⟨fun pins s σ H Q I h => PySem.W.methodCall_KW (pl := pl) (thn (he.run pins s σ H _ I h) fun u s1 hh => ?_) h3⟩
  obtain ⟨x, H1, I1, rx, rfl, q⟩ := hh
  obtain rfl : u = Value.ref C := rx
  obtain ⟨rest, hrc⟩ := c.rc
  refine PySem.W.method_cls I1.kIn c.ga (PySem.W.cls_bind I1.kIn c.rd c.fc (wpAny_call (PySem.W.sm_get (s := { s1 with toks := s1.toks + 1 }) I1.kIn hrc (PySem.W.handed_on rfl ?_))))
  have I2 : Inv X pins σ H1 { s1 with toks := s1.toks + 1 } := I1.tok _
  refine PySem.W.callWith_K (h₀ := X.base) I1.ok.mod.kin c.kg (thn (ha.run pos pins _ σ H1 _ I2 q) fun us s3 hh => ?_) h1 h2
  obtain ⟨vs, H2, I3, rv, q2⟩ := hh
  exact ⟨I3.kIn, run_fnS F hr hb (hx σ) I3 rv q2⟩
end

/-- [f x for x in a sequence]: any walk over fixed items, an element each, nothing else changed -/
theorem lc_map {K : PySem.W.Frag} {J : It} {xs : List V} {G : Hp → Prop} {f : V → V} {j : Nat} {te : TE} {vs : List Nat} {σ : L2.St} {H1 : Hp} {D : Addr} {Qd : Hp → Prop} (w : L2.Walk J xs.length G (YAt xs)) (hz : xs.length ≤ 100000) (hD : H1 D = none)
    (hG : ∀ H', Ex H1 H' → G H') (hw : ∀ x, wipe ((wipe σ vs).set j (some x)) vs = wipe σ vs) (he : ∀ x H', x ∈ xs → Ex H1 H' → ∀ Q : VK, Q (f x) H' → te ((wipe σ vs).set j (some x)) H' Q) (hd : Qd (upd H1 D (.lst (xs.map f)))) :
    ∃ W : Nat → Nat → Hp → Prop, (∃ m, W 0 m (upd H1 D (.lst []))) ∧ ∀ i m H, W i m H →
      (J.stop i H ∧ Qd H) ∨ (J.go i H ∧ ∃ Nx : Hp → Prop, (∀ H', Nx H' → ∃ m', m' < m ∧ W (i + 1) m' H') ∧ ∀ x H', J.yld i H x H' → gName j x (wipe σ vs) H' fun σ2 H2 => wipe σ2 vs = wipe σ vs ∧ tYes σ2 H2 fun b H3 =>
        if b = true then te σ2 H3 fun y H4 => ∃ acc, H4 D = some (.lst acc) ∧ acc.length < sizeLine ∧ Nx (upd H4 D (.lst (acc ++ [y]))) else Nx H3) := by
  refine lc_it w (fun i H' => H' = upd H1 D (.lst ((xs.take i).map f))) rfl (fun i H' _ h => by rw [h]; exact hG _ (Ex.new hD)) ?_ ?_
  · rintro i x H H' hi rfl ⟨rfl, hx⟩
    refine ⟨hw _, ?_⟩
    show te _ _ _
    refine he x _ (List.mem_of_getElem? hx) (Ex.new hD) _ ⟨_, upd_same, ?_, ?_⟩
    · rw [List.length_map, List.length_take]
      exact sz_lt (by omega)
    · rw [upd_upd, List.take_add_one, hx, List.map_append]
      rfl
  · rintro H rfl
    rw [List.take_length]
    exact hd
/-- [f x for x in a sequence if p x] -/
theorem lc_filter {K : PySem.W.Frag} {J : It} {xs : List V} {G : Hp → Prop} {p : V → Bool} {f : V → V} {j : Nat} {tt : TT} {te : TE} {vs : List Nat} {σ : L2.St} {H1 : Hp} {D : Addr} {Qd : Hp → Prop} (w : L2.Walk J xs.length G (YAt xs)) (hz : xs.length ≤ 100000) (hD : H1 D = none)
    (hG : ∀ H', Ex H1 H' → G H') (hw : ∀ x, wipe ((wipe σ vs).set j (some x)) vs = wipe σ vs) (ht : ∀ x H', x ∈ xs → Ex H1 H' → ∀ Q : Bool → Hp → Prop, Q (p x) H' → tt ((wipe σ vs).set j (some x)) H' Q)
    (he : ∀ x H', x ∈ xs → p x = true → Ex H1 H' → ∀ Q : VK, Q (f x) H' → te ((wipe σ vs).set j (some x)) H' Q) (hd : Qd (upd H1 D (.lst ((xs.filter p).map f)))) :
    ∃ W : Nat → Nat → Hp → Prop, (∃ m, W 0 m (upd H1 D (.lst []))) ∧ ∀ i m H, W i m H →
      (J.stop i H ∧ Qd H) ∨ (J.go i H ∧ ∃ Nx : Hp → Prop, (∀ H', Nx H' → ∃ m', m' < m ∧ W (i + 1) m' H') ∧ ∀ x H', J.yld i H x H' → gName j x (wipe σ vs) H' fun σ2 H2 => wipe σ2 vs = wipe σ vs ∧ tt σ2 H2 fun b H3 =>
        if b = true then te σ2 H3 fun y H4 => ∃ acc, H4 D = some (.lst acc) ∧ acc.length < sizeLine ∧ Nx (upd H4 D (.lst (acc ++ [y]))) else Nx H3) := by
  refine lc_it w (fun i H' => H' = upd H1 D (.lst (((xs.take i).filter p).map f))) rfl (fun i H' _ h => by rw [h]; exact hG _ (Ex.new hD)) ?_ ?_
  · rintro i x H H' hi rfl ⟨rfl, hx⟩
    refine ⟨hw _, ?_⟩
    refine ht x _ (List.mem_of_getElem? hx) (Ex.new hD) _ ?_
    have e1 : (xs.take (i + 1)).filter p = (xs.take i).filter p ++ [x].filter p := by
      rw [List.take_add_one, hx, List.filter_append]
      rfl
    cases hp : p x with
    | true =>
      refine iteT (he x _ (List.mem_of_getElem? hx) hp (Ex.new hD) _ ⟨_, upd_same, ?_, ?_⟩)
      · rw [List.length_map]
        refine sz_lt (Nat.lt_of_le_of_lt (List.length_filter_le _ _) ?_)
        rw [List.length_take]
        omega
      · rw [upd_upd, e1, List.map_append]
        simp [hp]
    | false =>
      refine iteF ?_
      rw [e1]
      simp [hp]
  · rintro H rfl
    rw [List.take_length]
    exact hd
end UL

set_option Elab.async false
set_option linter.all false
set_option maxRecDepth 100000
/-! own module: `in`, an index and len of an object of an own class -/
namespace UL
open PySem PySem.Spec PyProof.Rows L2 Evl TL
section
variable {X : Cx} {CX : CXT} {k : Nat} {f C : Addr} {fd : FuncData} {ps : List Str} {sp : Sp} {E : XK}
/-- x in y, y of an own class; the answer is a truth -/
def rOwnIn (C : Addr) (neg : Bool) (sp : Sp) (E : XK) : R2 := fun x y H Q => ∃ a dx fs, y = .ref a ∧ H a = some (.ins C dx fs) ∧ sp [.ref a, x] H (fun v H' => ∃ b, v = .bl b ∧ Q (.bl (if neg then !b else b)) H') E
theorem op_ownIn (F : FnOk X.prog X.w X.K X.mg X.base CX k f fd ps sp) (hr : Room k X.A) (hs : PySem.W.findIn X.K (.ref C) "__contains__" = some (some (.ref f))) (hf : PySem.W.isFn X.K (.ref f) = true) (hb : L2.Binds X.K fd ps []) (hx : Passes CX X E) :
    OpR X (compareOp .In) (rOwnIn C false sp E) := by
  intro pins s σ H x y v u Q I rx ry h
  obtain ⟨a, dx, fs, rfl, ha, q⟩ := h
  cases ry
  obtain ⟨mA, J, _⟩ := ins_get I.hok ha
  obtain ⟨od, J, _⟩ := J.look
  obtain ⟨m, hF⟩ := I.fr
  refine PySem.W.in_K hF I.ok.mod.kin J hs hf ?_
  have r2 : Vals [V.ref a, x] [Value.ref a, v] := .cons rfl (.cons rx .nil)
  have hl : [Value.ref a, v].length = ps.length := by rw [← r2.length]; exact F.len _ _ _ _ q
  have bd := hb s [Value.ref a, v] I.kIn (by rw [List.append_nil]; exact hl)
  rw [List.append_nil] at bd
  refine wpAny_call (codeAny_mono (F.run X.A X.stack s H ⟨[.ref a, v], []⟩ [.ref a, v] [.ref a, x] _ E hr I.env0 bd r2 q) fun rr s' z => ?_)
  match rr, z with
  | .error er, z => exact hx pins σ H s er s' I z
  | .ok (.ret w), z =>
    obtain ⟨v, H', I', rv, b, rfl, q'⟩ := I.after z
    cases rv
    exact wpAny_pure ⟨V.bl b, H', I', rfl, q'⟩
  | .ok .next, z => exact False.elim z
  | .ok .brk, z => exact False.elim z
  | .ok .cont, z => exact False.elim z
theorem op_ownNotIn (F : FnOk X.prog X.w X.K X.mg X.base CX k f fd ps sp) (hr : Room k X.A) (hs : PySem.W.findIn X.K (.ref C) "__contains__" = some (some (.ref f))) (hf : PySem.W.isFn X.K (.ref f) = true) (hb : L2.Binds X.K fd ps []) (hx : Passes CX X E) :
    OpR X (compareOp .NotIn) (rOwnIn C true sp E) := by
  intro pins s σ H x y v u Q I rx ry h
  obtain ⟨a, dx, fs, rfl, ha, q⟩ := h
  cases ry
  obtain ⟨mA, J, _⟩ := ins_get I.hok ha
  obtain ⟨od, J, _⟩ := J.look
  obtain ⟨m, hF⟩ := I.fr
  refine PySem.W.notIn_K hF I.ok.mod.kin J hs hf ?_
  have r2 : Vals [V.ref a, x] [Value.ref a, v] := .cons rfl (.cons rx .nil)
  have hl : [Value.ref a, v].length = ps.length := by rw [← r2.length]; exact F.len _ _ _ _ q
  have bd := hb s [Value.ref a, v] I.kIn (by rw [List.append_nil]; exact hl)
  rw [List.append_nil] at bd
  refine wpAny_call (codeAny_mono (F.run X.A X.stack s H ⟨[.ref a, v], []⟩ [.ref a, v] [.ref a, x] _ E hr I.env0 bd r2 q) fun rr s' z => ?_)
  match rr, z with
  | .error er, z => exact hx pins σ H s er s' I z
  | .ok (.ret w), z =>
    obtain ⟨v, H', I', rv, b, rfl, q'⟩ := I.after z
    cases rv
    exact wpAny_pure ⟨V.bl (!b), H', I', rfl, q'⟩
  | .ok .next, z => exact False.elim z
  | .ok .brk, z => exact False.elim z
  | .ok .cont, z => exact False.elim z
/-- a[b], a of an own class -/
def rOwnIx (C : Addr) (sp : Sp) (E : XK) : R2 := fun x y H Q => ∃ a dx fs, x = .ref a ∧ H a = some (.ins C dx fs) ∧ sp [.ref a, y] H Q E
theorem pe_ixOwn {a b : Expr} {ta tb : TE} {pos : Pos} (F : FnOk X.prog X.w X.K X.mg X.base CX k f fd ps sp) (hr : Room (k + 1) X.A) (hs : PySem.W.findIn X.K (.ref C) "__getitem__" = some (some (.ref f))) (hi : PySem.W.fnIn X.K f = true) (hf : PySem.W.isFn X.K (.ref f) = true) (hb0 : L2.Binds X.K fd ps []) (hx : Passes CX X E)
    (ha : PE X a ta) (hb : PE X b tb) (hsl : ∀ x i, subscripted b true (.ref x) i = runValue (.builtin "lifetime.subscript" ⟨[.ref x, i], []⟩) := by intros; with_unfolding_all rfl) : PE X (.Subscript a b pos) (tOp (rOwnIx C sp E) ta tb) := by
  refine ⟨fun pins s0 σ H0 Q I h => ?_⟩
  refine Subscript_ (binT ha hb I h fun v u s x y H I rx ry q => ?_)
  obtain ⟨p, dx, fs, rfl, hp, q⟩ := q
  cases rx
  obtain ⟨mA, J, _⟩ := ins_get I.hok hp
  obtain ⟨od, J, _⟩ := J.look
  obtain ⟨m, hF⟩ := I.fr
  refine PySem.W.sub_K hF I.ok.mod.kin J hs hi hf ?_ (hsl _ _)
  have r2 : Vals [V.ref p, y] [Value.ref p, u] := .cons rfl (.cons ry .nil)
  have hl : [Value.ref p, u].length = ps.length := by rw [← r2.length]; exact F.len _ _ _ _ q
  have bd := hb0 s [Value.ref p, u] I.kIn (by rw [List.append_nil]; exact hl)
  rw [List.append_nil] at bd
  refine wpAny_call (codeAny_mono (F.run X.A.in1 X.stack s H ⟨[.ref p, u], []⟩ [.ref p, u] [.ref p, y] Q E hr.in1 I.env0.in1 bd r2 q) fun rr s' z => ?_)
  match rr, z with
  | .error er, z => exact hx pins σ H s er s' I z
  | .ok (.ret w), z => exact I.after z
  | .ok .next, z => exact False.elim z
  | .ok .brk, z => exact False.elim z
  | .ok .cont, z => exact False.elim z
/-- len of an object of an own class -/
theorem call_lenOwn (F : FnOk X.prog X.w X.K X.mg X.base CX k f fd ps sp) (hr : Room (k + 1) X.A) (hs : PySem.W.findIn X.K (.ref C) "__len__" = some (some (.ref f))) (hf : PySem.W.isFn X.K (.ref f) = true) (hb : L2.Binds X.K fd ps []) (hx : Passes CX X E) :
    CallR X (.builtin "len") (fun xs H Q => ∃ a dx fs, xs = [.ref a] ∧ H a = some (.ins C dx fs) ∧ sp [.ref a] H (fun v H' => ∃ n : Int, v = .int n ∧ 0 ≤ n ∧ n < 2 ^ 63 ∧ Q (.int n) H') E) := by
  intro pins s σ H xs us Q I r h
  obtain ⟨a, dx, fs, rfl, ha, q⟩ := h
  obtain ⟨u, rfl, ru⟩ := vals1 r
  obtain rfl : u = Value.ref a := ru
  obtain ⟨mA, J, _⟩ := ins_get I.hok ha
  obtain ⟨od, J, _⟩ := J.look
  obtain ⟨m, hF⟩ := I.fr
  refine PySem.W.len_K hF I.ok.mod.kin J hs hf ?_
  have r2 : Vals [V.ref a] [Value.ref a] := .cons rfl .nil
  have hl : [Value.ref a].length = ps.length := by rw [← r2.length]; exact F.len _ _ _ _ q
  have bd := hb s [Value.ref a] I.kIn (by rw [List.append_nil]; exact hl)
  rw [List.append_nil] at bd
  refine wpAny_call (codeAny_mono (F.run X.A.in1 X.stack s H ⟨[.ref a], []⟩ [.ref a] [.ref a] _ E hr.in1 I.env0.in1 bd r2 q) fun rr s' z => ?_)
  match rr, z with
  | .error er, z => exact hx pins σ H s er s' I z
  | .ok (.ret w), z =>
    obtain ⟨v, H', I', rv, n, rfl, n0, n1, q'⟩ := I.after z
    obtain ⟨t, rfl⟩ := rv
    exact ⟨⟨n0, n1⟩, V.int n, H', I'.tok _, ⟨_, rfl⟩, q'⟩
  | .ok .next, z => exact False.elim z
  | .ok .brk, z => exact False.elim z
  | .ok .cont, z => exact False.elim z
end
end UL

set_option Elab.async false
set_option linter.all false
set_option maxRecDepth 100000
/-! own: a try with several clauses, each 'except C as n' with the same n -/
namespace UL
open PySem PySem.Spec PyProof.Rows L2 Evl TL

/-- the clauses, and what they wish together of an error of the body -/
inductive AsOk (X : Cx) (i : Nat) (n : Str) : List ExceptHandler → (WX → Ends → WX) → Prop
  | nil : AsOk X i n [] (fun W _ => W)
  | cons {y : Str} {k : Value} {su : Addr → Value → Option Addr → TS} {st : Stmt} {sts : List Stmt} {q q' : Pos} {rest : List ExceptHandler} {f : WX → Ends → WX} (cn : Names X y k)
      (run : ∀ (a : Addr) (ob : Obj) (cls : Value) (d : Option Addr) (ps : List (Addr × Obj)), Zc cls d ob → (∃ z, ob.data = .fields z) → PSs (X.suite a ((a, ob) :: ps)) (st :: sts) (su a cls d)) (tl : AsOk X i n rest f) :
      AsOk X i n (.ExceptHandler (some (.Name y q)) (some n) (st :: sts) q' :: rest) (fun W D => wAs X.K k i su (f W D) D)
section
variable {X : Cx} {n : Str} {i : Nat} {body : List Stmt} {c0 : ExceptHandler} {cs : List ExceptHandler} {f : WX → Ends → WX} {tb : WX → TS} {W0 : WX} {pos : Pos}
theorem ps_try_asMany (e1 : X.stack = X.env :: X.outer) (e2 : X.env.frame = some X.env.locals) (nd : X.N.Nodup) (at_ : X.N[i]? = some n) (lo : X.env.kindOf n = some .local) (tk : Takes X W0)
    (hb : ∀ (W : WX) (pn : List (Addr × Obj)) (xe : Value → Shared → Prop), Takes (X.tr pn xe) W → PassesOwn (model X.prog X.w) X.A X.env xe → PSs (X.tr pn xe) body (tb W)) (hc : AsOk X i n (c0 :: cs) f) :
    PS X (.Try body (c0 :: cs) [] [] pos) (fun D σ H => tb (f W0 D) D σ H) := by
  refine ⟨fun pins s σ H D I h => wpAny_Try_except ?_⟩
  have ok := I.ok
  have fr : X.A.frames = some (X.env :: X.outer) := ok.frames.trans (by rw [e1])
  refine wpAny_mono ((hb (f W0 D) (X.pn ++ pins) (fun e s₁ => wpAny (model X.prog X.w) X.A (noteFrame e X.env) (fun _ s₂ => wpAny (model X.prog X.w) X.A (setFlight e none) (fun _ s₃ =>
    wpAny (model X.prog X.w) X.A (handleBy e X.env (c0 :: cs)) (SP X pins D) X.xe s₃) X.xe s₂) X.xe s₁) (fun u t xx => ?_) PassesOwn.looking).run [] s σ H D (I.toTry _) h) (fun fl s1 q => ?_) (fun _ _ z => z)
  · obtain ⟨a, B, t0, pins1, σ1, H1, cls, d, rfl, J1, nb, up, sky, na, os, ag, wish⟩ := xx
    have J := J1.ofTry (pins := pins) ok
    show wpAny _ X.A (noteFrame (.ref a) X.env) _ _ _
    refine Sky.land Zc.steady fr e2 (by rw [← e1]; exact sky) fun h3 fl3 up3 => ?_
    have J3 := J.landed (s' := { t with heap := h3 }) nb fl3.1 (up.trans up3) os ag
    obtain ⟨o3, z3, g3, k3, d3⟩ := fl3.there
    have nfr : a ∉ frs (X.env :: X.outer) := fun hm => by
      obtain ⟨_, o4, g4, nf⟩ := fl3.2.2.1.mem hm
      rw [g3] at g4
      cases g4
      exact nf _ d3
    have nL : a ≠ X.env.locals := fun z => nfr (List.mem_filterMap.mpr ⟨X.env, List.mem_cons_self, by rw [e2, z]⟩)
    have nF : a ∉ X.fs := fun hm => by
      obtain ⟨v, hv, q⟩ := List.mem_filterMap.mp hm
      exact nfr (List.mem_filterMap.mpr ⟨v, List.mem_cons_of_mem _ hv, q⟩)
    have S3 := J3.suite g3 d3 na nL nF
    have down : ∀ {l : List ExceptHandler} {g : WX → Ends → WX}, AsOk X i n l g → g W0 D cls d σ1 H1 → wpAny (model X.prog X.w) X.A (handleBy (.ref a) X.env l) (SP X pins D) X.xe { t with heap := h3 } := by
      intro l g hl
      induction hl with
      | nil =>
        intro w
        refine wpAny_handleBy_nil ?_
        obtain ⟨_, _, _, _, _, T, _, _, gz, _, dz, slot, _⟩ := id fl3
        unfold PySem.passOn
        refine wpAny_bind (wpAny_field gz dz slot ?_)
        rw [if_neg (by simp)]
        have go : wpAny (model X.prog X.w) X.A (setFlight (.ref a) X.env.frame) (fun _ t4 => wpAny (model X.prog X.w) X.A (throw (.ref a) : Sem Flow) (SP X pins D) X.xe t4) X.xe { t with heap := h3 } := by
          rw [e2]
          exact HandSPX.setFlight_upZ fl3 fun h4 hh4 up4 => wpAny_throw (tk _ _ ⟨a, B, t0, pins, σ1, H1, cls, d, rfl, J, nb, (up.trans up3).trans up4, .inr (.inr (by rw [e1]; exact hh4)), na, os, ag, w⟩)
        first
          | exact wpAny_bind go
          | exact wpAny_bind (wpAny_pure (wpAny_bind go))
      | @cons y k su st sts q q' rest g cn run tl ih =>
        rintro ⟨b, hb1, yes, no⟩
        refine wpAny_handleBy_cons (codeAny_handlers_test ?_) (fun z => nomatch z)
        have ty : PySem.W.Looks (model X.prog X.w) h3 (typeOf (.ref a)) cls := fun A Q E s k q => wpAny_typeOf_ref (k _ _ g3) (by rw [k3.1]; exact q)
        have look := PySem.W.exm_one (M := model X.prog X.w) J3.kIn ty hb1
        have seen : ∀ {Q : Value → Shared → Prop} {E : Value → Shared → Prop}, Q k { t with heap := h3 } → wpAny (model X.prog X.w) (X.A.mark (some (.ref a))) (eval (.Name y q) X.env) Q E { t with heap := h3 } := fun {Q E} p => by
          obtain ⟨c1, c2, c3 | ⟨c3, c4, c5⟩⟩ := cn
          · exact ld_glob (X := X.suite a ((a, o3) :: (X.pn ++ pins))) S3 c1 c3 p c2
          · exact ld_blt (X := X.suite a ((a, o3) :: (X.pn ++ pins))) S3 c1 c3 c4 p c5 c2
        refine seen (look.here ?_)
        cases b with
        | false => exact ih (no rfl)
        | true =>
          refine codeAny_handlers_suite_as (HandSPX.lands_againZ fl3 fun h4 fl4 up4 => ?_)
          have J4 := J.landed (s' := { t with heap := h4 }) nb fl4.1 ((up.trans up3).trans up4) os ag
          obtain ⟨o4, z4, g4, k4, d4⟩ := fl4.there
          refine store_ok (X := X.suite a ((a, o4) :: (X.pn ++ pins))) (v := .ref a) (J4.suite g4 d4 na nL nF) nd at_ (.inl lo) rfl (fun t5 S5 => ?_) (.inr lo)
          refine wpAny_mono ((run a o4 cls d (X.pn ++ pins) k4 ⟨_, d4⟩).run [] t5 _ H1 _ S5 (yes rfl a na)) (fun fl t6 r => ?_) (fun _ _ z => z.elim)
          have fin : ∀ {σ6 : L2.St} {H6 : Hp} {Q : Shared → Prop}, Inv (X.suite a ((a, o4) :: (X.pn ++ pins))) [] σ6 H6 t6 → (∀ t7, Inv X pins (σ6.set i none) H6 t7 → Q t7) →
              wpAny (model X.prog X.w) X.A (do bindName X.env n .none; unbindBehindTheSuite X.env n q') (fun _ t7 => Q t7) X.xe t6 := fun {σ6 H6 Q} S6 p => gone_ok (S6.unsuite ok) nd at_ lo p
          cases fl with
          | ret u =>
            obtain ⟨v, σ6, H6, S6, rv, p⟩ := r
            exact fin S6 fun t7 J7 => ⟨v, _, _, J7, rv, p⟩
          | next =>
            obtain ⟨σ6, H6, S6, p⟩ := r
            exact fin S6 fun t7 J7 => ⟨_, _, J7, p⟩
          | brk =>
            obtain ⟨σ6, H6, S6, p⟩ := r
            exact fin S6 fun t7 J7 => ⟨_, _, J7, p⟩
          | cont =>
            obtain ⟨σ6, H6, S6, p⟩ := r
            exact fin S6 fun t7 J7 => ⟨_, _, J7, p⟩
    exact down hc wish
  · cases fl with
    | ret u =>
      obtain ⟨v, σ1, H1, J, rv, p⟩ := q
      exact ⟨v, _, _, J.ofTry ok, rv, p⟩
    | next =>
      obtain ⟨σ1, H1, J, p⟩ := q
      exact wpAny_execs_nil ⟨_, _, J.ofTry ok, p⟩
    | brk =>
      obtain ⟨σ1, H1, J, p⟩ := q
      exact ⟨_, _, J.ofTry ok, p⟩
    | cont =>
      obtain ⟨σ1, H1, J, p⟩ := q
      exact ⟨_, _, J.ofTry ok, p⟩
end
end UL

set_option Elab.async false
set_option linter.all false
set_option maxRecDepth 100000
/-! own: defs with a star, C() of such a class, an index in a try, iter of a tuple, list of an object whose __iter__ hands out such an iterator and that has a length -/
namespace UL
open PySem PySem.Spec PyProof.Rows L2 Evl TL

/-! ### a def with one parameter and a star -/
section
variable {P : Program} {w : World} {K : PySem.W.Frag} {mg : Str → Option Value} {base : Heap} {x qual : Str} {st : Stmt} {f : Addr} {fd : FuncData} {N : List Str} {a b : Str} {k : Nat} {sp : Sp}
/-- what the caller promises, from what the body wants -/
def spStar (sp : Sp) : Sp := fun vs H Q E => ∃ v rest, vs = v :: rest ∧ rest.length ≤ 1000 ∧ ∀ p, H p = none → sp [v, .ref p] (upd H p (.tup rest)) Q E
theorem starFn (F : L2.Fun K x qual st f fd) (S : FnScope N [a, b] (defScope st))
    (h0 : ∀ (kV doc pm : Value) (an : Option Addr) (cdv ct : Value) (v : Value), bindArgs (PySem.W.fnOf x qual (defArgs st) (defBody st) (defScope st) .none kV doc pm an cdv ct) ⟨[v], []⟩ = (newTuple [] >>= fun t => pure [(a, v), (b, t)]))
    (h1 : ∀ (kV doc pm : Value) (an : Option Addr) (cdv ct : Value) (v r : Value) (rs : List Value), bindArgs (PySem.W.fnOf x qual (defArgs st) (defBody st) (defScope st) .none kV doc pm an cdv ct) ⟨v :: r :: rs, []⟩ = (newTuple (r :: rs) >>= fun t => pure [(a, v), (b, t)]))
    (body : ∀ (cdv : Value) (A : Around) (outer : List Env) (s : Shared) (H : Hp) (vs : List V) (Q : VK) (E : XK), Room k (A.deeper (envOfC qual (defScope st) s.heap.objs.size f cdv)) → sp vs H Q E →
      ∃ t, PSs (cxOf (L2.CX P w) P w K mg base N qual (defScope st) f cdv A outer s H E) (defBody st) t ∧ t { nx := fun _ H' => Q .non H', rt := Q } (start N vs) H) : FnR P w K mg base (L2.CX P w) (k + 1) f (spStar sp) := by
  obtain ⟨oc, od, kV, doc, pm, an, cdv, ct, osl, rfl, lk, code⟩ := F.ex
  have R := StX.fn_star (ps := [a]) (pv := b) lk code S StX.cxUp (fun us rest hl => StX.bind_star1 (B := fun zs => bindArgs (PySem.W.fnOf x qual (defArgs st) (defBody st) (defScope st) .none kV doc pm an cdv ct) ⟨zs, []⟩) (h0 kV doc pm an cdv ct) (h1 kV doc pm an cdv ct) us rest hl) fun A outer s H vs Q E hr h => body cdv A outer s H vs Q E hr h
  refine R.imp fun vs H Q E h => ?_
  obtain ⟨v, rest, rfl, hz, q⟩ := h
  exact ⟨[v], rest, rfl, rfl, Nat.le_trans hz (by decide), q⟩
end
section
variable {X : Cx} {CX : CXT} {k : Nat} {f C : Addr} {sp : Sp} {E : XK} {x : Str} {p pos : Pos}
/-- C() -/
theorem pe_makeR0 (M : Mk X.K C f) (F : FnR X.prog X.w X.K X.mg X.base CX k f sp) (room : Room (k + 1) X.A) (g1 : Gl X x) (g2 : X.mg x = some (.ref C)) (out : Passes CX X E) (g3 : (x == ("__debug__" : Str)) = false := by decide) :
    PE X (.Call (.Name x p) [] [] pos) (StX.tMakeR C sp E tNil) :=
  ⟨fun pins s σ H Q I h => wpAny_Call_Name_kw (ld_glob I g1 g2 (PySem.W.callWith_K0 I.kIn M.kp (StX.run_makeR M F room out I .nil h)) g3)⟩
end

/-! ### a[b] of an own class where what is raised is wished for at the slots -/
def tIxOwnS (C : Addr) (sp : Sp) (E : L2.St → XK) (ta tb : TE) : TE := fun σ H Q => ta σ H fun x H1 => tb σ H1 fun y H2 => rOwnIx C sp (E σ) x y H2 Q
section
variable {X : Cx} {CX : CXT} {k : Nat} {f C : Addr} {fd : FuncData} {ps : List Str} {sp : Sp} {E : L2.St → XK}
theorem pe_ixOwnS {a b : Expr} {ta tb : TE} {pos : Pos} (F : FnOk X.prog X.w X.K X.mg X.base CX k f fd ps sp) (hr : Room (k + 1) X.A) (hs : PySem.W.findIn X.K (.ref C) "__getitem__" = some (some (.ref f))) (hi : PySem.W.fnIn X.K f = true) (hf : PySem.W.isFn X.K (.ref f) = true) (hb0 : L2.Binds X.K fd ps []) (out : ∀ σ, PassesAt CX X σ (E σ))
    (ha : PE X a ta) (hb : PE X b tb) (hsl : ∀ x i, subscripted b true (.ref x) i = runValue (.builtin "lifetime.subscript" ⟨[.ref x, i], []⟩) := by intros; with_unfolding_all rfl) : PE X (.Subscript a b pos) (tIxOwnS C sp E ta tb) := by
  refine ⟨fun pins s0 σ H0 Q I h => ?_⟩
  have h' : tOp (rOwnIx C sp (E σ)) ta tb σ H0 Q := h
  refine Subscript_ (binT ha hb I h' fun v u s x y H I rx ry q => ?_)
  obtain ⟨p, dx, fs, rfl, hp, q⟩ := q
  cases rx
  obtain ⟨_, J, _⟩ := ins_get I.hok hp
  obtain ⟨_, J, _⟩ := J.look
  obtain ⟨m, fr⟩ := I.fr
  refine PySem.W.sub_K fr I.ok.mod.kin J hs hi hf ?_ (hsl _ _)
  have r2 : Vals [V.ref p, y] [Value.ref p, u] := .cons rfl (.cons ry .nil)
  have n2 : [Value.ref p, u].length = ps.length := r2.length.symm.trans (F.len _ _ _ _ q)
  have bd := hb0 s [Value.ref p, u] I.kIn (by rw [List.append_nil]; exact n2)
  rw [List.append_nil] at bd
  refine wpAny_call (codeAny_mono (F.run X.A.in1 X.stack s H ⟨[.ref p, u], []⟩ [.ref p, u] [.ref p, y] Q (E σ) hr.in1 I.env0.in1 bd r2 q) fun rr s' z => ?_)
  match rr, z with
  | .error er, z => exact out σ pins H s er s' I z
  | .ok (.ret w), z => exact I.after z
  | .ok .next, z => exact False.elim z
  | .ok .brk, z => exact False.elim z
  | .ok .cont, z => exact False.elim z
end

/-- what leaves a call leaves the def, too -/
theorem passX {X : Cx} {E : XK} (tk : Takes X fun cls d _ H => E cls d H) : Passes (L2.CX X.prog X.w) X E := fun pins σ H s e s' I c => passAt (W := fun cls d _ H => E cls d H) tk σ pins H s e s' I c

/-! ### iter of a tuple -/
def ItTup (t it : Addr) (i : Nat) : HO := .ext fun h => h.IsTupleIter it t i
theorem itTup_ok {P : Program} {w : World} {H : Hp} {h : Heap} {t it : Addr} {i : Nat} (e : h.IsTupleIter it t i) : ObjOk P w H h it (ItTup t it i) :=
  ⟨e, let ⟨o, ho, _⟩ := e; ⟨o, ho⟩, fun _ _ ⟨o, ho, r⟩ k => ⟨o, k _ ho, r⟩⟩
section
variable {X : Cx}
def rIterT (K : PySem.W.Frag) : List V → Hp → VK → Prop := fun xs H Q => ∃ t zs, xs = [.ref t] ∧ SqT K H t zs ∧ ∀ it, H it = none → Q (.ref it) (upd H it (ItTup t it 0))
theorem call_iterT : CallR X (.builtin "iter") (rIterT X.K) := by
  intro pins s σ H xs us Q I r h
  obtain ⟨t, zs, rfl, hq, q⟩ := h
  obtain ⟨u, rfl, ru⟩ := vals1 r
  cases ru
  obtain ⟨its, rv, pl, hz⟩ := I.tuple hq
  refine Calls.call_function_entry (by decide +kernel) (by decide +kernel) PySem.W.kdk_entry_iter (PySem.W.kdk_args_iter _) ?_
  unfold Builtin.«iter»
  refine wpAny_bind (m := someArgs "iter" 1 2 _) (wpAny_of_eq (a := [Value.ref t]) (by first | rfl | kernel_rfl!) ?_)
  show wpAny _ _ (pyIter (.ref t) >>= _) _ _ s
  refine wpAny_bind (wpAny_pyIter_tuple pl (wpAny_pure ⟨_, rfl, ?_⟩))
  exact ⟨.ref s.heap.objs.size, _, I.laid (t' := s.toks) (fun _ _ e => Heap.get?_push_of_some _ e) (Nat.le_refl _) (itTup_ok ⟨_, Heap.get?_push_size _ rfl, rfl, rfl⟩), rfl, q _ (I.hok.fresh (Nat.le_refl _))⟩
end

/-! ### list of such an object -/
structure ItL (K : PySem.W.Frag) (C fi fl : Addr) : Prop where
  it : PySem.W.findIn K (.ref C) "__iter__" = some (some (.ref fi))
  itF : PySem.W.isFn K (.ref fi) = true
  ln : PySem.W.findIn K (.ref C) "__len__" = some (some (.ref fl))
  lnF : PySem.W.isFn K (.ref fl) = true
section
variable {X : Cx} {pins : List (Addr × Obj)} {σ : L2.St} {H : Hp} {s : Shared} {A1 : Around} {t it q : Addr} {zs : List V}
/-- the turns: the iterator hands out what is left, the list grows -/
theorem itT_loop {R : Result → Shared → Prop} (calm : A1.in1.handled = none) (ex0 : X.ex = []) (hz : zs.length ≤ sizeLine) (nq : it ≠ q) (old : Fr0 X.H_0 it)
    (fin : ∀ (H' : Hp) s', Inv X pins σ (delH H' it) s' → H' q = some (.lst zs) → (∀ b, b ≠ it → b ≠ q → H' b = H b) → R (.ok (.ret .none)) s') :
    ∀ (n i : Nat) (H' : Hp) (s' : Shared), zs.length - i = n → i ≤ zs.length → Inv X pins σ H' s' → H' it = some (ItTup t it i) → H' q = some (.lst (zs.take i)) → SqT X.K H' t zs → t ≠ it → t ≠ q → (∀ b, b ≠ it → b ≠ q → H' b = H b) →
      codeAny (model X.prog X.w) A1 (.builtin "list.extend.loop" ⟨[.ref q, .ref it, .none], []⟩) R s' := by
  intro n
  induction n with
  | zero =>
    intro i H' s' hn hi I hit hq ht n1 n2 same
    obtain rfl : i = zs.length := by omega
    refine codeAny_builtin PySem.F.entry_extend_loop ?_
    rw [Around.under_plainId PySem.F.plain_extend_loop _]
    show wpAny _ A1.in1 (pyNext (.ref it) >>= _) _ _ s'
    obtain ⟨its, rv, pl, _⟩ := I.tuple ht
    refine wpAny_bind (wpAny_pyNext_tuple_end calm (I.hok it _ hit).1 pl (by rw [List.getElem?_toArray]; exact rv.none_of (List.getElem?_eq_none (Nat.le_refl _))) fun h' eb => ?_)
    obtain ⟨G, g1, g2, J⟩ := I.untrack hit old ex0
    have J2 : Inv X pins σ (delH H' it) { s' with heap := h' } := J.kept (h' := h') (t' := s'.toks) fun b o e => eb b o (fun z => by rw [z, g2] at e; cases e) (g1 b o e)
    exact wpAny_pure (fin H' _ J2 (by rw [hq, List.take_length]) same)
  | succ n ih =>
    intro i H' s' hn hi I hit hq ht n1 n2 same
    have hlt : i < zs.length := by omega
    refine codeAny_builtin PySem.F.entry_extend_loop ?_
    rw [Around.under_plainId PySem.F.plain_extend_loop _]
    show wpAny _ A1.in1 (pyNext (.ref it) >>= _) _ _ s'
    obtain ⟨its, rv, pl, _⟩ := I.tuple ht
    obtain ⟨u, hu, ru⟩ := rv.get (List.getElem?_eq_getElem hlt)
    refine wpAny_bind (wpAny_pyNext_tuple_item (I.hok it _ hit).1 pl (by rw [List.getElem?_toArray]; exact hu) fun h' e' sb => ?_)
    have J : Inv X pins σ (upd H' it (ItTup t it (i + 1))) { s' with heap := h' } := I.write (x := it) (e := it) (t' := s'.toks) (by rw [hit]; exact True.intro) (.inl rfl) (fun b o nb z => (sb.2 b nb).trans z) (let ⟨o, ho, _⟩ := e'; ⟨o, ho⟩) (itTup_ok e')
    have hq2 : upd H' it (ItTup t it (i + 1)) q = some (.lst (zs.take i)) := by rw [upd_ne (Ne.symm nq)]; exact hq
    obtain ⟨z, ls, k, r2, hl, e⟩ := J.lstM hq2
    have len : zs.take i = zs.take i := rfl
    have hl2 : (zs.take i).length = i := by rw [List.length_take]; omega
    have nx : zs.take i ++ [zs[i]] = zs.take (i + 1) := by rw [List.take_add_one, List.getElem?_eq_getElem hlt]; rfl
    show wpAny _ A1.in1 (updateSeq q (·.push u) >>= _) _ _ _
    refine wpAny_bind (wpAny_updateSeq e rfl (wpAny_pure ⟨plainId_quiet PySem.F.plain_extend_loop _, ?_⟩) (by rw [List.size_toArray]; omega) (by show (ls.toArray.push u).size ≤ sizeLine + 1; rw [Array.size_push, List.size_toArray]; omega))
    have J2 := J.lset (f := (·.push u)) (its' := ls ++ [u]) (ys := zs.take (i + 1)) (t' := s'.toks) hq2 e (by simp) (by rw [← nx]; exact r2.append (.cons ru .nil)) (by rw [List.length_take]; omega)
    refine ih (i + 1) _ _ (by omega) (by omega) J2 ?_ upd_same ?_ n1 n2 ?_
    · rw [upd_ne nq, upd_same]
    · rcases ht with (h | ⟨o, h⟩) | h
      · exact .inl (.inl (by rw [upd_ne n2, upd_ne n1]; exact h))
      · exact .inl (.inr ⟨o, by rw [upd_ne n2, upd_ne n1]; exact h⟩)
      · exact .inr h
    · intro b b1 b2
      rw [upd_ne b2, upd_ne b1]
      exact same b b1 b2
end
section
variable {X : Cx} {pins : List (Addr × Obj)} {σ : L2.St} {H : Hp} {s : Shared} {CI : CXT} {C fi fl a : Addr} {fdI fdL : FuncData} {psI psL : List Str} {spI spL : Sp} {EI EL : XK} {n : Nat} {A1 : Around}
/-- below the running body: the environment of a call -/
theorem env0_sub (sb : Sub X n A1) (I : Inv X pins σ H s) : Env0 X.prog X.w X.K X.mg X.base A1 X.stack s H := by
  have e := I.env0
  exact ⟨sb.fr.trans e.frames, e.mod, e.bs, e.bsz, e.funs, e.frf, e.hok, e.bare⟩
/-- the length is asked for: whatever is said of it -/
theorem lenHint {Q : Bool → Shared → Prop} {dx : Addr} {fs : List (Str × V)} {m : Int} (sb : Sub X n A1.in1) (hc : ItL X.K C fi fl) (FL : FnOk X.prog X.w X.K X.mg X.base CX0 n fl fdL psL spL) (bL : L2.Binds X.K fdL psL []) 
    (I : Inv X pins σ H s) (ha : H a = some (.ins C dx fs)) (hm : 0 ≤ m ∧ m ≤ 1000) (hsp : spL [.ref a] H (fun v H' => v = .int m ∧ H' = H) EL) (k : ∀ b s', Inv X pins σ H s' → Q b s') :
    wpAny (model X.prog X.w) A1 (Builtin.List.listLengthHint (.ref a)) Q X.xe s := by
  obtain ⟨_, J, _⟩ := ins_get I.hok ha
  obtain ⟨_, J, _⟩ := J.look
  obtain ⟨_, fr⟩ := I.fr
  unfold Builtin.List.listLengthHint
  refine wpAny_bind (wpAny_bind (J.type.here ((PySem.W.looks_findIn I.kIn hc.ln).here ?_)))
  refine PySem.W.KFB.if_not rfl ?_
  refine wpAny_ite_split (fun _ => ?_) (fun z => absurd rfl z)
  refine wpAny_bind (wpAny_rule (wpAny_bind (wpAny_attempt (PySem.W.len_K fr I.ok.mod.kin J hc.ln hc.lnF ?_))))
  have r2 : Vals [V.ref a] [Value.ref a] := .cons rfl .nil
  have n2 : [Value.ref a].length = psL.length := r2.length.symm.trans (FL.len _ _ _ _ hsp)
  have bd := bL s [Value.ref a] I.kIn (by rw [List.append_nil]; exact n2)
  rw [List.append_nil] at bd
  refine wpAny_call (codeAny_mono (FL.run A1.in1 X.stack s H ⟨[.ref a], []⟩ [.ref a] [.ref a] _ EL sb.room (env0_sub sb I) bd r2 hsp) fun rr s' z => ?_)
  match rr, z with
  | .error er, z => exact False.elim z
  | .ok (.ret w), z =>
    obtain ⟨v, H', I', rv, rfl, rfl⟩ := I.after z
    obtain ⟨t, rfl⟩ := rv
    refine ⟨⟨hm.1, by omega⟩, ?_⟩
    refine wpAny_bind (wpAny_pure ?_)
    refine wpAny_ite_split (fun z => ?_) (fun _ => wpAny_pure (k _ _ (I'.tok _)))
    rw [notLongL (Nat.le_trans (by omega : m.toNat ≤ 1000) (by decide))] at z
    cases z
  | .ok .next, z => exact False.elim z
  | .ok .brk, z => exact False.elim z
  | .ok .cont, z => exact False.elim z
/-- what list(o) asks: the two methods' promises, at any heap that has all that stands now -/
def rListOwnT (K : PySem.W.Frag) (H0 : Hp) (C : Addr) (spI spL : Sp) (EI EL : XK) : List V → Hp → VK → Prop := fun xs H Q => ∃ a dx fs t zs, xs = [.ref a] ∧ H a = some (.ins C dx fs) ∧ H t = some (.tup zs) ∧ zs.length ≤ 1000 ∧
  (∀ H', Ex H H' → spI [.ref a] H' (fun v H2 => ∃ it, v = .ref it ∧ H' it = none ∧ Fr0 H0 it ∧ H2 = upd H' it (ItTup t it 0)) EI) ∧ (∀ H', Ex H H' → spL [.ref a] H' (fun v H2 => v = .int (zs.length : Int) ∧ H2 = H') EL) ∧ ∀ q, H q = none → Q (.ref q) (upd H q (.lst zs))
theorem call_listOwnT (calm : X.calm = true) (ex0 : X.ex = []) (hc : ItL X.K C fi fl) (FI : FnOk X.prog X.w X.K X.mg X.base CX0 n fi fdI psI spI) (bI : L2.Binds X.K fdI psI []) (FL : FnOk X.prog X.w X.K X.mg X.base CX0 n fl fdL psL spL) (bL : L2.Binds X.K fdL psL []) (room : Room (n + 3) X.A) :
    CallR X (.type "list") (rListOwnT X.K X.H_0 C spI spL EI EL) := by
  intro pins s σ H xs us Q I rv h
  obtain ⟨a, dx, fs, t, zs, rfl, ha, ht, hz, hI, hL, hq⟩ := h
  obtain ⟨u, rfl, ru⟩ := rv.one
  cases ru
  have sb3 : Sub X (n + 3) X.A := ⟨room, rfl⟩
  have sb1 : Sub X (n + 1) X.A.in1.in1 := sb3.in1.in1
  have sb0 : Sub X n X.A.in1.in1.in1 := sb1.in1
  have fr : H s.heap.objs.size = none := I.hok.fresh (Nat.le_refl _)
  generalize eq : s.heap.objs.size = q at fr
  refine callType_codes (Q₁ := fun ob s1 => ob = .ref s.heap.objs.size ∧ s1 = { s with heap := s.heap.push { cls := .type "list", data := .seq #[] } }) PySem.F.called_list (PySem.F.typeCall_list_1 _) PySem.F.entry_list_init (code_list_new _ ⟨rfl, rfl⟩) fun ob s1 e1 => ?_
  obtain ⟨rfl, rfl⟩ := e1
  have g0 : (s.heap.push { cls := .type "list", data := .seq #[] }).get? s.heap.objs.size = some { cls := .type "list", data := .seq #[] } := Heap.get?_push_size _ rfl
  refine ⟨⟨_, g0, rfl⟩, PySem.F.args_list_init_2 _ _, ?_⟩
  have I1 : Inv X pins σ (upd H s.heap.objs.size (.lst [])) { s with heap := s.heap.push { cls := .type "list", data := .seq #[] } } := I.lnew (its := []) (t' := s.toks) .nil (Nat.zero_le _)
  show wpAny _ _ (do let old ← Builtin.List.listItems (.ref s.heap.objs.size); Builtin.List.listUpdate (.ref s.heap.objs.size) (fun _ => #[]); letGo old.toList.reverse; Builtin.List.listExtendWith (.ref s.heap.objs.size) (.ref a) .none) _ _ _
  unfold Builtin.List.listItems
  refine wpAny_bind (wpAny_bind (wpAny_seqItems g0 rfl (wpAny_pure ?_)))
  have I2 := I1.lset (f := fun _ => #[]) (its := []) (its' := []) (ys := []) (t' := s.toks) upd_same g0 rfl .nil (Nat.zero_le _)
  rw [upd_upd] at I2
  show wpAny _ _ (updateSeq s.heap.objs.size (fun _ => #[]) >>= fun _ => letGo (#[] : Array Value).toList.reverse >>= fun _ => Builtin.List.listExtendWith (.ref s.heap.objs.size) (.ref a) .none) _ _ _
  refine wpAny_bind (wpAny_updateSeq g0 rfl (wpAny_bind (wpAny_letGo ?_)))
  rw [eq] at I2 ⊢
  have ex : Ex H (upd H q (.lst [])) := Ex.new fr
  have ha2 := ex _ _ ha
  have nqa : q ≠ a := fun z => by rw [← z, fr] at ha; cases ha
  obtain ⟨_, J, _⟩ := ins_get I2.hok ha2
  obtain ⟨_, J, _⟩ := J.look
  obtain ⟨_, frm⟩ := I2.fr
  unfold Builtin.List.listExtendWith
  refine wpAny_bind (J.type.here ?_)
  have b1 : Builtin.List.listSameRef (.ref q) (.ref a) = false := by simp [Builtin.List.listSameRef, nqa]
  have b2 : (Value.ref C == Value.type "list") = false := rfl
  have b3 : (Value.ref C == Value.type "tuple") = false := rfl
  simp only [b1, b2, b3, Bool.or_false, Bool.false_eq_true, if_false]
  refine wpAny_bind (PySem.W.owit_iter frm I2.ok.mod.kin J hc.it hc.itF ?_)
  have q1 := hI _ ex
  have r2 : Vals [V.ref a] [Value.ref a] := .cons rfl .nil
  have n2 : [Value.ref a].length = psI.length := r2.length.symm.trans (FI.len _ _ _ _ q1)
  have bd := bI _ [Value.ref a] I2.kIn (by rw [List.append_nil]; exact n2)
  rw [List.append_nil] at bd
  refine wpAny_call (codeAny_mono (FI.run X.A.in1.in1 X.stack _ _ ⟨[.ref a], []⟩ [.ref a] [.ref a] _ EI (sb1.mono (Nat.le_succ n)).room (env0_sub (sb1.mono (Nat.le_succ n)) I2) bd r2 q1) fun rr s' z => ?_)
  match rr, z with
  | .error er, z => exact False.elim z
  | .ok .next, z => exact False.elim z
  | .ok .brk, z => exact False.elim z
  | .ok .cont, z => exact False.elim z
  | .ok (.ret w), z =>
    obtain ⟨v, H', I3, rv, it, rfl, hit, old, rfl⟩ := I2.after z
    cases rv
    have nit : it ≠ q := fun z => by rw [z, upd_same] at hit; cases hit
    have hitH : H it = none := by rw [upd_ne nit] at hit; exact hit
    have ex3 : Ex (upd H q (.lst [])) (upd (upd H q (.lst [])) it (ItTup t it 0)) := Ex.new hit
    have hT : s'.TypeIs (.ref it) "tuple_iterator" := by
      obtain ⟨o, ho, hc, _⟩ := (I3.hok it _ upd_same).1
      exact ⟨o, ho, hc⟩
    unfold PySem.W.OwitIt
    refine wpAny_specialOf hT PySem.F.slot_tuple_iterator_next.lookup ?_
    refine wpAny_bind (wpAny_holding (lenHint (m := (zs.length : Int)) sb0 hc FL bL I3 (ex3 _ _ ha2) ⟨by omega, by omega⟩ (hL _ (ex.trans ex3)) fun b s4 I4 => ?_))
    have nta : t ≠ it ∧ t ≠ q := ⟨ne_of_none ht hitH, ne_of_none ht fr⟩
    have go : ∀ s5, Inv X pins σ (upd (upd H q (.lst [])) it (ItTup t it 0)) s5 → codeAny (model X.prog X.w) X.A.in1 (.builtin "list.extend.loop" ⟨[.ref q, .ref it, .none], []⟩) (wants (fun r s₂ => r = .none ∧ EP X pins σ Q (.ref q) s₂) X.xe) s5 := fun s5 I5 => by
      refine itT_loop (A1 := X.A.in1) (R := wants (fun r s₂ => r = .none ∧ EP X pins σ Q (.ref q) s₂) X.xe) (H := upd H q (.lst [])) (show X.A.in1.in1.handled = none from I.ok.hd calm) ex0 (by rw [sizeLine_eq]; omega) nit old (fun H6 s6 I6 e6 k6 => ⟨rfl, .ref q, _, I6, rfl, ?_⟩) zs.length 0 _ s5 rfl (Nat.zero_le _) I5 upd_same ?_ ?_ nta.1 nta.2 (fun b b1 b2 => by rw [upd_ne b1])
      · have e : delH H6 it = upd H q (.lst zs) := by
          funext b
          by_cases h1 : b = it
          · rw [h1, upd_ne nit, hitH]
            exact if_pos rfl
          · rw [show delH H6 it b = H6 b from if_neg h1]
            by_cases h2 : b = q
            · rw [h2, upd_same, e6]
            · rw [k6 b h1 h2, upd_ne h2, upd_ne h2]
        rw [e]
        exact hq q fr
      · rw [upd_ne (Ne.symm nit), upd_same]
        rfl
      · exact SqT.of ((ex.trans ex3) _ _ ht)
    have h4q : upd (upd H q (.lst [])) it (ItTup t it 0) q = some (.lst []) := by rw [upd_ne (Ne.symm nit), upd_same]
    refine wpAny_ite_split (fun _ => ?_) (fun _ => wpAny_pure ⟨plainId_quiet PySem.F.plain_extend_loop _, go s4 I4⟩)
    refine wpAny_bind (wpAny_rule (wpAny_bind ?_))
    show wpAny _ _ (updateSeq q (·.push .none) >>= fun _ => updateSeq q (·.pop)) _ _ _
    obtain ⟨_, ls, k, r5, _, g5⟩ := I4.lstM h4q
    cases r5
    refine wpAny_bind (wpAny_updateSeq g5 rfl ?_)
    have I6 := I4.lset (f := (·.push Value.none)) (its' := [Value.none]) (ys := [.non]) (t' := s4.toks) h4q g5 (by simp) (.cons rfl .nil) (by rw [List.length_singleton, sizeLine_eq]; decide)
    obtain ⟨_, ls6, k6, r6, _, g6⟩ := I6.lstM upd_same
    obtain ⟨u6, rfl, _⟩ := r6.one
    refine wpAny_updateSeq g6 rfl ?_ (by show 1 ≤ sizeLine; rw [sizeLine_eq]; decide) (by show 0 ≤ sizeLine + 1; exact Nat.zero_le _)
    have I7 := I6.lset (f := (·.pop)) (its := [u6]) (its' := []) (ys := []) (t' := s4.toks) upd_same g6 (by rfl) .nil (Nat.zero_le _)
    rw [upd_upd, upd_id h4q] at I7
    exact wpAny_pure ⟨plainId_quiet PySem.F.plain_extend_loop _, go _ I7⟩
end
/-! ### lists by their length -/
theorem len1 {α : Type} {xs : List α} (h : xs.length = 1) : ∃ a0, xs = [a0] := by
  obtain ⟨a0, t0, rfl⟩ := List.exists_cons_of_length_eq_add_one h; have h1 := Nat.succ.inj h
  obtain rfl := List.eq_nil_of_length_eq_zero h1
  exact ⟨_, rfl⟩
theorem len2 {α : Type} {xs : List α} (h : xs.length = 2) : ∃ a0 a1, xs = [a0, a1] := by
  obtain ⟨a0, t0, rfl⟩ := List.exists_cons_of_length_eq_add_one h; have h1 := Nat.succ.inj h; obtain ⟨a1, t1, rfl⟩ := List.exists_cons_of_length_eq_add_one h1; have h2 := Nat.succ.inj h1
  obtain rfl := List.eq_nil_of_length_eq_zero h2
  exact ⟨_, _, rfl⟩
theorem len3 {α : Type} {xs : List α} (h : xs.length = 3) : ∃ a0 a1 a2, xs = [a0, a1, a2] := by
  obtain ⟨a0, t0, rfl⟩ := List.exists_cons_of_length_eq_add_one h; have h1 := Nat.succ.inj h; obtain ⟨a1, t1, rfl⟩ := List.exists_cons_of_length_eq_add_one h1; have h2 := Nat.succ.inj h1; obtain ⟨a2, t2, rfl⟩ := List.exists_cons_of_length_eq_add_one h2; have h3 := Nat.succ.inj h2
  obtain rfl := List.eq_nil_of_length_eq_zero h3
  exact ⟨_, _, _, rfl⟩
theorem len4 {α : Type} {xs : List α} (h : xs.length = 4) : ∃ a0 a1 a2 a3, xs = [a0, a1, a2, a3] := by
  obtain ⟨a0, t0, rfl⟩ := List.exists_cons_of_length_eq_add_one h; have h1 := Nat.succ.inj h; obtain ⟨a1, t1, rfl⟩ := List.exists_cons_of_length_eq_add_one h1; have h2 := Nat.succ.inj h1; obtain ⟨a2, t2, rfl⟩ := List.exists_cons_of_length_eq_add_one h2; have h3 := Nat.succ.inj h2; obtain ⟨a3, t3, rfl⟩ := List.exists_cons_of_length_eq_add_one h3; have h4 := Nat.succ.inj h3
  obtain rfl := List.eq_nil_of_length_eq_zero h4
  exact ⟨_, _, _, _, rfl⟩
theorem len5 {α : Type} {xs : List α} (h : xs.length = 5) : ∃ a0 a1 a2 a3 a4, xs = [a0, a1, a2, a3, a4] := by
  obtain ⟨a0, t0, rfl⟩ := List.exists_cons_of_length_eq_add_one h; have h1 := Nat.succ.inj h; obtain ⟨a1, t1, rfl⟩ := List.exists_cons_of_length_eq_add_one h1; have h2 := Nat.succ.inj h1; obtain ⟨a2, t2, rfl⟩ := List.exists_cons_of_length_eq_add_one h2; have h3 := Nat.succ.inj h2; obtain ⟨a3, t3, rfl⟩ := List.exists_cons_of_length_eq_add_one h3; have h4 := Nat.succ.inj h3; obtain ⟨a4, t4, rfl⟩ := List.exists_cons_of_length_eq_add_one h4; have h5 := Nat.succ.inj h4
  obtain rfl := List.eq_nil_of_length_eq_zero h5
  exact ⟨_, _, _, _, _, rfl⟩
theorem len12 {α : Type} {xs : List α} (h : xs.length = 12) : ∃ a0 a1 a2 a3 a4 a5 a6 a7 a8 a9 a10 a11, xs = [a0, a1, a2, a3, a4, a5, a6, a7, a8, a9, a10, a11] := by
  obtain ⟨a0, t0, rfl⟩ := List.exists_cons_of_length_eq_add_one h; have h1 := Nat.succ.inj h; obtain ⟨a1, t1, rfl⟩ := List.exists_cons_of_length_eq_add_one h1; have h2 := Nat.succ.inj h1; obtain ⟨a2, t2, rfl⟩ := List.exists_cons_of_length_eq_add_one h2; have h3 := Nat.succ.inj h2; obtain ⟨a3, t3, rfl⟩ := List.exists_cons_of_length_eq_add_one h3; have h4 := Nat.succ.inj h3; obtain ⟨a4, t4, rfl⟩ := List.exists_cons_of_length_eq_add_one h4; have h5 := Nat.succ.inj h4; obtain ⟨a5, t5, rfl⟩ := List.exists_cons_of_length_eq_add_one h5; have h6 := Nat.succ.inj h5; obtain ⟨a6, t6, rfl⟩ := List.exists_cons_of_length_eq_add_one h6; have h7 := Nat.succ.inj h6; obtain ⟨a7, t7, rfl⟩ := List.exists_cons_of_length_eq_add_one h7; have h8 := Nat.succ.inj h7; obtain ⟨a8, t8, rfl⟩ := List.exists_cons_of_length_eq_add_one h8; have h9 := Nat.succ.inj h8; obtain ⟨a9, t9, rfl⟩ := List.exists_cons_of_length_eq_add_one h9; have h10 := Nat.succ.inj h9; obtain ⟨a10, t10, rfl⟩ := List.exists_cons_of_length_eq_add_one h10; have h11 := Nat.succ.inj h10; obtain ⟨a11, t11, rfl⟩ := List.exists_cons_of_length_eq_add_one h11; have h12 := Nat.succ.inj h11
  obtain rfl := List.eq_nil_of_length_eq_zero h12
  exact ⟨_, _, _, _, _, _, _, _, _, _, _, _, rfl⟩
theorem len13 {α : Type} {xs : List α} (h : xs.length = 13) : ∃ a0 a1 a2 a3 a4 a5 a6 a7 a8 a9 a10 a11 a12, xs = [a0, a1, a2, a3, a4, a5, a6, a7, a8, a9, a10, a11, a12] := by
  obtain ⟨a0, t0, rfl⟩ := List.exists_cons_of_length_eq_add_one h; have h1 := Nat.succ.inj h; obtain ⟨a1, t1, rfl⟩ := List.exists_cons_of_length_eq_add_one h1; have h2 := Nat.succ.inj h1; obtain ⟨a2, t2, rfl⟩ := List.exists_cons_of_length_eq_add_one h2; have h3 := Nat.succ.inj h2; obtain ⟨a3, t3, rfl⟩ := List.exists_cons_of_length_eq_add_one h3; have h4 := Nat.succ.inj h3; obtain ⟨a4, t4, rfl⟩ := List.exists_cons_of_length_eq_add_one h4; have h5 := Nat.succ.inj h4; obtain ⟨a5, t5, rfl⟩ := List.exists_cons_of_length_eq_add_one h5; have h6 := Nat.succ.inj h5; obtain ⟨a6, t6, rfl⟩ := List.exists_cons_of_length_eq_add_one h6; have h7 := Nat.succ.inj h6; obtain ⟨a7, t7, rfl⟩ := List.exists_cons_of_length_eq_add_one h7; have h8 := Nat.succ.inj h7; obtain ⟨a8, t8, rfl⟩ := List.exists_cons_of_length_eq_add_one h8; have h9 := Nat.succ.inj h8; obtain ⟨a9, t9, rfl⟩ := List.exists_cons_of_length_eq_add_one h9; have h10 := Nat.succ.inj h9; obtain ⟨a10, t10, rfl⟩ := List.exists_cons_of_length_eq_add_one h10; have h11 := Nat.succ.inj h10; obtain ⟨a11, t11, rfl⟩ := List.exists_cons_of_length_eq_add_one h11; have h12 := Nat.succ.inj h11; obtain ⟨a12, t12, rfl⟩ := List.exists_cons_of_length_eq_add_one h12; have h13 := Nat.succ.inj h12
  obtain rfl := List.eq_nil_of_length_eq_zero h13
  exact ⟨_, _, _, _, _, _, _, _, _, _, _, _, _, rfl⟩
end UL

set_option Elab.async false
set_option linter.all false
set_option maxRecDepth 100000
/-! own: an operator of an own class, != of a class that has == alone, C(*xs) -/
namespace UL
open PySem PySem.Spec PyProof.Rows L2 Evl TL

/-! ### an operator -/
section
variable {X : Cx} {CX : CXT} {k : Nat} {f C : Addr} {fd : FuncData} {ps : List Str} {sp : Sp}
/-- x op y, both of the class at C; the answer is an object -/
def rOwnBin (C : Addr) (sp : Sp) (E : XK) : R2 := fun x y H Q => ∃ a b dx fs dy gs, x = .ref a ∧ y = .ref b ∧ H a = some (.ins C dx fs) ∧ H b = some (.ins C dy gs) ∧ sp [.ref a, .ref b] H (fun v H' => ∃ c, v = .ref c ∧ Q (.ref c) H') E
/-- .. what is raised is wished for at the slots -/
def tOwnBin (C : Addr) (sp : Sp) (E : L2.St → XK) (ta tb : TE) : TE := fun σ H Q => ta σ H fun x H1 => tb σ H1 fun y H2 => rOwnBin C sp (E σ) x y H2 Q
theorem own_bin {op : Operator} {E : XK} {pins : List (Addr × Obj)} {σ : L2.St} {H : Hp} {s : Shared} {x y : V} {v u : Value} {Q : VK} (F : FnOk X.prog X.w X.K X.mg X.base CX k f fd ps sp) (hr : Room k X.A) (hc : PySem.W.selfFirst X.K C = true) (hs : PySem.W.findIn X.K (.ref C) (PySem.dunder op.info.2) = some (some (.ref f)))
    (hf : PySem.W.isFn X.K (.ref f) = true) (hb : L2.Binds X.K fd ps []) (out : PassesAt CX X σ E) (I : Inv X pins σ H s) (rx : RelV x v) (ry : RelV y u) (h : rOwnBin C sp E x y H Q) : wpAny (model X.prog X.w) X.A (binaryOp op v u) (EP X pins σ Q) X.xe s := by
  obtain ⟨a, b, dx, fs, dy, gs, rfl, rfl, ha, hb2, q⟩ := h
  cases rx
  cases ry
  obtain ⟨_, J, _⟩ := ins_get I.hok ha
  obtain ⟨_, J, _⟩ := J.look
  obtain ⟨_, J', _⟩ := ins_get I.hok hb2
  obtain ⟨_, J', _⟩ := J'.look
  obtain ⟨_, fr⟩ := I.fr
  refine PySem.W.binop_K fr I.ok.mod.kin J J'.type hc hs hf ?_
  have r2 : Vals [V.ref a, V.ref b] [Value.ref a, Value.ref b] := .cons rfl (.cons rfl .nil)
  have n2 : [Value.ref a, Value.ref b].length = ps.length := r2.length.symm.trans (F.len _ _ _ _ q)
  have bd := hb s [Value.ref a, Value.ref b] I.kIn (by rw [List.append_nil]; exact n2)
  rw [List.append_nil] at bd
  refine wpAny_call (codeAny_mono (F.run X.A X.stack s H ⟨[.ref a, .ref b], []⟩ [.ref a, .ref b] [.ref a, .ref b] _ E hr I.env0 bd r2 q) fun rr s' z => ?_)
  match rr, z with
  | .error er, z => exact out pins H s er s' I z
  | .ok (.ret w), z =>
    obtain ⟨v, H', I', rv, c, rfl, q'⟩ := I.after z
    cases rv
    exact ⟨V.ref c, H', I', rfl, q'⟩
  | .ok .next, z => exact False.elim z
  | .ok .brk, z => exact False.elim z
  | .ok .cont, z => exact False.elim z
theorem op_ownBin {op : Operator} {E : XK} (F : FnOk X.prog X.w X.K X.mg X.base CX k f fd ps sp) (hr : Room k X.A) (hc : PySem.W.selfFirst X.K C = true) (hs : PySem.W.findIn X.K (.ref C) (PySem.dunder op.info.2) = some (some (.ref f))) (hf : PySem.W.isFn X.K (.ref f) = true) (hb : L2.Binds X.K fd ps []) (out : Passes CX X E) :
    OpR X (binaryOp op) (rOwnBin C sp E) := fun pins s σ H x y v u Q I rx ry h => own_bin F hr hc hs hf hb (fun pins H s e s' I c => out pins σ H s e s' I c) I rx ry h
theorem pe_ownBinS {a b : Expr} {ta tb : TE} {pos : Pos} {op : Operator} {E : L2.St → XK} (F : FnOk X.prog X.w X.K X.mg X.base CX k f fd ps sp) (hr : Room k X.A) (hc : PySem.W.selfFirst X.K C = true) (hs : PySem.W.findIn X.K (.ref C) (PySem.dunder op.info.2) = some (some (.ref f))) (hf : PySem.W.isFn X.K (.ref f) = true) (hb : L2.Binds X.K fd ps []) (out : ∀ σ, PassesAt CX X σ (E σ))
    (ha : PE X a ta) (hb2 : PE X b tb) : PE X (.BinOp a op b pos) (tOwnBin C sp E ta tb) := by
  refine ⟨fun pins s σ H Q I h => ?_⟩
  have h' : tOp (rOwnBin C sp (E σ)) ta tb σ H Q := h
  exact wpAny_BinOp (binT ha hb2 I h' fun v u s2 x y H2 I2 rx ry q => own_bin F hr hc hs hf hb (out σ) I2 rx ry q)
end

/-! ### x != y, the class has == alone -/
structure NeC (K : PySem.W.Frag) (C f : Addr) : Prop where
  ne : PySem.W.findIn K (.ref C) "__ne__" = some (some (.builtin "object.__ne__"))
  eq : PySem.W.findIn K (.ref C) "__eq__" = some (some (.ref f))
  fn : PySem.W.isFn K (.ref f) = true
  ob : PySem.W.subIn K (.ref C) (.type "object") = some true
section
variable {prog : Program} {w : World} {A : Around} {E : Value → Shared → Prop} {s : Shared} {K : PySem.W.Frag} {C x f : Addr} {ox : Obj} {od : Option Obj} {b : Value}
theorem slotNe : Slot "object" "__ne__" "object.__ne__" := PySem.F.cmp_object.ne
theorem own_ne {Q : Value → Shared → Prop} (T : NeC K C f) (hK : K.In s.heap) (J : PySem.W.InstAt s.heap x ox C od) (hb : PySem.W.Looks (model prog w) s.heap (typeOf b) (.ref C)) (hu : A.units + 1 < cLine)
    (h : wpAny (model prog w) A.in1 (call (.ref f) [.ref x, b]) (fun v s' => ∃ r, v = .bool r ∧ Q (.bool (!r)) s') E s) : wpAny (model prog w) A (richCompare .NotEq (.ref x) b) Q E s := by
  have inner : wpAny (model prog w) A (call (.builtin "object.__ne__") [.ref x, b]) (fun v s' => ∃ r, v = .bool r ∧ Q (.bool r) s') E s := by
    refine wpAny_call (codeAny_call_builtin slotNe.plain PySem.F.cmpEntry_ne ?_)
    simp only [checkBuiltinCall, PySem.F.cmpKind_ne, PySem.F.cmpSplit_ne]
    refine wpAny_bind ?_
    unfold isInstance
    refine wpAny_bind (J.type.here ((PySem.W.looks_subIn hK T.ob).here ?_))
    refine wpAny_ite_split (fun z => absurd z (by decide)) (fun _ => ?_)
    have body : wpAny (model prog w) A.in1 (Builtin.«object.__ne__» { pos := [Value.ref x, b] }) (fun fin s' => ∃ r, fin = .done (.ret (.bool r)) ∧ Q (.bool r) s') E s := by
      have lim : A.in1.units < cLine := by show A.units + 1 < cLine; exact hu
      unfold Builtin.«object.__ne__»
      repeat (first
        | refine wpAny_bind (m := callSpecialIfBound? (.ref x) (Str.ofString "__eq__") [b]) (PySem.W.ifBound_K hK J T.eq T.fn (wpAny_mono h (fun r t hr => (?_ : (fun z y => _) (some r) t)) fun _ _ z => z))
        | with_reducible refine wpAny_cRoomFor lim ?_
        | wp_step)
      obtain ⟨r0, rfl, hq⟩ := hr
      exact wpAny_bind (m := truthy (.bool r0)) (wpAny_truthy_bool (wpAny_pure ⟨_, rfl, hq⟩))
    have done : ∀ s', s' = s → wpAny (model prog w) A.in1 (Builtin.«object.__ne__» { pos := [Value.ref x, b] }) (fun fin s' => match fin with | .done f => (match (Except.ok f : Result) with | .ok (.ret v) => ∃ r, v = .bool r ∧ Q (.bool r) s' | .ok _ => False | .error e => E e s') | .again c' => c'.quiet = true ∧ codeAny (model prog w) A c' (fun r s' => match r with | .ok (.ret v) => ∃ r, v = .bool r ∧ Q (.bool r) s' | .ok _ => False | .error e => E e s') s') (fun e s' => E e s') s' := by
      rintro _ rfl
      refine wpAny_mono body (fun fin s' z => ?_) fun _ _ z => z
      obtain ⟨r, rfl, q⟩ := z
      exact ⟨r, rfl, q⟩
    have ok := PySem.F.cmpArgs_ne (.ref x) b
    cases sg : Manifest.signature? "object.__ne__" with
    | none => exact wpAny_pure (done s rfl)
    | some sig =>
      simp only [argsOk, sg] at ok
      have ok2 : Bind.checkArgs "object.__ne__" sig ⟨[.ref x, b], []⟩ = pure () := ok
      show wpAny _ A.in1 (Bind.checkArgs "object.__ne__" sig ⟨[.ref x, b], []⟩) _ _ _
      rw [ok2]
      exact wpAny_pure (done s rfl)
  unfold richCompare
  simp only [oneThing_ref]
  refine wpAny_holding (wpAny_bind (wpAny_cRoomFor (by omega) ?_))
  refine wpAny_bind (J.type.here (wpAny_bind (hb.here ?_)))
  have one : wpAny (model prog w) A (tryCompare (.ref x) (cmpInfo .NotEq).2.1 b) (fun r s' => ∃ v, r = some v ∧ Q v s') E s := by
    unfold tryCompare
    refine wpAny_bind ?_
    simp only [callSpecialIfBound?, bindSpecialIfBound?]
    refine wpAny_holding (wpAny_bind (wpAny_bind (wpAny_bind (J.type.here ((PySem.W.looks_findIn hK T.ne).here ?_)))))
    simp only [slotNe.bind]
    refine wpAny_bind (wpAny_askSetting (wpAny_ite ?_))
    have fin : wpAny (model prog w) A (call (.builtin "object.__ne__") ([.ref x] ++ [b]) >>= fun v => pure (some v)) (fun r s' => wpAny (model prog w) A (match r with | some .notImplemented => pure Option.none | Option.none => pure Option.none | some v => pure (some v)) (fun r s' => ∃ v, r = some v ∧ Q v s') E s') E s :=
      wpAny_bind (wpAny_mono inner (fun v s' z => wpAny_pure (by obtain ⟨r, rfl, q⟩ := z; exact wpAny_pure ⟨_, rfl, q⟩)) fun _ _ z => z)
    split
    · exact wpAny_bind (wpAny_pure (wpAny_pure (by exact fin)))
    · exact wpAny_tryCatch (wpAny_bind (wpAny_pure (wpAny_pure (by exact fin))))
  split
  · rename_i q
    simp at q
  · refine wpAny_bind (wpAny_pure ?_)
    simp only [Bool.false_eq_true, if_false]
    refine wpAny_bind (wpAny_mono one (fun r s' z => ?_) fun _ _ e => e)
    obtain ⟨v, rfl, hq⟩ := z
    exact wpAny_pure hq
end
section
variable {X : Cx} {CX : CXT} {k : Nat} {f C : Addr} {fd : FuncData} {ps : List Str} {sp : Sp} {E : XK}
def rOwnNe (C : Addr) (sp : Sp) (E : XK) : R2 := fun x y H Q => ∃ a b dx fs dy gs, x = .ref a ∧ y = .ref b ∧ H a = some (.ins C dx fs) ∧ H b = some (.ins C dy gs) ∧ sp [.ref a, .ref b] H (fun v H' => ∃ c, v = .bl c ∧ Q (.bl (!c)) H') E
theorem op_ownNe (F : FnOk X.prog X.w X.K X.mg X.base CX k f fd ps sp) (hr : Room (k + 1) X.A) (T : NeC X.K C f) (hb : L2.Binds X.K fd ps []) (out : Passes CX X E) : OpR X (compareOp .NotEq) (rOwnNe C sp E) := by
  intro pins s σ H x y v u Q I rx ry h
  obtain ⟨a, b, dx, fs, dy, gs, rfl, rfl, ha, hb2, q⟩ := h
  cases rx
  cases ry
  obtain ⟨_, J, _⟩ := ins_get I.hok ha
  obtain ⟨_, J, _⟩ := J.look
  obtain ⟨_, J', _⟩ := ins_get I.hok hb2
  obtain ⟨_, J', _⟩ := J'.look
  show wpAny _ _ (richCompare .NotEq (.ref a) (.ref b)) _ _ _
  refine own_ne T I.kIn J J'.type (by have := hr.units; omega) ?_
  have r2 : Vals [V.ref a, V.ref b] [Value.ref a, Value.ref b] := .cons rfl (.cons rfl .nil)
  have n2 : [Value.ref a, Value.ref b].length = ps.length := r2.length.symm.trans (F.len _ _ _ _ q)
  have bd := hb s [Value.ref a, Value.ref b] I.kIn (by rw [List.append_nil]; exact n2)
  rw [List.append_nil] at bd
  refine wpAny_call (codeAny_mono (F.run X.A.in1 X.stack s H ⟨[.ref a, .ref b], []⟩ [.ref a, .ref b] [.ref a, .ref b] _ E hr.in1 I.env0.in1 bd r2 q) fun rr s' z => ?_)
  match rr, z with
  | .error er, z => exact out pins σ H s er s' I z
  | .ok (.ret w), z =>
    obtain ⟨v, H', I', rv, c, rfl, q'⟩ := I.after z
    cases rv
    exact ⟨c, rfl, V.bl (!c), H', I', rfl, q'⟩
  | .ok .next, z => exact False.elim z
  | .ok .brk, z => exact False.elim z
  | .ok .cont, z => exact False.elim z
end

/-! ### C(*xs) -/
section
variable {X : Cx} {CX : CXT} {k : Nat} {f C : Addr} {sp : Sp} {E : XK} {x : Str} {e : Expr} {te : TE} {p q pos : Pos}
def tMakeStar (K : PySem.W.Frag) (C : Addr) (sp : Sp) (E : XK) (te : TE) : TE := fun σ H Q => te σ H fun y H1 => ∃ a xs, y = V.ref a ∧ (SqT K H1 a xs ∨ SqL K H1 a xs) ∧ ∀ x dx, H1 x = none → H1 dx = none → dx ≠ x →
  sp (V.ref x :: xs) (upd (upd H1 dx (.own x)) x (.ins C dx [])) (fun v H2 => v = .non ∧ Q (.ref x) H2) E
theorem pe_makeStar (M : Mk X.K C f) (F : FnR X.prog X.w X.K X.mg X.base CX k f sp) (room : Room (k + 1) X.A) (g1 : Gl X x) (g2 : X.mg x = some (.ref C)) (out : Passes CX X E) (he : PE X e te) (g3 : (x == ("__debug__" : Str)) = false := by decide)
    (one : starEach [.Starred e q] X.env = [(true, eval e X.env)] := by rfl) : PE X (.Call (.Name x p) [.Starred e q] [] pos) (tMakeStar X.K C sp E te) := by
  refine ⟨fun pins s σ H Q I h => wpAny_Call_Name_kw (ld_glob I g1 g2 ?_ g3)⟩
  refine PySem.W.callWith_S (h₀ := X.base) I.ok.mod.kin M.kp (thn (he.run pins s σ H _ I h) fun v t ⟨y, H1, I1, ry, a, xs, ey, hxs, z⟩ => ?_) one
  subst ey
  obtain rfl : v = Value.ref a := ry
  exact StX.star_any I1 hxs fun us t2 I2 rv => ⟨I2.kIn, StX.run_makeR M F room out I2 rv z⟩
end
end UL

set_option Elab.async false
set_option linter.all false
set_option maxRecDepth 100000
/-! own: enumerate of a text, C(e) with C in a local name, a written dict of numbers by text -/
namespace UL
open PySem PySem.Spec PyProof.Rows L2 Evl TL

/-! ### enumerate(text) -/
def Ites (x : Str) : It :=
  ⟨fun i _ => i < x.cps.size, fun i H v H' => ∃ T c, v = .ref T ∧ H T = none ∧ H' = upd H T (.tup [.int (i : Nat), .str ⟨#[c]⟩]) ∧ x.cps[i]? = some c, fun i _ => i = x.cps.size⟩
theorem turn_enumS {P : Program} {w : World} {K : PySem.W.Frag} {elts : List Expr} {kk : Nat} {tpos : Pos} (x : Str) (t : Tok) (ty : String) (hty : ty = "str_ascii_iterator" ∨ ty = "str_iterator") (e it : Addr) :
    Turn P w K (.Tuple elts kk tpos) (Ites x) [e, it] e (fun i h => (∃ old, IsEnum h e it ((i : Nat) : Int) old) ∧ h.IsStrIter it ty x t i ∧ e ≠ it) where
  mem := by simp
  obj := fun i h st b hb => by
    obtain ⟨⟨old, he⟩, ⟨o, ho, hc, hd⟩, _⟩ := st
    have e' : b = e ∨ b = it := by simpa using hb
    rcases e' with z | z
    · rw [z]; exact ⟨_, he, fun v q => nomatch q⟩
    · rw [z]; exact ⟨o, ho, fun v q => by rw [hd] at q; cases q⟩
  keep := fun i h h' st k => let ⟨⟨old, he⟩, ⟨o, ho, r⟩, hne⟩ := st; ⟨⟨old, k e (by simp) _ he⟩, ⟨o, k it (by simp) o ho, r⟩, hne⟩
  item := by
    intro X hP hw hK hc i pins s σ H E I hf st hg
    subst hP hw hK
    obtain ⟨⟨old, he⟩, hit, hne⟩ := st
    have hel : e < s.heap.objs.size := Heap.lt_size he
    have hil : it < s.heap.objs.size := by obtain ⟨_, q, _⟩ := hit; exact Heap.lt_size q
    have D : Draws X.prog X.w X.A.in1 it [it] x.cps.size (fun i v => ∃ c u, x.cps[i]? = some c ∧ v = .str ⟨#[c]⟩ u) (fun i h => h.IsStrIter it ty x t i) := by
      rcases hty with q | q
      · rw [q]; exact Draws.strAscii (A := X.A.in1) (I.ok.hd hc) it x t
      · rw [q]; exact Draws.strWide (A := X.A.in1) (I.ok.hd hc) it x t
    refine wpAny_pyNext_enum_itemD D he hit hg hne (fun q => hne (by simpa using q)) fun u h' tk hP ho hit' hT hsz hk => ?_
    obtain ⟨c, tu, hcx, rfl⟩ := hP
    refine ⟨_, rfl, wpAny_letOwnedTupleGo_enum (s := { s with heap := h', toks := tk + 1 }) ho fun h'' he' sb => ?_⟩
    have hT2 : h''.get? s.heap.objs.size = some { cls := .type "tuple", data := .seq #[.int i tk, .str ⟨#[c]⟩ tu] } := (sb.2 _ (Nat.ne_of_gt hel)).trans hT
    have new : ObjOk X.prog X.w (upd H s.heap.objs.size (.tup [.int (i : Nat), .str ⟨#[c]⟩])) h'' s.heap.objs.size (.tup [.int (i : Nat), .str ⟨#[c]⟩]) :=
      ⟨by show 2 ≤ sizeLine; decide, [.int i tk, .str ⟨#[c]⟩ tu], .cons ⟨_, rfl⟩ (.cons ⟨_, rfl⟩ .nil), ⟨_, hT2, rfl, _, rfl⟩⟩
    have I1 : Inv X pins σ (upd H s.heap.objs.size (.tup [.int (i : Nat), .str ⟨#[c]⟩])) { s with heap := h'', toks := tk + 1 } :=
      I.turnedNew (ch := [e, it]) (fun b ob hb q => (sb.2 b (fun z => hb (by simp [z]))).trans (hk b ob (fun z => hb (by simp [z])) (fun z => hb (by simp [z])) q)) hf (Nat.le_refl _) new
    refine ⟨.ref s.heap.objs.size, _, I1, rfl, ⟨_, c, rfl, I.hok.fresh (Nat.le_refl _), rfl, hcx⟩, ⟨⟨.str ⟨#[c]⟩ tu, ?_⟩, ?_, hne⟩, fun b hb => ?_⟩
    · have e1 : ((i + 1 : Nat) : Int) = (i : Int) + 1 := by omega
      rw [e1]; exact he'
    · obtain ⟨o, ho2, r⟩ := hit'
      exact ⟨o, (sb.2 it (Ne.symm hne)).trans ho2, r⟩
    · have hb' : b < s.heap.objs.size := by
        have e' : b = e ∨ b = it := by simpa using hb
        rcases e' with z | z
        · rw [z]; exact hel
        · rw [z]; exact hil
      rw [upd_ne (Nat.ne_of_lt hb')]
      exact (hf b hb).1
  done := by
    intro X hP hw hK hc i pins s σ H E I hf st hg
    subst hP hw hK
    obtain ⟨⟨old, he⟩, hit, hne⟩ := st
    obtain ⟨f0, f1, f2, f3, f4, f5⟩ := hf it (by simp)
    have D : Draws X.prog X.w X.A.in1 it [it] x.cps.size (fun i v => ∃ c u, x.cps[i]? = some c ∧ v = .str ⟨#[c]⟩ u) (fun i h => h.IsStrIter it ty x t i) := by
      rcases hty with q | q
      · rw [q]; exact Draws.strAscii (A := X.A.in1) (I.ok.hd hc) it x t
      · rw [q]; exact Draws.strWide (A := X.A.in1) (I.ok.hd hc) it x t
    obtain rfl : i = x.cps.size := hg
    exact wpAny_pyNext_enum_endD D he hit fun h' eb => ⟨rfl, I.turned (t' := s.toks) (fun b o hb q => eb b o hb q) f0 f1 f3 f4 f5⟩
  self := fun A i s Q E st h => let ⟨⟨_, he⟩, _⟩ := st; wpAny_pyIter_enum he h
def iEnumS (ta : TA) : TI := fun σ H R => ta σ H fun vs H1 => ∃ x, vs = [.str x] ∧ R (Ites x) H1
theorem pi_enumS {X : Cx} {e : Expr} {ta : TA} {p pos tpos : Pos} {elts : List Expr} {kk : Nat} (hg : Gl X "enumerate") (hm : X.mg "enumerate" = none) (ha : PA X [e] ta) (hs : starEach [e] X.env = [(false, eval e X.env)] := by rfl) :
    PI X (.Tuple elts kk tpos) (.Call (.Name "enumerate" p) [e] [] pos) (iEnumS ta) := by
  refine ⟨fun pins s σ H R I h => ?_⟩
  refine Call_ (ld_blt I hg hm boot_enumerate (PyProof.Rows.callWith_type1 (thn (ha.run pos pins s σ H _ I h) fun us s1 ⟨vs, H1, I1, r1, q1⟩ => ?_) hs rfl))
  obtain ⟨x, ex, q⟩ := q1
  subst ex
  cases r1 with
  | cons r rr =>
    cases rr
    obtain ⟨t, rfl⟩ := r
    refine call_enumerate_str fun h' he hit hsz hk => wpAny_pyIter_enum he ?_
    have I2 : Inv X pins σ H1 { s1 with heap := h' } := I1.kept (t' := s1.toks) hk
    have fp : ∀ b ∈ [s1.heap.objs.size + 1, s1.heap.objs.size], FpOk X pins H1 b := fun b hb => by
      have e' : b = s1.heap.objs.size + 1 ∨ b = s1.heap.objs.size := by simpa using hb
      have hle : s1.heap.objs.size ≤ b := by
        rcases e' with z | z
        · rw [z]; exact Nat.le_add_right _ _
        · rw [z]; exact Nat.le_refl _
      exact I1.fpOk hle (I1.hok.fresh hle)
    cases hasc : x.cps.all (· < 128)
    · have hit' : h'.IsStrIter s1.heap.objs.size "str_iterator" x t 0 := by simpa [strIterType, hasc] using hit
      exact ⟨s1.heap.objs.size + 1, [s1.heap.objs.size + 1, s1.heap.objs.size], _, _, H1, rfl, I2, turn_enumS x t "str_iterator" (.inr rfl) (s1.heap.objs.size + 1) s1.heap.objs.size, ⟨⟨.none, he⟩, hit', Nat.succ_ne_self _⟩, fp, q⟩
    · have hit' : h'.IsStrIter s1.heap.objs.size "str_ascii_iterator" x t 0 := by simpa [strIterType, hasc] using hit
      exact ⟨s1.heap.objs.size + 1, [s1.heap.objs.size + 1, s1.heap.objs.size], _, _, H1, rfl, I2, turn_enumS x t "str_ascii_iterator" (.inl rfl) (s1.heap.objs.size + 1) s1.heap.objs.size, ⟨⟨.none, he⟩, hit', Nat.succ_ne_self _⟩, fp, q⟩
theorem walk_enumS {z : Str} : L2.Walk (Ites z) z.cps.size (fun _ => True) (fun i H v H' => ∃ T c, v = .ref T ∧ H T = none ∧ H' = upd H T (.tup [.int (i : Nat), .str ⟨#[c]⟩]) ∧ z.cps[i]? = some c) :=
  ⟨fun _ _ hi _ => hi, fun _ _ => rfl, fun _ _ _ _ _ _ y => y⟩

/-! ### C(e, ..) with C in a local name -/
def tMakeL (i : Nat) (C : Addr) (sp : Sp) (dvs : List V) (E : XK) (t : TA) : TE := fun σ H Q => σ[i]? = some (some (.ref C)) ∧ t σ H fun vs H1 => ∀ x dx, H1 x = none → H1 dx = none → dx ≠ x → sp (.ref x :: (vs ++ dvs)) (upd (upd H1 dx (.own x)) x (.ins C dx [])) (fun v H2 => v = .non ∧ Q (.ref x) H2) E
section
variable {X : Cx} {CX : CXT} {x : Str} {i : Nat} {C f : Addr} {k : Nat} {fd : FuncData} {ps : List Str} {sp : Sp} {ds : List Value} {dvs : List V} {E : XK} {e : Expr} {es : List Expr} {t : TA} {p pos : Pos}
theorem pe_makeL (M : Mk X.K C f) (F : FnOk X.prog X.w X.K X.mg X.base CX k f fd ps sp) (hr : Room (k + 1) X.A) (hN : X.N[i]? = some x) (hv : Vis X.env.scope x) (hb : L2.Binds X.K fd ps ds) (hd : Vals dvs ds) (hx : Passes CX X E)
    (ha : PA X (e :: es) t) (hdb : (x == ("__debug__" : Str)) = false := by decide) (hcd : (x == ("__classdict__" : Str)) = false := by decide) (he : starEach (e :: es) X.env = (false, eval e X.env) :: starEach es X.env := by rfl) (hpl : (backTo pos (starEach es X.env)).any (·.1) = false := by rfl) :
    PE X (.Call (.Name x p) (e :: es) [] pos) (tMakeL i C sp dvs E t) := by
  refine ⟨fun pins s σ H Q I h => ?_⟩
  obtain ⟨hs, ht⟩ := h
  refine wpAny_Call_Name_kw (thn ((pe_var (pos := p) hN hv hdb hcd).run pins s σ H (fun v H1 => v = .ref C ∧ H1 = H) I ⟨.ref C, hs, rfl, rfl⟩) fun u s1 ⟨v, H1, I1, r1, q1⟩ => ?_)
  obtain ⟨rfl, rfl⟩ := q1
  cases r1
  refine PySem.W.callWith_K (h₀ := X.base) I.ok.mod.kin M.kp (thn (ha.run pos pins s1 σ _ _ I1 ht) fun us s2 ⟨vs, H2, I2, r, q⟩ => ⟨I2.kIn, ?_⟩) he hpl
  exact run_make M F hr hb hd hx I2 r q
end

/-! ### a written dict -/
/-- at d the dict of these, told by the written part -/
structure WD (K : PySem.W.Frag) (w : World) (d : Addr) (kvs : List (Str × Int)) : Prop where
  ex : ∃ es n, K.lookup d = some ⟨.type "dict", none, .dict es n, #[]⟩ ∧ PySem.W.KeysLit w.params es.toList ∧ Paired (fun (e : DictEntry) (kv : Str × Int) => ∃ t u, e.key = .str kv.1 t ∧ e.val = .int kv.2 u) es.toList kvs ∧ (d == sysModules) = false
theorem lookup_put2 {z k : Str} {v : Int} {l : List (Str × Int)} (h : z ≠ k) : ((k, v) :: l).lookup z = l.lookup z := by
  have e : (z == k) = false := by simpa using h
  simp [List.lookup, e]
theorem wd_ns {K : PySem.W.Frag} {d : Addr} {es : Array DictEntry} {n : Nat} {kvs : List (Str × Int)} (h : K.lookup d = some ⟨.type "dict", none, .dict es n, #[]⟩) (p : Paired (fun (e : DictEntry) (kv : Str × Int) => ∃ t u, e.key = .str kv.1 t ∧ e.val = .int kv.2 u) es.toList kvs) (z : Str) :
    (∃ i u, kvs.lookup z = some i ∧ PySem.W.nsIn K d z = some (some (.int i u))) ∨ (kvs.lookup z = none ∧ PySem.W.nsIn K d z = some none) := by
  unfold PySem.W.nsIn
  rw [h]
  show (∃ i u, _ ∧ (match es.toList.find? (·.key.isStr z) with | some e => some (some e.val) | none => if es.toList.any (·.refKey) then none else some none) = _) ∨ (_ ∧ (match es.toList.find? (·.key.isStr z) with | some e => some (some e.val) | none => if es.toList.any (·.refKey) then none else some none) = _)
  generalize es.toList = l at p
  have hr : l.any (·.refKey) = false := by
    clear h
    induction p with
    | nil => rfl
    | cons q _ ih =>
      obtain ⟨t, u, hk, hv⟩ := q
      rw [List.any_cons, ih]
      unfold DictEntry.refKey
      rw [hk]
      rfl
  rw [hr]
  clear h hr
  induction p with
  | nil => exact .inr ⟨rfl, rfl⟩
  | @cons e kv l kvs q pr ih =>
    obtain ⟨k, v⟩ := kv
    obtain ⟨t, u, hk, hv⟩ := q
    dsimp only at hk hv
    by_cases e1 : z = k
    · subst e1
      refine .inl ⟨v, u, by simp [List.lookup], ?_⟩
      rw [List.find?_cons_of_pos (by rw [hk]; simp [Value.isStr])]
      show some (some e.val) = _
      rw [hv]
    · rw [List.find?_cons_of_neg (by rw [hk]; simp [Value.isStr]; exact fun z => e1 z.symm), lookup_put2 e1]
      exact ih
section
variable {X : Cx}
theorem op_inW : OpR X (compareOp .In) (fun x y H Q => ∃ (z : Str) (d : Addr) (kvs : List (Str × Int)), x = .str z ∧ y = .ref d ∧ WD X.K X.w d kvs ∧ Q (.bl (kvs.lookup z).isSome) H) := by
  intro pins s σ H x y v u Q I rx ry h
  obtain ⟨z, d, kvs, rfl, rfl, ⟨es, n, hl, hk, hp, low⟩, q⟩ := h
  rcases wd_ns hl hp z with ⟨i, t, e1, e2⟩ | ⟨e1, e2⟩
  · rw [e1] at q
    exact op_in_kd ⟨hl, hk, low⟩ pins s σ H _ _ v u Q I rx ry ⟨z, _, rfl, rfl, e2, q⟩
  · rw [e1] at q
    exact op_in_kd ⟨hl, hk, low⟩ pins s σ H _ _ v u Q I rx ry ⟨z, _, rfl, rfl, e2, q⟩
theorem ix_W : IxR X (fun x y H Q => ∃ (z : Str) (d : Addr) (kvs : List (Str × Int)) (i : Int), x = .ref d ∧ y = .str z ∧ WD X.K X.w d kvs ∧ kvs.lookup z = some i ∧ Q (.int i) H) := by
  intro value slice pins s σ H x y v u Q I rx ry h hs
  obtain ⟨z, d, kvs, i, rfl, rfl, ⟨es, n, hl, hk, hp, low⟩, e, q⟩ := h
  rcases wd_ns hl hp z with ⟨j, t, e1, e2⟩ | ⟨e1, e2⟩
  · rw [e] at e1
    cases e1
    exact ix_kdict value slice pins s σ H _ _ v u Q I rx ry ⟨d, z, .int i, rfl, rfl, ⟨es, n, _, hl, hk, e2, ⟨_, rfl⟩⟩, q⟩ hs
  · rw [e] at e1
    cases e1
end
end UL

set_option Elab.async false
set_option linter.all false
set_option maxRecDepth 100000
set_option maxHeartbeats 2000000
/-! own: sets of keys (texts and ints) whose members can be walked: set(xs) of a list or tuple, sorted(set), sorted(list of texts) of any length -/
namespace UL
open PySem PySem.Spec PyProof.Rows L2 Evl TL

/-! ### members -/
def mem1 (e : Int × Value) : Key := match e.2 with
  | .int k _ => .inl k
  | .str z _ => .inr z
  | _ => .inl 0
theorem mem1_of {k : Key} {x : Int × Value} (r : RelV (kV k) x.2) : mem1 x = k := by
  unfold mem1
  cases k with
  | inl i =>
    obtain ⟨t, e⟩ := r
    rw [e]
  | inr z =>
    obtain ⟨t, e⟩ := r
    rw [e]
structure MemOk (w : World) (e : Int × Value) : Prop where
  r : RelV (kV (mem1 e)) e.2
  h : e.1 = keyH w (mem1 e)
/-- the set at a: its members S, n of them -/
def SetM (w : World) (h : Heap) (a : Addr) (S : Key → Bool) (n : Nat) : Prop :=
  ∃ o es ep t, h.get? a = some o ∧ o.ExactSet ∧ o.data = .set es ep t ∧ (∀ e ∈ es.toList, MemOk w e) ∧ (es.toList.map mem1).Nodup ∧ (∀ k, S k = true ↔ k ∈ es.toList.map mem1) ∧
    es.size < scanBound ∧ t.fits es.size = true ∧ es.size = n ∧ Ris t.place.toList ∧ (w.params.followText "set-order" = true ∨ t.led = true)
section
variable {P : Program} {w : World} {h h' : Heap} {a : Addr} {S : Key → Bool} {n : Nat}
theorem SetM.at (R : SetM w h a S n) (k : ∀ o, h.get? a = some o → h'.get? a = some o) : SetM w h' a S n := by
  obtain ⟨o, es, ep, t, ho, r⟩ := R
  exact ⟨o, es, ep, t, k o ho, r⟩
theorem SetM.congr {S' : Key → Bool} (R : SetM w h a S n) (e : ∀ k, S' k = S k) : SetM w h a S' n := by
  rw [show S' = S from funext e]
  exact R
theorem mems_ok {l : List (Int × Value)} (g : ∀ e ∈ l, MemOk w e) : ElemsOf (mixKind P w) l := fun e he =>
  ⟨⟨mem1 e, kV_is (g e he).r, (g e he).h⟩, key_scan (g e he).r⟩
theorem mem_is {e : Int × Value} (g : MemOk w e) (k : Key) : (mixKind P w).is k e.2 = true ↔ mem1 e = k :=
  ⟨fun z => (mixKind P w).inj _ _ _ (kV_is g.r) z, fun z => z ▸ kV_is g.r⟩
theorem mems_mem {l : List (Int × Value)} (g : ∀ e ∈ l, MemOk w e) (k : Key) : k ∈ l.map mem1 ↔ ∃ e ∈ l, (mixKind P w).is k e.2 = true := by
  rw [List.mem_map]
  exact ⟨fun ⟨e, he, q⟩ => ⟨e, he, (mem_is (g e he) k).2 q⟩, fun ⟨e, he, q⟩ => ⟨e, he, (mem_is (g e he) k).1 q⟩⟩
theorem SetM.setOf (R : SetM w h a S n) : h.SetOf (mixKind P w) a S n := by
  obtain ⟨o, es, ep, t, ho, hx, hd, g, nd, hm, hb, hf, hn, _⟩ := R
  exact ⟨o, es, ep, t, ho, hx, hd, mems_ok g, fun k => (hm k).trans (mems_mem g k), hb, hf, hn⟩
end
section
variable {P : Program} {w : World} {A : Around} {E : Value → Shared → Prop} {s : Shared} {a : Addr} {S : Key → Bool} {n : Nat}
/-! ### one more -/
theorem setM_tail {g : Bool → Sem Unit} (hg : ∀ (b : Bool) (s₁ : Shared) (Q' : Unit → Shared → Prop), Q' () s₁ → wpAny (model P w) A (g b) Q' E s₁)
    {o : Obj} {es : Array (Int × Value)} {ep : Nat} {t : SetTable} (ho : s.heap.get? a = some o) (hex : o.ExactSet) (hd : o.data = .set es ep t)
    {es1 : Array (Int × Value)} {t2 : SetTable} {S' : Key → Bool} (g1 : ∀ e ∈ es1.toList, MemOk w e) (nd1 : (es1.toList.map mem1).Nodup) (m1 : ∀ k, S' k = true ↔ k ∈ es1.toList.map mem1)
    (hb1 : es1.size < scanBound) (hf2 : t2.fits es1.size = true) (hr : Ris t2.place.toList) (hl : w.params.followText "set-order" = true ∨ t2.led = true) {wasDummy : Bool} {R : Option Bool → Shared → Prop}
    (hR : ∀ h', Heap.SameBut a s.heap h' → SetM w h' a S' es1.size → R (some true) { s with heap := h' }) :
    wpAny (model P w) A (do
        storeSet a es1 t2
        if (!wasDummy && t2.tooFull) = true then do
            g (relayAll t2 es1 (SetTable.grown es1.size)).2.2
            storeSet a (relayAll t2 es1 (SetTable.grown es1.size)).1 (relayAll t2 es1 (SetTable.grown es1.size)).2.1
            pure (some true)
          else pure (some true)) R E s := by
  refine wpAny_bind (wpAny_storeSet_of ho hd ?_ (fits_of_scanBound hb1))
  have one := store_at (es' := es1) (t' := t2) ho hd
  have same := Heap.SameBut.update s.heap a (Obj.putSet es1 t2)
  split
  · have p1 := relayAll_perm t2 es1 (SetTable.grown es1.size)
    have p2 := relayAll_fits t2 es1 (SetTable.grown es1.size)
    have p3 := relayAll_ris t2 es1 (SetTable.grown es1.size)
    have p4 := relayAll_led t2 es1 (SetTable.grown es1.size)
    generalize relayAll t2 es1 (SetTable.grown es1.size) = Z at p1 p2 p3 p4 ⊢
    obtain ⟨es2, t3, gave⟩ := Z
    dsimp only at p1 p2 p3 p4 ⊢
    have sz : es2.size = es1.size := by rw [← Array.length_toList, p1.length_eq, Array.length_toList]
    refine wpAny_bind (hg _ _ _ (wpAny_bind (wpAny_storeSet_of one rfl ?_ (fits_of_scanBound (by rw [sz]; exact hb1)))))
    refine wpAny_pure (hR _ (same.trans (Heap.SameBut.update _ a _)) ⟨_, es2, _, t3, store_at (es' := es2) (t' := t3) one rfl, hex, rfl, fun e he => g1 e (p1.mem_iff.mp he), (p1.map mem1).nodup_iff.mpr nd1,
      fun k => (m1 k).trans (p1.map mem1).mem_iff.symm, by rw [sz]; exact hb1, p2, sz, p3, hl.imp id fun z => by rw [p4]; exact z⟩)
  · exact wpAny_pure (hR _ same ⟨_, es1, _, t2, one, hex, rfl, g1, nd1, m1, hb1, hf2, rfl, hr, hl⟩)
theorem setM_add {k : Key} {u : Value} {Q : Bool → Shared → Prop} (R : SetM w s.heap a S n) (ru : RelV (kV k) u) (room : n + 1 < scanBound)
    (hQ : ∀ h', Heap.SameBut a s.heap h' → SetM w h' a (fun j => S j || decide (j = k)) (if S k = true then n else n + 1) → Q (!S k) { s with heap := h' }) :
    wpAny (model P w) A (setAddHashed a u ((mixKind P w).hash k)) Q E s := by
  obtain ⟨o, es, ep, t, ho, hex, hd, g, nd, hm, hb, hf, hn, hr, hl⟩ := R
  have isk : (mixKind P w).is k u = true := kV_is ru
  have sc : u.scannable = true := key_scan ru
  have els : ElemsOf (mixKind P w) es.toList := mems_ok g
  unfold setAddHashed setAddHashedIn
  refine wpAny_holding (wpAny_bind (wpAny_setState_of ho hd hf ?_))
  dsimp only
  rw [byScan_of sc hb els]
  simp only [↓reduceIte]
  unfold setAddByScan
  refine wpAny_bind (wpAny_bind (wpAny_rule (wpAny_bind (wpAny_setScan_of isk ho hd hf els ?_))))
  cases hfi : List.findIdx? (fun e => (mixKind P w).is k e.2) es.toList with
  | some j =>
    dsimp only
    obtain ⟨hj, pj, _⟩ := List.findIdx?_eq_some_iff_getElem.mp hfi
    have there : S k = true := (hm k).2 ((mems_mem (P := P) g k).2 ⟨es.toList[j], List.getElem_mem hj, pj⟩)
    have q := hQ s.heap (Heap.SameBut.refl a s.heap) ⟨o, es, ep, t, ho, hex, hd, g, nd, fun i => by
      rw [Bool.or_eq_true, decide_eq_true_eq, ← hm i]
      exact ⟨fun z => z.elim id (fun e => e ▸ there), .inl⟩, hb, hf, by rw [if_pos there]; exact hn, hr, hl⟩
    rw [there] at q
    exact wpAny_pure (wpAny_pure q)
  | none =>
    dsimp only
    have out : k ∉ es.toList.map mem1 := fun z => by
      obtain ⟨e, he, q⟩ := (mems_mem (P := P) g k).1 z
      have c := List.findIdx?_eq_none_iff.mp hfi e he
      rw [q] at c
      cases c
    have off : S k = false := by
      cases q : S k with
      | false => rfl
      | true => exact absurd ((hm k).1 q) out
    have pm := layNew_perm t es ((mixKind P w).hash k) u
    have f1 := layNew_fits t es ((mixKind P w).hash k) u
    have r1 := layNew_ris t es ((mixKind P w).hash k) u hr
    have l1 := layNew_led t es ((mixKind P w).hash k) u
    generalize layNew t es ((mixKind P w).hash k) u = Z at pm f1 r1 l1 ⊢
    obtain ⟨es1, t1, wasDummy, gave⟩ := Z
    dsimp only at pm f1 r1 l1 ⊢
    rw [Array.toList_push] at pm
    have pc : es1.toList.Perm (((mixKind P w).hash k, u) :: es.toList) := pm.trans (List.perm_append_singleton _ _)
    have mk : mem1 ((mixKind P w).hash k, u) = k := mem1_of ru
    have pk : (es1.toList.map mem1).Perm (k :: es.toList.map mem1) := by
      have z := pc.map mem1
      rw [List.map_cons, mk] at z
      exact z
    have g1 : ∀ e ∈ es1.toList, MemOk w e := fun e he => by
      rcases List.mem_cons.mp (pc.mem_iff.mp he) with z | z
      · rw [z]
        exact ⟨by rw [mk]; exact ru, by rw [mk]; rfl⟩
      · exact g e z
    have nd1 : (es1.toList.map mem1).Nodup := pk.nodup_iff.mpr (List.nodup_cons.mpr ⟨out, nd⟩)
    have m1 : ∀ i, (S i || decide (i = k)) = true ↔ i ∈ es1.toList.map mem1 := fun i => by
      rw [Bool.or_eq_true, decide_eq_true_eq, hm i, pk.mem_iff, List.mem_cons]
      exact Or.comm
    have sz : es1.size = n + 1 := by rw [← Array.length_toList, pc.length_eq, List.length_cons, Array.length_toList, hn]
    have b1 : es1.size < scanBound := by rw [sz]; exact room
    have led : w.params.followText "set-order" = true ∨ t1.led = true := hl.imp id fun z => by rw [l1]; exact z
    have fin : ∀ h', Heap.SameBut a s.heap h' → SetM w h' a (fun j => S j || decide (j = k)) es1.size → Q true { s with heap := h' } := fun h' sb r => by
      have q := hQ h' sb
      rw [off] at q
      rw [sz] at r
      exact q r
    have give : ∀ (b : Bool) (s₁ : Shared) (Q' : Unit → Shared → Prop), Q' () s₁ → wpAny (model P w) A (match b with | true => rule "set.scan.the-table-gave-way" | false => pure ()) Q' E s₁ :=
      fun b s₁ Q' q => by cases b <;> first | exact wpAny_pure q | exact wpAny_rule q
    refine wpAny_bind (give _ _ _ ?_)
    split
    · refine wpAny_bind ?_
      rw [hashByValue_scannable 8 sc]
      refine wpAny_pure (setM_tail ?_ ho hex hd g1 nd1 m1 b1 ?_ ?_ ?_ ?_)
      · intro b s₁ Q' q
        cases b <;> first | exact wpAny_pure q | exact wpAny_rule q
      · first | (split <;> first | exact f1 | exact SetTable.fits_plain_off f1) | exact f1
      · first | (split <;> exact r1) | exact r1
      · first | (split <;> exact led) | exact led
      · intro h' sb r
        dsimp only
        exact wpAny_pure (fin h' sb r)
    · refine wpAny_bind (wpAny_pure ?_)
      simp only [↓reduceIte]
      refine setM_tail ?_ ho hex hd g1 nd1 m1 b1 f1 r1 led ?_
      · intro b s₁ Q' q
        cases b <;> first | exact wpAny_pure q | exact wpAny_rule q
      · intro h' sb r
        dsimp only
        exact wpAny_pure (fin h' sb r)
end
/-! ### set(xs) -/
def isin (ks : List Key) (j : Key) : Bool := ks.any fun k => decide (k = j)
theorem isin_iff {ks : List Key} {j : Key} : isin ks j = true ↔ j ∈ ks := by
  unfold isin
  rw [List.any_eq_true]
  exact ⟨fun ⟨k, hk, e⟩ => of_decide_eq_true e ▸ hk, fun h => ⟨j, h, decide_eq_true rfl⟩⟩
theorem isin_snoc {ks : List Key} {k j : Key} : isin (ks ++ [k]) j = (isin ks j || decide (j = k)) := by
  unfold isin
  rw [List.any_append]
  show (_ || (decide (k = j) || false)) = _
  rw [Bool.or_false, show decide (k = j) = decide (j = k) from decide_eq_decide.mpr eq_comm]
theorem setM_empty {w : World} {h : Heap} {a : Addr} (ho : h.get? a = some { cls := .type "set", dict := none, data := .set #[] 0 (.fresh 0 0 (!w.params.followText "set-order")) }) : SetM w h a (fun _ => false) 0 :=
  ⟨_, #[], 0, _, ho, ⟨rfl, rfl, rfl⟩, rfl, (fun e he => by simp at he), (by simp), (fun k => by simp), (by decide), (by rfl), rfl, List.Pairwise.nil, by
    show _ ∨ (!w.params.followText "set-order") = true
    cases w.params.followText "set-order"
    · exact .inr rfl
    · exact .inl rfl⟩
section
variable {P : Program} {w : World} {A : Around} {E : Value → Shared → Prop} {s : Shared}
theorem setM_loop {I : Addr} {fp wr : List Addr} {G : Array GenState → Array GenState → Prop} {n : Nat} {Pv : Nat → Value → Prop} {St : Nat → Shared → Prop} {R : Result → Shared → Prop}
    (W : WalksS P w A.in1 I fp wr G n Pv St) (S : Addr) (hSf : S ∉ fp) (ks : List Key) (hn : n = ks.length) (hb : ks.length + 1 < scanBound) (hval : ∀ i v, Pv i v → ∃ k, ks[i]? = some k ∧ RelV (kV k) v) :
    ∀ (m i : Nat) (s : Shared), n - i = m → i ≤ n → St i s → (∃ c, c ≤ i ∧ SetM w s.heap S (fun j => isin (ks.take i) j) c) →
      (∀ s' c, Moved (S :: wr) G s s' → c ≤ n → SetM w s'.heap S (fun j => isin ks j) c → R (.ok (.ret .none)) s') →
      codeAny (model P w) A (.builtin "set.update.loop" ⟨[.ref S, .ref I], []⟩) R s := by
  have out : S ∉ wr := fun h => hSf (W.sub _ h)
  have more : ∀ b ∈ wr, b ∈ S :: wr := fun b hb => List.mem_cons_of_mem _ hb
  intro m
  induction m with
  | zero =>
    intro i s hm hi hst ⟨c, hc, hS⟩ hR
    obtain rfl : i = n := by omega
    refine codeAny_builtin F.entry_set_update_loop ?_
    rw [Around.under_plainId F.plain_set_update_loop _]
    show wpAny _ A.in1 (pyNext (.ref I) >>= _) _ _ s
    refine wpAny_bind (W.done s _ _ hst fun s' mv => ?_)
    show wpAny _ A.in1 (ret Value.none) _ _ s'
    rw [show ks.take i = ks from List.take_of_length_le (by omega)] at hS
    exact wpAny_pure (hR s' c (mv.mono more) hc (hS.at fun o e => mv.heap S o out e))
  | succ m ih =>
    intro i s hm hi hst ⟨c, hc, hS⟩ hR
    have lt : i < n := by omega
    refine codeAny_builtin F.entry_set_update_loop ?_
    rw [Around.under_plainId F.plain_set_update_loop _]
    show wpAny _ A.in1 (pyNext (.ref I) >>= _) _ _ s
    refine wpAny_bind (W.item i s _ _ lt hst fun v s' hP hst' mv => ?_)
    obtain ⟨z, hz, rv⟩ := hval i v hP
    have hS' : SetM w s'.heap S (fun j => isin (ks.take i) j) c := hS.at fun o e => mv.heap S o out e
    show wpAny _ A.in1 (holding [v] (setAdd S v) >>= _) _ _ s'
    refine wpAny_bind (wpAny_holding ?_)
    unfold setAdd
    refine wpAny_holding (wpAny_bind ((mixKind P w).pyHash (k := z) (kV_is rv) ?_))
    refine setM_add (s := { s' with toks := s'.toks + 1 }) hS' rv (by omega) fun h' sb hS2 => ?_
    have hS3 : SetM w h' S (fun j => isin (ks.take (i + 1)) j) (if isin (ks.take i) z = true then c else c + 1) := hS2.congr fun j => by
      rw [List.take_add_one, hz]
      exact isin_snoc
    have c3 : (if isin (ks.take i) z = true then c else c + 1) ≤ i + 1 := by
      split <;> omega
    refine wpAny_pure ⟨plainId_quiet F.plain_set_update_loop _, ih (i + 1) _ (by omega) lt (W.frame _ s' _ _ hst' (Nat.le_succ _) fun b hb o e => ?_) ⟨_, c3, hS3⟩ fun s'' c2 mv2 hc2 hS4 => ?_⟩
    · rw [sb.2 b (fun h : b = S => hSf (h ▸ hb))]
      exact e
    · refine hR s'' c2 (Moved.trans W.gtrans ((mv.mono more).then_heap (Nat.le_succ _) fun b o hb e => ?_) mv2) hc2 hS4
      rw [sb.2 b (fun h : b = S => hb (h ▸ List.mem_cons_self))]
      exact e

set_option maxHeartbeats 3200000 in
theorem call_set_list {l : Addr} {items : Array Value} (ks : List Key) {Q : Value → Shared → Prop} (hh : A.handled = none) (hl : s.heap.IsList l items) (hit : Vals (ks.map kV) items.toList) (hb : ks.length + 1 < scanBound)
    (h : ∀ (h' : Heap) (tk c : Nat), SetM w h' s.heap.objs.size (fun j => isin ks j) c → c ≤ ks.length → (∀ b o, s.heap.get? b = some o → h'.get? b = some o) → Q (.ref s.heap.objs.size) { s with heap := h', toks := tk }) :
    wpAny (model P w) A (call (.type "set") [.ref l]) Q E s := by
  have isz : items.size = ks.length := by
    have q := hit.length
    rw [List.length_map, Array.length_toList] at q
    exact q.symm
  obtain ⟨c, tl, hmro⟩ := F.called_set.mro
  have hmade := F.called_set.made
  have hsub := F.called_set.sub
  refine wpAny_call (codeAny_of_tree ?_)
  show wpAny _ _ (callAny (.type "set") _) _ _ _
  refine wpAny_pure ⟨Code.quiet_builtin _ (by decide +kernel), codeAny_builtin F.entry_type_call ?_⟩
  rw [Around.under_plain (weight_type_call_type "set" [.ref l] []) rfl]
  have h1 := F.called_set.notType
  have h2 := F.called_set.canCreate
  have hct := F.typeCall_set_1 (.ref l)
  repeat (any_goals (first | assumption | wp_step))
  refine codeAny_mono (code_set_led1 (.ref l) (E := E) (Q₁ := fun obj s₁ => obj = .ref s.heap.objs.size ∧ s₁ = { s with heap := s.heap.push { cls := .type "set", dict := none, data := .set #[] 0 (.fresh 0 0 (!w.params.followText "set-order")) } }) ⟨rfl, rfl⟩) fun r s₁ hr => ?_
  cases r with
  | error e => exact hr
  | ok fl =>
    cases fl with
    | ret obj =>
      obtain ⟨rfl, rfl⟩ := hr
      have hS : (s.heap.push { cls := .type "set", dict := none, data := .set #[] 0 (.fresh 0 0 (!w.params.followText "set-order")) }).get? s.heap.objs.size = some { cls := .type "set", dict := none, data := .set #[] 0 (.fresh 0 0 (!w.params.followText "set-order")) } := Heap.get?_push_size _ rfl
      have hT : Shared.TypeIs { s with heap := s.heap.push { cls := .type "set", dict := none, data := .set #[] 0 (.fresh 0 0 (!w.params.followText "set-order")) } } (.ref s.heap.objs.size) "set" := ⟨_, hS, rfl⟩
      have hli := F.called_set.init.lookup
      have hbi := F.called_set.init.bind (.ref s.heap.objs.size)
      repeat (any_goals (first | assumption | wp_step))
      refine codeAny_mono (codeAny_call_builtin (R := wants (fun r s₂ => r = .none ∧ ∃ h' tk c, s₂ = { s with heap := h', toks := tk } ∧ SetM w h' s.heap.objs.size (fun j => isin ks j) c ∧ c ≤ ks.length ∧
          (∀ b o, s.heap.get? b = some o → h'.get? b = some o)) E) F.called_set.init.plain F.entry_set_init (check_set_init_1 hT ?_)) fun r₂ s₂ hr₂ => ?_
      · obtain ⟨ol, hol, hcl, nl, hdl⟩ := hl
        obtain ⟨ocls, odict, odata, oslots⟩ := ol
        simp only at hcl hdl
        subst hcl
        subst hdl
        have hol' : (s.heap.push { cls := .type "set", dict := none, data := .set #[] 0 (.fresh 0 0 (!w.params.followText "set-order")) }).get? l = some { cls := .type "list", dict := odict, data := .seq items nl, slots := oslots } := Heap.get?_push_of_some _ hol
        have sub1 := F.sub_list_set
        have sub2 := F.sub_list_frozenset
        have other : (Value.type "list" == Value.type "dict") = false := by decide
        have hl1 : (s.heap.push { cls := .type "set", dict := none, data := .set #[] 0 (.fresh 0 0 (!w.params.followText "set-order")) }).IsList l items := ⟨_, hol', rfl, nl, rfl⟩
        unfold Builtin.«set.__init__» noKeywords Builtin.Frozenset.updateFrom
        generalize hPI : pyIter = PI
        wp_walk
        subst hPI
        refine wpAny_pyIter_list hl1 ?_
        refine wpAny_bind (wpAny_runValue ?_)
        have hlS : l < s.heap.objs.size := Heap.lt_size hol
        have hh3 : A.in1.in1.in1.handled = none := by simp [hh]
        have sz1 : (s.heap.push { cls := .type "set", dict := none, data := .set #[] 0 (.fresh 0 0 (!w.params.followText "set-order")) }).objs.size = s.heap.objs.size + 1 := Heap.size_push ..
        have neI : l ≠ (s.heap.push { cls := .type "set", dict := none, data := .set #[] 0 (.fresh 0 0 (!w.params.followText "set-order")) }).objs.size := by rw [sz1]; exact Nat.ne_of_lt (Nat.lt_succ_of_lt hlS)
        have hSf : s.heap.objs.size ∉ [(s.heap.push { cls := .type "set", dict := none, data := .set #[] 0 (.fresh 0 0 (!w.params.followText "set-order")) }).objs.size, l] := by
          rw [sz1]
          simp only [List.mem_cons, List.mem_singleton, List.not_mem_nil, or_false, not_or]
          exact ⟨Nat.ne_of_lt (Nat.lt_succ_self _), Nat.ne_of_gt hlS⟩
        have hval : ∀ (i : Nat) (v : Value), items[i]? = some v → ∃ k, ks[i]? = some k ∧ RelV (kV k) v := fun i v hv => by
          have hi : i < ks.length := by rw [← isz]; exact (Array.getElem?_eq_some_iff.mp hv).1
          have e1 : (ks.map kV)[i]? = some (kV ks[i]) := by rw [List.getElem?_map, List.getElem?_eq_getElem hi]; rfl
          obtain ⟨u, e2, r⟩ := hit.get e1
          rw [Array.getElem?_toList, hv] at e2
          cases e2
          exact ⟨ks[i], List.getElem?_eq_getElem hi, r⟩
        refine setM_loop ((Walks.list hh3 _ l neI items).toS) s.heap.objs.size hSf ks isz hb hval (items.size - 0) 0 _ (by omega) (Nat.zero_le _) ⟨⟨_, Heap.get?_push_size _ rfl, rfl, rfl⟩, (hl1.push _)⟩ ?hS0 ?hR
        case hS0 =>
          have got : ((s.heap.push { cls := .type "set", dict := none, data := .set #[] 0 (.fresh 0 0 (!w.params.followText "set-order")) }).push { cls := .type "list_iterator", data := .fields #[.ref l, .int 0 0] }).get? s.heap.objs.size = some { cls := .type "set", dict := none, data := .set #[] 0 (.fresh 0 0 (!w.params.followText "set-order")) } := Heap.get?_push_of_some _ hS
          refine ⟨0, Nat.le_refl 0, (setM_empty (w := w) got).congr fun k => ?_⟩
          rw [List.take_zero]
          rfl
        case hR =>
          intro s' c' mv hc' hS'
          obtain ⟨h', g2, d', tk', os'⟩ := s'
          have eg : g2 = s.gens := mv.gens
          have ed : d' = s.drawn := mv.drawn
          have eo : os' = s.os := mv.os
          subst eg
          subst ed
          subst eo
          show wpAny _ _ _ _ _ _
          refine wpAny_pure ?_
          show wpAny _ _ (ret Value.none) _ _ _
          rw [isz] at hc'
          refine wpAny_pure ⟨rfl, h', tk', c', rfl, hS', hc', fun b o e => ?_⟩
          have lt : b < s.heap.objs.size := Heap.lt_size e
          exact mv.heap b o (by rw [sz1]; simp only [List.mem_cons, List.mem_singleton, List.not_mem_nil, or_false, not_or]; exact ⟨Nat.ne_of_lt lt, Nat.ne_of_lt (Nat.lt_succ_of_lt lt)⟩) (Heap.get?_push_of_some _ (Heap.get?_push_of_some _ e))
      · cases r₂ with
        | error e => exact hr₂
        | ok fl₂ =>
          cases fl₂ with
          | ret r =>
            obtain ⟨rfl, h', tk, c', rfl, hS', hc', hk'⟩ := hr₂
            repeat (any_goals (first | assumption | wp_step))
            exact h _ _ _ hS' hc' hk'
          | _ => exact hr₂.elim
    | _ => exact hr.elim

set_option maxHeartbeats 3200000 in
theorem call_set_tuple {l : Addr} {items : Array Value} (ks : List Key) {Q : Value → Shared → Prop} (hh : A.handled = none) (hl : s.heap.IsTuple l items) (hit : Vals (ks.map kV) items.toList) (hb : ks.length + 1 < scanBound)
    (h : ∀ (h' : Heap) (tk c : Nat), SetM w h' s.heap.objs.size (fun j => isin ks j) c → c ≤ ks.length → (∀ b o, s.heap.get? b = some o → h'.get? b = some o) → Q (.ref s.heap.objs.size) { s with heap := h', toks := tk }) :
    wpAny (model P w) A (call (.type "set") [.ref l]) Q E s := by
  have isz : items.size = ks.length := by
    have q := hit.length
    rw [List.length_map, Array.length_toList] at q
    exact q.symm
  obtain ⟨c, tl, hmro⟩ := F.called_set.mro
  have hmade := F.called_set.made
  have hsub := F.called_set.sub
  refine wpAny_call (codeAny_of_tree ?_)
  show wpAny _ _ (callAny (.type "set") _) _ _ _
  refine wpAny_pure ⟨Code.quiet_builtin _ (by decide +kernel), codeAny_builtin F.entry_type_call ?_⟩
  rw [Around.under_plain (weight_type_call_type "set" [.ref l] []) rfl]
  have h1 := F.called_set.notType
  have h2 := F.called_set.canCreate
  have hct := F.typeCall_set_1 (.ref l)
  repeat (any_goals (first | assumption | wp_step))
  refine codeAny_mono (code_set_led1 (.ref l) (E := E) (Q₁ := fun obj s₁ => obj = .ref s.heap.objs.size ∧ s₁ = { s with heap := s.heap.push { cls := .type "set", dict := none, data := .set #[] 0 (.fresh 0 0 (!w.params.followText "set-order")) } }) ⟨rfl, rfl⟩) fun r s₁ hr => ?_
  cases r with
  | error e => exact hr
  | ok fl =>
    cases fl with
    | ret obj =>
      obtain ⟨rfl, rfl⟩ := hr
      have hS : (s.heap.push { cls := .type "set", dict := none, data := .set #[] 0 (.fresh 0 0 (!w.params.followText "set-order")) }).get? s.heap.objs.size = some { cls := .type "set", dict := none, data := .set #[] 0 (.fresh 0 0 (!w.params.followText "set-order")) } := Heap.get?_push_size _ rfl
      have hT : Shared.TypeIs { s with heap := s.heap.push { cls := .type "set", dict := none, data := .set #[] 0 (.fresh 0 0 (!w.params.followText "set-order")) } } (.ref s.heap.objs.size) "set" := ⟨_, hS, rfl⟩
      have hli := F.called_set.init.lookup
      have hbi := F.called_set.init.bind (.ref s.heap.objs.size)
      repeat (any_goals (first | assumption | wp_step))
      refine codeAny_mono (codeAny_call_builtin (R := wants (fun r s₂ => r = .none ∧ ∃ h' tk c, s₂ = { s with heap := h', toks := tk } ∧ SetM w h' s.heap.objs.size (fun j => isin ks j) c ∧ c ≤ ks.length ∧
          (∀ b o, s.heap.get? b = some o → h'.get? b = some o)) E) F.called_set.init.plain F.entry_set_init (check_set_init_1 hT ?_)) fun r₂ s₂ hr₂ => ?_
      · obtain ⟨ol, hol, hcl, nl, hdl⟩ := hl
        obtain ⟨ocls, odict, odata, oslots⟩ := ol
        simp only at hcl hdl
        subst hcl
        subst hdl
        have hol' : (s.heap.push { cls := .type "set", dict := none, data := .set #[] 0 (.fresh 0 0 (!w.params.followText "set-order")) }).get? l = some { cls := .type "tuple", dict := odict, data := .seq items nl, slots := oslots } := Heap.get?_push_of_some _ hol
        have sub1 := F.sub_tuple_set
        have sub2 := F.sub_tuple_frozenset
        have other : (Value.type "tuple" == Value.type "dict") = false := by decide
        have hl1 : (s.heap.push { cls := .type "set", dict := none, data := .set #[] 0 (.fresh 0 0 (!w.params.followText "set-order")) }).IsTuple l items := ⟨_, hol', rfl, nl, rfl⟩
        unfold Builtin.«set.__init__» noKeywords Builtin.Frozenset.updateFrom
        generalize hPI : pyIter = PI
        wp_walk
        subst hPI
        refine wpAny_pyIter_tuple hl1 ?_
        refine wpAny_bind (wpAny_runValue ?_)
        have hlS : l < s.heap.objs.size := Heap.lt_size hol
        have hh3 : A.in1.in1.in1.handled = none := by simp [hh]
        have sz1 : (s.heap.push { cls := .type "set", dict := none, data := .set #[] 0 (.fresh 0 0 (!w.params.followText "set-order")) }).objs.size = s.heap.objs.size + 1 := Heap.size_push ..
        have neI : l ≠ (s.heap.push { cls := .type "set", dict := none, data := .set #[] 0 (.fresh 0 0 (!w.params.followText "set-order")) }).objs.size := by rw [sz1]; exact Nat.ne_of_lt (Nat.lt_succ_of_lt hlS)
        have hSf : s.heap.objs.size ∉ [(s.heap.push { cls := .type "set", dict := none, data := .set #[] 0 (.fresh 0 0 (!w.params.followText "set-order")) }).objs.size, l] := by
          rw [sz1]
          simp only [List.mem_cons, List.mem_singleton, List.not_mem_nil, or_false, not_or]
          exact ⟨Nat.ne_of_lt (Nat.lt_succ_self _), Nat.ne_of_gt hlS⟩
        have hval : ∀ (i : Nat) (v : Value), items[i]? = some v → ∃ k, ks[i]? = some k ∧ RelV (kV k) v := fun i v hv => by
          have hi : i < ks.length := by rw [← isz]; exact (Array.getElem?_eq_some_iff.mp hv).1
          have e1 : (ks.map kV)[i]? = some (kV ks[i]) := by rw [List.getElem?_map, List.getElem?_eq_getElem hi]; rfl
          obtain ⟨u, e2, r⟩ := hit.get e1
          rw [Array.getElem?_toList, hv] at e2
          cases e2
          exact ⟨ks[i], List.getElem?_eq_getElem hi, r⟩
        refine setM_loop ((Walks.tuple hh3 _ l neI items).toS) s.heap.objs.size hSf ks isz hb hval (items.size - 0) 0 _ (by omega) (Nat.zero_le _) ⟨⟨_, Heap.get?_push_size _ rfl, rfl, rfl⟩, (hl1.push _)⟩ ?hS0 ?hR
        case hS0 =>
          have got : ((s.heap.push { cls := .type "set", dict := none, data := .set #[] 0 (.fresh 0 0 (!w.params.followText "set-order")) }).push { cls := .type "tuple_iterator", data := .fields #[.ref l, .int 0 0] }).get? s.heap.objs.size = some { cls := .type "set", dict := none, data := .set #[] 0 (.fresh 0 0 (!w.params.followText "set-order")) } := Heap.get?_push_of_some _ hS
          refine ⟨0, Nat.le_refl 0, (setM_empty (w := w) got).congr fun k => ?_⟩
          rw [List.take_zero]
          rfl
        case hR =>
          intro s' c' mv hc' hS'
          obtain ⟨h', g2, d', tk', os'⟩ := s'
          have eg : g2 = s.gens := mv.gens
          have ed : d' = s.drawn := mv.drawn
          have eo : os' = s.os := mv.os
          subst eg
          subst ed
          subst eo
          show wpAny _ _ _ _ _ _
          refine wpAny_pure ?_
          show wpAny _ _ (ret Value.none) _ _ _
          rw [isz] at hc'
          refine wpAny_pure ⟨rfl, h', tk', c', rfl, hS', hc', fun b o e => ?_⟩
          have lt : b < s.heap.objs.size := Heap.lt_size e
          exact mv.heap b o (by rw [sz1]; simp only [List.mem_cons, List.mem_singleton, List.not_mem_nil, or_false, not_or]; exact ⟨Nat.ne_of_lt lt, Nat.ne_of_lt (Nat.lt_succ_of_lt lt)⟩) (Heap.get?_push_of_some _ (Heap.get?_push_of_some _ e))
      · cases r₂ with
        | error e => exact hr₂
        | ok fl₂ =>
          cases fl₂ with
          | ret r =>
            obtain ⟨rfl, h', tk, c', rfl, hS', hc', hk'⟩ := hr₂
            repeat (any_goals (first | assumption | wp_step))
            exact h _ _ _ hS' hc' hk'
          | _ => exact hr₂.elim
    | _ => exact hr.elim

/-! ### sorted(set) -/
theorem call_sorted_set {S : Key → Bool} {n : Nat} {a : Addr} {Q : Value → Shared → Prop} (R : SetM w s.heap a S n) (hS : ∀ k, S k = true → ∃ z, k = .inr z) (hh : A.handled = none)
    (hQ : ∀ s' p (out : Array Value) (c : Nat) (ys : List Str), (∀ b o, s.heap.get? b = some o → s'.heap.get? b = some o) → s'.gens = s.gens → s'.os = s.os → s.heap.objs.size ≤ p →
      s'.heap.get? p = some (seqObj "list" out c) → StrsAre out.toList ys → sortedS ys = true → ys.Nodup → (∀ z, z ∈ ys ↔ S (.inr z) = true) → ys.length = n → Q (.ref p) s') :
    wpAny (model P w) A (call (.builtin "sorted") [.ref a]) Q E s := by
  obtain ⟨o, es, ep, t, ho, hex, hd, g, nd, hm, hb, hf, hn, hr, hl⟩ := R
  refine Calls.call_function_entry kind_sorted plain_sorted entry_sorted (args_sorted1 _) ?_
  unfold Builtin.«sorted»
  refine wpAny_bind (m := checkCount "sorted" 1 1 _) (wpAny_pure ?_)
  refine wpAny_bind (collect_set (A := A.in1) hh ⟨o, ho, hex.1, hd⟩ hf hb hr hl fun s1 vs k1 hz g1 o1 pm => ?_)
  have hvl : vs.length = n := by rw [pm.length_eq, List.length_map, Array.length_toList]; exact hn
  have lim : vs.length ≤ sizeLine := by rw [hvl, ← hn]; exact fits_of_scanBound hb
  -- the members as texts
  have txt : ∀ e ∈ es.toList, ∃ z tk, e.2 = Value.str z tk ∧ mem1 e = .inr z := fun e he => by
    obtain ⟨z, hz⟩ := hS (mem1 e) ((hm _).2 (List.mem_map_of_mem he))
    have r := (g e he).r
    rw [hz] at r
    obtain ⟨tk, q⟩ := r
    exact ⟨z, tk, q, hz⟩
  have hI : StrsAre vs (vs.map strOf) := strsAre_map vs fun v hv => by
    obtain ⟨e, he, q⟩ := List.mem_map.mp (pm.mem_iff.mp hv)
    obtain ⟨z, tk, h1, _⟩ := txt e he
    exact ⟨z, tk, by rw [← q]; exact h1⟩
  have pk : (vs.map strOf).Perm (es.toList.map fun e => strOf e.2) := by
    have q := pm.map strOf
    rw [List.map_map] at q
    exact q
  have ek : (es.toList.map fun e => (Sum.inr (strOf e.2) : Key)) = es.toList.map mem1 := List.map_congr_left fun e he => by
    obtain ⟨z, tk, h1, h2⟩ := txt e he
    rw [h1, h2]
    rfl
  have kk : ((vs.map strOf).map Sum.inr : List Key).Perm (es.toList.map mem1) := by
    have q := pk.map (Sum.inr : Str → Key)
    rw [List.map_map (f := fun e : Int × Value => strOf e.2)] at q
    rw [← ek]
    exact q
  refine wpAny_bind (wpAny_newList ?_ lim)
  have hoL : (s1.heap.push (seqObj "list" vs.toArray 0)).get? s1.heap.objs.size = some (seqObj "list" vs.toArray 0) := Heap.get?_push_size _ rfl
  refine wpAny_bind (wpAny_holding (wpAny_call_entry slot_list_sort ⟨_, hoL, rfl⟩ entry_list_sort
    (list_sort_treeKAny strKind_oneLt hoL hI.keysOf (fun v₁ v₂ rest e => keyKind_strs (by rw [← e]; exact hI)) lim fun st' hp hs => ⟨_, rfl, ?_⟩) (args_list_sort _)))
  obtain ⟨ys, a1, a2, a3⟩ := sorted_out_str hI hp hs
  obtain ⟨c, hc⟩ := sortedHeap_at (vs := vs) (out := (arrOf st').map (·.2)) hoL
  have yk : (ys.map Sum.inr : List Key).Perm (es.toList.map mem1) := (a2.map Sum.inr).trans kk
  refine wpAny_pure ⟨_, rfl, hQ _ s1.heap.objs.size _ c ys (fun b u e => ?_) g1 o1 hz hc a1 a3 ?_ (fun z => ?_) ?_⟩
  · have q := k1 b u e
    have lt := Heap.lt_size q
    show (sortedHeap (s1.heap.push (seqObj "list" vs.toArray 0)) s1.heap.objs.size vs _).get? b = some u
    rw [sortedHeap_old (Nat.ne_of_lt lt) (by rw [size_push']; exact Nat.lt_succ_of_lt lt)]
    exact Heap.get?_push_of_some _ q
  · have q : (ys.map Sum.inr : List Key).Nodup := yk.nodup_iff.mpr nd
    exact List.Pairwise.imp (fun h e => h (congrArg Sum.inr e)) (List.pairwise_map.mp q)
  · rw [hm, ← yk.mem_iff]
    exact ⟨fun h => List.mem_map_of_mem h, fun h => by
      obtain ⟨y, hy, e⟩ := List.mem_map.mp h
      cases e
      exact hy⟩
  · have q := yk.length_eq
    rw [List.length_map, List.length_map] at q
    rw [q, Array.length_toList]
    exact hn
end
/-! ### as things of the abstract heap -/
def SetMO (w : World) (a : Addr) (S : Key → Bool) (n : Nat) : HO := .ext fun h => SetM w h a S n
theorem setMO_new {w : World} {P : Program} {H : Hp} {h : Heap} {a : Addr} {S : Key → Bool} {n : Nat} (R : SetM w h a S n) : ObjOk P w H h a (SetMO w a S n) := by
  have ⟨o, _, _, _, ho, _⟩ := R
  exact ⟨R, ⟨o, ho⟩, fun h1 h2 p k => SetM.at p k⟩
section
variable {X : Cx}
/-- set(xs) of a list or a tuple of texts and ints -/
def rSetOf (K : PySem.W.Frag) (w : World) : List V → Hp → VK → Prop := fun xs H Q => ∃ (l : Addr) (ks : List Key), xs = [.ref l] ∧ (SqL K H l (ks.map kV) ∨ SqT K H l (ks.map kV)) ∧ ks.length ≤ 4000 ∧
  ∀ p n, H p = none → n ≤ ks.length → Q (.ref p) (upd H p (SetMO w p (fun j => isin ks j) n))
theorem scan_room {n : Nat} (h : n ≤ 4000) : n + 1 < scanBound := Nat.lt_of_le_of_lt (Nat.succ_le_succ h) (by decide)
theorem call_setOf (hc : X.calm = true) : CallR X (.type "set") (rSetOf X.K X.w) := by
  intro pins s σ H xs us Q I r h
  obtain ⟨l, ks, rfl, hq, hz, q⟩ := h
  rw [Vals.ref1 r]
  have fin : ∀ (h' : Heap) (tk c : Nat), SetM X.w h' s.heap.objs.size (fun j => isin ks j) c → c ≤ ks.length → (∀ b o, s.heap.get? b = some o → h'.get? b = some o) → EP X pins σ Q (.ref s.heap.objs.size) { s with heap := h', toks := tk } := fun h' tk c hS hle k =>
    ⟨.ref _, upd H s.heap.objs.size (SetMO X.w s.heap.objs.size (fun j => isin ks j) c), I.laid (t' := tk) k (Nat.le_refl _) (setMO_new hS), rfl, q _ c (I.hok.fresh (Nat.le_refl _)) hle⟩
  rcases hq with hq | hq
  · obtain ⟨its, rv, hl, _⟩ := I.list hq
    exact call_set_list ks (I.ok.hd hc) hl.isList rv (scan_room hz) fin
  · obtain ⟨its, rv, ⟨o, e1, e2, m, e3⟩, _⟩ := I.tuple hq
    exact call_set_tuple ks (I.ok.hd hc) ⟨o, e1, e2, m, e3⟩ rv (scan_room hz) fin
/-- sorted(found), all members texts -/
def rSortedM (w : World) : List V → Hp → VK → Prop := fun vs H Q => ∃ (a : Addr) (S : Key → Bool) (n : Nat), vs = [V.ref a] ∧ H a = some (SetMO w a S n) ∧ n ≤ 4000 ∧ (∀ k, S k = true → ∃ z, k = .inr z) ∧
  ∀ (ys : List Str) (p : Addr), sortedS ys = true → ys.Nodup → (∀ z, z ∈ ys ↔ S (.inr z) = true) → ys.length = n → H p = none → Q (.ref p) (upd H p (.lst (ys.map V.str)))
theorem call_sortedM (hc : X.calm = true) : CallR X (.builtin "sorted") (rSortedM X.w) := by
  intro pins s σ H vs us Q I r h
  obtain ⟨a, S, n, rfl, ha, lim, tx, q⟩ := h
  have R : SetM X.w s.heap a S n := (I.hok a _ ha).1
  rw [Vals.ref1 r]
  refine call_sorted_set R tx (I.ok.hd hc) fun s' p out c ys k g o hp hg hi hs nd hm hl => ?_
  have hlen : (ys.map V.str).length ≤ sizeLine := by rw [List.length_map, hl]; exact Nat.le_trans lim (by decide)
  have hn : H p = none := I.hok.fresh hp
  have J : Inv X pins σ (upd H p (.lst (ys.map V.str))) { s with heap := s'.heap, gens := s'.gens, drawn := s'.drawn, toks := s'.toks } :=
    I.call (ch := []) (Un.laid k hp hn) (I.hok.laid k hp ⟨hlen, out.toList, c, vals_of_strs hi, hg⟩) (by rw [g]; exact I.bare) (fun _ z => nomatch z)
  have e : s' = { s with heap := s'.heap, gens := s'.gens, drawn := s'.drawn, toks := s'.toks } := by
    cases s'
    cases s
    cases o
    rfl
  rw [e]
  exact ⟨.ref p, _, J, rfl, q ys p hs nd hm hl hn⟩
/-- sorted(xs), a list of texts of any length -/
def rSortedA (K : PySem.W.Frag) : List V → Hp → VK → Prop := fun vs H Q => ∃ (a : Addr) (xs : List Str), vs = [V.ref a] ∧ SqL K H a (xs.map V.str) ∧
  ∀ (ys : List Str) (p : Addr), ys.Perm xs → sortedS ys = true → H p = none → Q (.ref p) (upd H p (.lst (ys.map V.str)))
theorem call_sortedA : CallR X (.builtin "sorted") (rSortedA X.K) := by
  intro pins s σ H vs us Q I r h
  obtain ⟨a, xs, rfl, hs, q⟩ := h
  obtain ⟨its, rv, hl, lim⟩ := I.list hs
  rw [Vals.ref1 r]
  have n0 := rv.length
  refine sorted_strsAny hl.isList rv.strs (by rw [← n0]; exact lim) fun out ys h1 h2 h3 => ?_
  obtain ⟨ep, he'⟩ := sortedAll_at s.heap its out
  have hlen : (ys.map V.str).length ≤ sizeLine := by
    rw [List.length_map, h2.length_eq]
    rw [List.length_map] at lim
    exact lim
  exact ⟨.ref _, upd H (s.heap.objs.size + 1) (.lst (ys.map V.str)), I.laid (t' := s.toks) (fun _ _ => sortedAll_old) (Nat.le_succ _) ⟨hlen, out.toList, ep, vals_of_strs h1, he'⟩, rfl, q ys _ h2 h3 (I.hok.fresh (Nat.le_succ _))⟩
end
end UL

set_option Elab.async false
set_option linter.all false
set_option maxRecDepth 100000
/-! own: texts in ascending order without duplicates -/
namespace UL
open PySem PySem.Spec PyProof.Rows L2 Evl TL

def ltS (a b : Str) : Bool := ltCps a.cps.toList b.cps.toList
theorem lt_iff {a b : Str} : ltS a b = true ↔ a.cps.toList < b.cps.toList := by
  unfold ltS
  rw [ltCps_eq, decide_eq_true_eq]
theorem str_eq {a b : Str} (h : a.cps.toList = b.cps.toList) : a = b := by
  cases a
  cases b
  simpa using h
theorem lt_irr (a : Str) : ltS a a = false := by
  cases h : ltS a a with
  | false => rfl
  | true => exact absurd (lt_iff.mp h) (List.lt_irrefl _)
theorem lt_tr {a b c : Str} (h1 : ltS a b = true) (h2 : ltS b c = true) : ltS a c = true := lt_iff.mpr (List.lt_trans (lt_iff.mp h1) (lt_iff.mp h2))
theorem lt_tot {a b : Str} (h : ltS a b = false) : ltS b a = true ∨ a = b := by
  have h' : ¬ a.cps.toList < b.cps.toList := fun z => by rw [lt_iff.mpr z] at h; cases h
  by_cases e : b.cps.toList < a.cps.toList
  · exact .inl (lt_iff.mpr e)
  · exact .inr (str_eq (List.le_antisymm (List.not_lt.mp e) (List.not_lt.mp h')))
theorem lt_asym {a b : Str} (h : ltS a b = true) : ltS b a = false := by
  cases q : ltS b a with
  | false => rfl
  | true =>
    have := lt_tr h q
    rw [lt_irr] at this
    cases this
theorem lt_ne {a b : Str} (h : ltS a b = true) : a ≠ b := by
  rintro rfl
  rw [lt_irr] at h
  cases h

/-- strictly ascending -/
def Ris (xs : List Str) : Prop := xs.Pairwise fun a b => ltS a b = true
def ins (z : Str) : List Str → List Str
  | [] => [z]
  | x :: r => if ltS z x = true then z :: x :: r else if z = x then x :: r else x :: ins z r
def asc (xs : List Str) : List Str := xs.foldr ins []
theorem mem_ins' {z y : Str} : ∀ {xs : List Str}, y ∈ ins z xs ↔ y = z ∨ y ∈ xs
  | [] => by simp [ins]
  | x :: r => by
    unfold ins
    by_cases h1 : ltS z x = true
    · rw [if_pos h1, List.mem_cons]
    · rw [if_neg h1]
      by_cases h2 : z = x
      · rw [if_pos h2]
        subst h2
        simp
      · rw [if_neg h2, List.mem_cons, mem_ins', List.mem_cons]
        exact ⟨fun h => by rcases h with h | h | h <;> simp [h], fun h => by rcases h with h | h | h <;> simp [h]⟩
theorem mem_asc {y : Str} : ∀ {xs : List Str}, y ∈ asc xs ↔ y ∈ xs
  | [] => Iff.rfl
  | x :: r => by
    show y ∈ ins x (asc r) ↔ _
    rw [mem_ins', mem_asc, List.mem_cons]
theorem ris_ins {z : Str} : ∀ {xs : List Str}, Ris xs → Ris (ins z xs)
  | [], _ => List.pairwise_singleton _ _
  | x :: r, h => by
    obtain ⟨h1, h2⟩ := List.pairwise_cons.mp h
    unfold ins
    by_cases e1 : ltS z x = true
    · rw [if_pos e1]
      refine List.pairwise_cons.mpr ⟨fun y hy => ?_, h⟩
      rcases List.mem_cons.mp hy with rfl | hy
      · exact e1
      · exact lt_tr e1 (h1 y hy)
    · rw [if_neg e1]
      by_cases e2 : z = x
      · rw [if_pos e2]
        exact h
      · rw [if_neg e2]
        refine List.pairwise_cons.mpr ⟨fun y hy => ?_, ris_ins h2⟩
        rcases mem_ins'.mp hy with rfl | hy
        · exact (lt_tot (by simpa using e1)).resolve_right e2
        · exact h1 y hy
theorem asc_ris : ∀ xs : List Str, Ris (asc xs)
  | [] => List.Pairwise.nil
  | x :: r => ris_ins (asc_ris r)
theorem ris_ext : ∀ {xs ys : List Str}, Ris xs → Ris ys → (∀ z, z ∈ xs ↔ z ∈ ys) → xs = ys
  | [], [], _, _, _ => rfl
  | [], y :: _, _, _, h => absurd ((h y).mpr List.mem_cons_self) (by simp)
  | x :: _, [], _, _, h => absurd ((h x).mp List.mem_cons_self) (by simp)
  | x :: r, y :: t, h1, h2, h => by
    obtain ⟨a1, a2⟩ := List.pairwise_cons.mp h1
    obtain ⟨b1, b2⟩ := List.pairwise_cons.mp h2
    have e : x = y := by
      rcases List.mem_cons.mp ((h x).mp List.mem_cons_self) with e | e
      · exact e
      · rcases List.mem_cons.mp ((h y).mpr List.mem_cons_self) with q | q
        · exact q.symm
        · have := lt_asym (b1 x e)
          rw [a1 y q] at this
          cases this
    subst e
    refine congrArg (x :: ·) (ris_ext a2 b2 fun z => ⟨fun hz => ?_, fun hz => ?_⟩)
    · rcases List.mem_cons.mp ((h z).mp (List.mem_cons_of_mem _ hz)) with e | e
      · exact absurd e.symm (lt_ne (a1 z hz))
      · exact e
    · rcases List.mem_cons.mp ((h z).mpr (List.mem_cons_of_mem _ hz)) with e | e
      · exact absurd e.symm (lt_ne (b1 z hz))
      · exact e
theorem asc_ext {xs ys : List Str} (h : ∀ z, z ∈ xs ↔ z ∈ ys) : asc xs = asc ys := ris_ext (asc_ris _) (asc_ris _) fun z => by rw [mem_asc, mem_asc, h]
theorem asc_id {xs : List Str} (h : Ris xs) : asc xs = xs := ris_ext (asc_ris _) h fun _ => mem_asc
theorem ris_nodup {xs : List Str} (h : Ris xs) : xs.Nodup := List.Pairwise.imp (fun q => lt_ne q) h
theorem sorted_pair {xs : List Str} (h : sortedS xs = true) : xs.Pairwise fun a b => ltS b a = false := by
  have go : ∀ (p : Str) (r : List Str), risingS p r = true → (∀ y ∈ r, ltS y p = false) ∧ r.Pairwise fun a b => ltS b a = false := by
    intro p r
    induction r generalizing p with
    | nil => exact fun _ => ⟨fun _ h => (nomatch h), List.Pairwise.nil⟩
    | cons x t ih =>
      intro h
      have h' : (!ltCps x.cps.toList p.cps.toList && risingS x t) = true := h
      rw [Bool.and_eq_true] at h'
      have hx : ltS x p = false := by simpa [ltS] using h'.1
      obtain ⟨i1, i2⟩ := ih x h'.2
      refine ⟨fun y hy => ?_, List.pairwise_cons.mpr ⟨i1, i2⟩⟩
      rcases List.mem_cons.mp hy with rfl | hy
      · exact hx
      · cases q : ltS y p with
        | false => rfl
        | true =>
          rcases lt_tot hx with e | e
          · have := lt_tr q e
            rw [i1 y hy] at this
            cases this
          · subst e
            rw [i1 y hy] at q
            cases q
  cases xs with
  | nil => exact List.Pairwise.nil
  | cons p r =>
    obtain ⟨g1, g2⟩ := go p r h
    exact List.pairwise_cons.mpr ⟨g1, g2⟩
theorem ris_of_sorted {xs : List Str} (h : sortedS xs = true) (nd : xs.Nodup) : Ris xs :=
  List.Pairwise.imp₂ (fun a b q1 q2 => (lt_tot q1).resolve_right fun e => q2 e.symm) (sorted_pair h) nd
theorem asc_of {xs ys : List Str} (h : sortedS ys = true) (nd : ys.Nodup) (hm : ∀ z, z ∈ ys ↔ z ∈ xs) : ys = asc xs := ris_ext (ris_of_sorted h nd) (asc_ris _) fun z => by rw [mem_asc, hm]
theorem nd_len {U : List Str} : ∀ {xs : List Str}, xs.Nodup → (∀ z ∈ xs, z ∈ U) → xs.length ≤ U.length := by
  intro xs
  induction xs generalizing U with
  | nil => exact fun _ _ => Nat.zero_le _
  | cons x r ih =>
    intro nd h
    obtain ⟨n1, n2⟩ := List.nodup_cons.mp nd
    have hx := h x List.mem_cons_self
    have h2 := ih (U := U.erase x) n2 fun z hz => (List.mem_erase_of_ne fun e => n1 (by rw [← e]; exact hz)).mpr (h z (List.mem_cons_of_mem _ hz))
    rw [List.length_erase_of_mem hx] at h2
    have h3 : 0 < U.length := List.length_pos_of_mem hx
    rw [List.length_cons]
    omega
theorem asc_len {xs U : List Str} (h : ∀ z ∈ xs, z ∈ U) : (asc xs).length ≤ U.length := nd_len (ris_nodup (asc_ris _)) fun z hz => h z (mem_asc.mp hz)
theorem asc_le (xs : List Str) : (asc xs).length ≤ xs.length := asc_len fun _ h => h
/-- the duplicates taken out of what is sorted -/
theorem asc_snoc {xs : List Str} {y : Str} (h : ∀ z ∈ xs, ltS y z = false) : asc (xs ++ [y]) = if y ∈ xs then asc xs else asc xs ++ [y] := by
  by_cases e : y ∈ xs
  · rw [if_pos e]
    refine asc_ext fun z => ?_
    rw [List.mem_append, List.mem_singleton]
    exact ⟨fun q => q.elim id fun q => q ▸ e, .inl⟩
  · rw [if_neg e]
    refine ris_ext (asc_ris _) ?_ fun z => by rw [mem_asc, List.mem_append, List.mem_append, mem_asc]
    refine List.pairwise_append.mpr ⟨asc_ris _, List.pairwise_singleton _ _, fun a ha b hb => ?_⟩
    rw [List.mem_singleton.mp hb]
    rw [mem_asc] at ha
    exact (lt_tot (h a ha)).resolve_right fun q => e (q ▸ ha)
theorem ris_sorted {xs : List Str} (h : Ris xs) : sortedS xs = true := by
  refine sortedS_of_pairwise _ (List.Pairwise.imp (fun q => ?_) h)
  exact lt_asym q
end UL

set_option Elab.async false
set_option linter.all false
set_option maxRecDepth 100000
/-! own: effects as plain data: joined, in turn, repeated, replaced -/
namespace UL
open PySem PySem.Spec PyProof.Rows L2 Evl TL

structure Fx where
  bad : Bool
  seen : List Str
  g : Str → List Str
def dd : Str := "dead"
def nrm (bad : Bool) (ts : List Str) : List Str := if bad = true ∨ dd ∈ ts then [dd] else asc ts
def mkF (bad : Bool) (seen : List Str) (g : Str → List Str) : Fx := ⟨bad, if bad = true then [] else asc seen, fun o => nrm bad (g o)⟩
def joined (e f : Fx) : Fx := mkF (e.bad || f.bad) (e.seen ++ f.seen) fun o => e.g o ++ f.g o
def before (os : List Str) (e : Fx) (ts : List Str) : List Str := ts.flatMap fun t => if t ∈ os then e.g t else [t]
def turned (os : List Str) (e f : Fx) : Fx :=
  mkF (e.bad || f.bad || decide (dd ∈ before os e f.seen)) (e.seen ++ (before os e f.seen).filter fun t => decide (t ∈ os)) fun o => before os e (f.g o)
def empty : Fx := mkF false [] fun o => [o]
/-- the same over these outs -/
structure Same (os : List Str) (e f : Fx) : Prop where
  bad : e.bad = f.bad
  seen : e.seen = f.seen
  g : ∀ o ∈ os, e.g o = f.g o
/-- in the normal form -/
structure Nrm (os : List Str) (e : Fx) : Prop where
  b1 : e.bad = true → e.seen = []
  b2 : e.bad = true → ∀ o ∈ os, e.g o = [dd]
  ss : Ris e.seen
  so : ∀ z ∈ e.seen, z ∈ os
  gr : ∀ o ∈ os, Ris (e.g o)
  gd : ∀ o ∈ os, dd ∈ e.g o → e.g o = [dd]
theorem Same.refl (os : List Str) (e : Fx) : Same os e e := ⟨rfl, rfl, fun _ _ => rfl⟩
theorem Same.symm {os : List Str} {e f : Fx} (h : Same os e f) : Same os f e := ⟨h.bad.symm, h.seen.symm, fun o ho => (h.g o ho).symm⟩
theorem Same.trans {os : List Str} {e f k : Fx} (h : Same os e f) (h' : Same os f k) : Same os e k := ⟨h.bad.trans h'.bad, h.seen.trans h'.seen, fun o ho => (h.g o ho).trans (h'.g o ho)⟩
theorem mem_before {os : List Str} {e : Fx} {ts : List Str} {z : Str} : z ∈ before os e ts ↔ ∃ t ∈ ts, (t ∈ os ∧ z ∈ e.g t) ∨ (t ∉ os ∧ z = t) := by
  unfold before
  rw [List.mem_flatMap]
  refine exists_congr fun t => and_congr_right fun _ => ?_
  by_cases h : t ∈ os
  · rw [if_pos h]
    exact ⟨fun q => .inl ⟨h, q⟩, fun q => q.elim (·.2) fun q => absurd h q.1⟩
  · rw [if_neg h, List.mem_singleton]
    exact ⟨fun q => .inr ⟨h, q⟩, fun q => q.elim (fun q => absurd q.1 h) (·.2)⟩
theorem mem_nrm {b : Bool} {ts : List Str} {z : Str} : z ∈ nrm b ts ↔ (z = dd ∧ (b = true ∨ dd ∈ ts)) ∨ (b = false ∧ dd ∉ ts ∧ z ∈ ts) := by
  unfold nrm
  by_cases h : b = true ∨ dd ∈ ts
  · rw [if_pos h, List.mem_singleton]
    grind
  · rw [if_neg h, mem_asc]
    grind
theorem ris_one (z : Str) : Ris [z] := List.pairwise_singleton _ _
theorem ris_nrm (b : Bool) (ts : List Str) : Ris (nrm b ts) := by
  unfold nrm
  split
  · exact ris_one _
  · exact asc_ris _
theorem nrm_dd {b : Bool} {ts : List Str} (h : dd ∈ nrm b ts) : nrm b ts = [dd] := by
  unfold nrm at h ⊢
  by_cases q : b = true ∨ dd ∈ ts
  · rw [if_pos q]
  · rw [if_neg q, mem_asc] at h
    exact absurd (.inr h) q
theorem nrm_mk {os : List Str} {b : Bool} {ls : List Str} {g : Str → List Str} (h : ∀ z ∈ ls, z ∈ os) : Nrm os (mkF b ls g) where
  b1 := fun e => by
    have e : b = true := e
    show (if b = true then [] else asc ls) = []
    rw [if_pos e]
  b2 := fun e o _ => by
    have e : b = true := e
    show nrm b (g o) = [dd]
    unfold nrm
    rw [if_pos (.inl e)]
  ss := by
    show Ris (if b = true then [] else asc ls)
    split
    · exact List.Pairwise.nil
    · exact asc_ris _
  so := fun z hz => by
    have hz : z ∈ (if b = true then [] else asc ls) := hz
    split at hz
    · cases hz
    · exact h z (mem_asc.mp hz)
  gr := fun o _ => ris_nrm _ _
  gd := fun o _ q => nrm_dd q
theorem nrm_of {b : Bool} {ts : List Str} (h1 : Ris ts) (h2 : b = true → ts = [dd]) (h3 : dd ∈ ts → ts = [dd]) : nrm b ts = ts := by
  unfold nrm
  by_cases q : b = true ∨ dd ∈ ts
  · rw [if_pos q]
    exact (q.elim h2 h3).symm
  · rw [if_neg q]
    exact asc_id h1
/-- equal by membership alone -/
theorem same_of {os : List Str} {e f : Fx} (ne : Nrm os e) (nf : Nrm os f) (hb : e.bad = f.bad) (hs : ∀ z, z ∈ e.seen ↔ z ∈ f.seen) (hg : ∀ o ∈ os, ∀ z, z ∈ e.g o ↔ z ∈ f.g o) : Same os e f :=
  ⟨hb, ris_ext ne.ss nf.ss hs, fun o ho => ris_ext (ne.gr o ho) (nf.gr o ho) (hg o ho)⟩
theorem mem_seen {b : Bool} {ls : List Str} {g : Str → List Str} {z : Str} : z ∈ (mkF b ls g).seen ↔ b = false ∧ z ∈ ls := by
  show z ∈ (if b = true then [] else asc ls) ↔ _
  cases b <;> simp [mem_asc]
theorem joined_nrm {os : List Str} {e f : Fx} (ne : Nrm os e) (nf : Nrm os f) : Nrm os (joined e f) := nrm_mk fun z hz => (List.mem_append.mp hz).elim (ne.so z) (nf.so z)
theorem turned_nrm {os : List Str} {e f : Fx} (ne : Nrm os e) : Nrm os (turned os e f) := nrm_mk fun z hz => (List.mem_append.mp hz).elim (ne.so z) fun q => of_decide_eq_true (List.mem_filter.mp q).2
theorem empty_nrm (os : List Str) : Nrm os empty := nrm_mk fun _ h => (nomatch h)
theorem before_same {os : List Str} {e e' : Fx} (h : Same os e e') (ts : List Str) : before os e ts = before os e' ts := by
  have q : (fun t => if t ∈ os then e.g t else [t]) = fun t => if t ∈ os then e'.g t else [t] := by
    funext t
    by_cases ht : t ∈ os
    · rw [if_pos ht, if_pos ht, h.g t ht]
    · rw [if_neg ht, if_neg ht]
  unfold before
  rw [q]
theorem joined_same {os : List Str} {e e' f f' : Fx} (h : Same os e e') (h' : Same os f f') : Same os (joined e f) (joined e' f') := by
  refine ⟨by show (e.bad || f.bad) = _; rw [h.bad, h'.bad]; rfl, ?_, fun o ho => ?_⟩
  · show (if (e.bad || f.bad) = true then [] else asc (e.seen ++ f.seen)) = _
    rw [h.bad, h'.bad, h.seen, h'.seen]
    rfl
  · show nrm (e.bad || f.bad) (e.g o ++ f.g o) = nrm (e'.bad || f'.bad) (e'.g o ++ f'.g o)
    rw [h.bad, h'.bad, h.g o ho, h'.g o ho]
theorem turned_same {os : List Str} {e e' f f' : Fx} (h : Same os e e') (h' : Same os f f') : Same os (turned os e f) (turned os e' f') := by
  refine ⟨?_, ?_, fun o ho => ?_⟩
  · show (e.bad || f.bad || decide (dd ∈ before os e f.seen)) = _
    rw [h.bad, h'.bad, h'.seen, before_same h]
    rfl
  · show (if (e.bad || f.bad || decide (dd ∈ before os e f.seen)) = true then [] else asc (e.seen ++ (before os e f.seen).filter fun t => decide (t ∈ os))) = _
    rw [h.bad, h'.bad, h'.seen, before_same h, h.seen]
    rfl
  · show nrm _ (before os e (f.g o)) = nrm _ (before os e' (f'.g o))
    rw [h'.g o ho, before_same h, before_same h (f'.g o), h.bad, h'.bad, h'.seen]
/-! ### what holds of / -/
theorem joined_comm {os : List Str} {e f : Fx} (ne : Nrm os e) (nf : Nrm os f) : Same os (joined e f) (joined f e) := by
  refine same_of (joined_nrm ne nf) (joined_nrm nf ne) (Bool.or_comm _ _) (fun z => ?_) fun o ho z => ?_
  · unfold joined
    rw [mem_seen, mem_seen, Bool.or_comm, List.mem_append, List.mem_append, Or.comm]
  · show z ∈ nrm _ _ ↔ z ∈ nrm _ _
    rw [mem_nrm, mem_nrm, Bool.or_comm]
    simp only [List.mem_append]
    grind
theorem joined_self {os : List Str} {e : Fx} (ne : Nrm os e) : Same os (joined e e) e := by
  refine same_of (joined_nrm ne ne) ne (Bool.or_self _) (fun z => ?_) fun o ho z => ?_
  · unfold joined
    rw [mem_seen, Bool.or_self]
    have := ne.b1
    grind
  · show z ∈ nrm _ _ ↔ _
    rw [mem_nrm, Bool.or_self]
    simp only [List.mem_append]
    have h1 := fun q => ne.b2 q o ho
    have h2 := ne.gd o ho
    grind
/-- two effects in the normal form that mean the same -/
theorem mk_same {os : List Str} {b b' : Bool} {ls ls' : List Str} {g g' : Str → List Str} (hb : b = b') (hs : b = false → ∀ z, z ∈ ls ↔ z ∈ ls')
    (hg : b = false → ∀ o ∈ os, (dd ∈ g o ↔ dd ∈ g' o) ∧ (dd ∉ g o → ∀ z, z ∈ g o ↔ z ∈ g' o)) : Same os (mkF b ls g) (mkF b' ls' g') := by
  subst hb
  refine ⟨rfl, ?_, fun o ho => ?_⟩
  · show (if b = true then [] else asc ls) = if b = true then [] else asc ls'
    cases b with
    | true => rfl
    | false => exact asc_ext (hs rfl)
  · show nrm b (g o) = nrm b (g' o)
    unfold nrm
    cases b with
    | true => rw [if_pos (.inl rfl), if_pos (.inl rfl)]
    | false =>
      obtain ⟨h1, h2⟩ := hg rfl o ho
      by_cases q : dd ∈ g o
      · rw [if_pos (.inr q), if_pos (.inr (h1.mp q))]
      · rw [if_neg (by simp [q]), if_neg (by simp [h1.symm, q])]
        exact asc_ext (h2 q)
theorem mem_nrmF {ts : List Str} {z : Str} : z ∈ nrm false ts ↔ (z = dd ∧ dd ∈ ts) ∨ (dd ∉ ts ∧ z ∈ ts) := by
  rw [mem_nrm]
  simp
theorem joined_assoc {os : List Str} {e f k : Fx} : Same os (joined (joined e f) k) (joined e (joined f k)) := by
  refine mk_same (Bool.or_assoc _ _ _) (fun hb z => ?_) fun hb o ho => ?_
  · have hb : ((e.bad || f.bad) || k.bad) = false := hb
    rw [Bool.or_eq_false_iff, Bool.or_eq_false_iff] at hb
    obtain ⟨⟨h1, h2⟩, h3⟩ := hb
    rw [List.mem_append, List.mem_append]
    unfold joined
    rw [mem_seen, mem_seen, h1, h2, h3, List.mem_append, List.mem_append]
    simp [or_assoc]
  · have hb : ((e.bad || f.bad) || k.bad) = false := hb
    rw [Bool.or_eq_false_iff, Bool.or_eq_false_iff] at hb
    obtain ⟨⟨h1, h2⟩, h3⟩ := hb
    show (dd ∈ nrm (e.bad || f.bad) (e.g o ++ f.g o) ++ k.g o ↔ dd ∈ e.g o ++ nrm (f.bad || k.bad) (f.g o ++ k.g o)) ∧ (dd ∉ nrm (e.bad || f.bad) (e.g o ++ f.g o) ++ k.g o → ∀ z, z ∈ nrm (e.bad || f.bad) (e.g o ++ f.g o) ++ k.g o ↔ z ∈ e.g o ++ nrm (f.bad || k.bad) (f.g o ++ k.g o))
    rw [h1, h2, h3]
    simp only [List.mem_append, Bool.or_self, mem_nrmF]
    grind
theorem joined_empty {os : List Str} {e : Fx} : Same os (joined empty e) (joined empty e) := Same.refl _ _
/-! ### what holds of >> -/
theorem before_nrm {os : List Str} {e : Fx} {b : Bool} {ts : List Str} {z : Str} (nd : dd ∉ os) : z ∈ before os e (nrm b ts) ↔ ((b = true ∨ dd ∈ ts) ∧ z = dd) ∨ (b = false ∧ dd ∉ ts ∧ z ∈ before os e ts) := by
  unfold nrm
  by_cases h : b = true ∨ dd ∈ ts
  · rw [if_pos h, mem_before]
    grind
  · rw [if_neg h, mem_before, mem_before]
    simp only [mem_asc]
    grind
theorem before_dd {os : List Str} {e : Fx} {ts : List Str} (nd : dd ∉ os) (h : dd ∈ ts) : dd ∈ before os e ts := mem_before.mpr ⟨dd, h, .inr ⟨nd, rfl⟩⟩
theorem before_app {os : List Str} {e : Fx} {ts us : List Str} {z : Str} : z ∈ before os e (ts ++ us) ↔ z ∈ before os e ts ∨ z ∈ before os e us := by
  unfold before
  rw [List.flatMap_append, List.mem_append]
theorem before_asc {os : List Str} {e : Fx} {ts : List Str} {z : Str} : z ∈ before os e (asc ts) ↔ z ∈ before os e ts := by
  rw [mem_before, mem_before]
  simp only [mem_asc]
theorem before_two {os : List Str} {e f : Fx} {ts : List Str} {z : Str} : z ∈ before os e (before os f ts) ↔ ∃ t ∈ ts, (t ∈ os ∧ z ∈ before os e (f.g t)) ∨ (t ∉ os ∧ z = t) := by
  rw [mem_before]
  constructor
  · rintro ⟨u, hu, h⟩
    obtain ⟨t, ht, h'⟩ := mem_before.mp hu
    refine ⟨t, ht, ?_⟩
    rcases h' with ⟨h1, h2⟩ | ⟨h1, rfl⟩
    · exact .inl ⟨h1, mem_before.mpr ⟨u, h2, h⟩⟩
    · exact .inr ⟨h1, h.elim (fun q => absurd q.1 h1) (·.2)⟩
  · rintro ⟨t, ht, ⟨h1, h2⟩ | ⟨h1, rfl⟩⟩
    · obtain ⟨u, hu, h⟩ := mem_before.mp h2
      exact ⟨u, mem_before.mpr ⟨t, ht, .inl ⟨h1, hu⟩⟩, h⟩
    · exact ⟨z, mem_before.mpr ⟨z, ht, .inr ⟨h1, rfl⟩⟩, .inr ⟨h1, rfl⟩⟩
/-- through an effect in turn -/
theorem before_turned {os : List Str} {e f : Fx} {ts : List Str} (nd : dd ∉ os) (hb : (turned os e f).bad = false) :
    (dd ∈ before os (turned os e f) ts ↔ dd ∈ before os e (before os f ts)) ∧ (dd ∉ before os e (before os f ts) → ∀ z, z ∈ before os (turned os e f) ts ↔ z ∈ before os e (before os f ts)) := by
  have hg : ∀ t, (turned os e f).g t = nrm false (before os e (f.g t)) := fun t => by
    show nrm (turned os e f).bad _ = _
    rw [hb]
  have main : ∀ z, z ∈ before os (turned os e f) ts ↔ ∃ t ∈ ts, (t ∈ os ∧ ((z = dd ∧ dd ∈ before os e (f.g t)) ∨ (dd ∉ before os e (f.g t) ∧ z ∈ before os e (f.g t)))) ∨ (t ∉ os ∧ z = t) := fun z => by
    rw [mem_before]
    simp only [hg, mem_nrmF]
  refine ⟨?_, fun no z => ?_⟩
  · rw [main, before_two]
    refine exists_congr fun t => and_congr_right fun _ => ?_
    grind
  · rw [main, before_two]
    rw [before_two] at no
    refine exists_congr fun t => and_congr_right fun ht => ?_
    have : ¬ (t ∈ os ∧ dd ∈ before os e (f.g t)) := fun q => no ⟨t, ht, .inl q⟩
    have : ¬ (t ∉ os ∧ dd = t) := fun q => no ⟨t, ht, .inr q⟩
    grind
theorem before_filter {os : List Str} {e : Fx} {ts : List Str} {z : Str} : z ∈ before os e ts ↔ z ∈ before os e (ts.filter fun t => decide (t ∈ os)) ∨ (z ∉ os ∧ z ∈ ts) := by
  rw [mem_before, mem_before]
  simp only [List.mem_filter, decide_eq_true_eq]
  grind
theorem turned_bad {os : List Str} {e f : Fx} : (turned os e f).bad = true ↔ e.bad = true ∨ f.bad = true ∨ dd ∈ before os e f.seen := by
  show (e.bad || f.bad || decide (dd ∈ before os e f.seen)) = true ↔ _
  rw [Bool.or_eq_true, Bool.or_eq_true, decide_eq_true_eq, or_assoc]
theorem turned_seen {os : List Str} {e f : Fx} {z : Str} (h : (turned os e f).bad = false) : z ∈ (turned os e f).seen ↔ z ∈ e.seen ∨ (z ∈ os ∧ z ∈ before os e f.seen) := by
  have h' : (e.bad || f.bad || decide (dd ∈ before os e f.seen)) = false := h
  unfold turned
  rw [mem_seen, List.mem_append, List.mem_filter, decide_eq_true_eq]
  grind
theorem bad_eq {b b' : Bool} (h : b = true ↔ b' = true) : b = b' := by
  cases b <;> cases b' <;> simp_all
theorem not_true {b : Bool} : b = false ↔ ¬ b = true := by cases b <;> simp
theorem turned_assoc {os : List Str} {e f k : Fx} (nd : dd ∉ os) : Same os (turned os (turned os e f) k) (turned os e (turned os f k)) := by
  have hb : (turned os (turned os e f) k).bad = (turned os e (turned os f k)).bad := by
    refine bad_eq ?_
    rw [turned_bad (e := turned os e f), turned_bad (e := e) (f := turned os f k)]
    by_cases h2 : (turned os f k).bad = true
    · -- what is bad behind is bad before
      refine ⟨fun _ => .inr (.inl h2), fun _ => ?_⟩
      rcases turned_bad.mp h2 with q | q | q
      · exact .inl (turned_bad.mpr (.inr (.inl q)))
      · exact .inr (.inl q)
      · by_cases h1 : (turned os e f).bad = true
        · exact .inl h1
        · exact .inr (.inr ((before_turned nd (not_true.mpr h1)).1.mpr (before_dd nd q)))
    · have sk : ∀ z, z ∈ (turned os f k).seen ↔ z ∈ f.seen ∨ (z ∈ os ∧ z ∈ before os f k.seen) := fun z => turned_seen (not_true.mpr h2)
      have up : dd ∈ before os e (turned os f k).seen ↔ dd ∈ before os e f.seen ∨ dd ∈ before os e (before os f k.seen) := by
        have no : dd ∉ before os f k.seen := fun q => h2 (turned_bad.mpr (.inr (.inr q)))
        rw [before_filter (ts := before os f k.seen)]
        rw [mem_before, mem_before, mem_before]
        simp only [sk, List.mem_filter, decide_eq_true_eq]
        grind
      have h2' : ¬ k.bad = true := fun q => h2 (turned_bad.mpr (.inr (.inl q)))
      have h3' : ¬ f.bad = true := fun q => h2 (turned_bad.mpr (.inl q))
      by_cases h1 : (turned os e f).bad = true
      · refine ⟨fun _ => ?_, fun _ => .inl h1⟩
        rcases turned_bad.mp h1 with q | q | q
        · exact .inl q
        · exact absurd q h3'
        · exact .inr (.inr (up.mpr (.inl q)))
      · rw [up, (before_turned nd (not_true.mpr h1)).1]
        have : ¬ e.bad = true := fun q => h1 (turned_bad.mpr (.inl q))
        have : ¬ dd ∈ before os e f.seen := fun q => h1 (turned_bad.mpr (.inr (.inr q)))
        grind
  have clean : (turned os (turned os e f) k).bad = false → (turned os e f).bad = false ∧ (turned os f k).bad = false := fun h => by
    have h1 : ¬ _ := not_true.mp h
    have h2 : ¬ _ := not_true.mp (hb ▸ h)
    rw [turned_bad (e := turned os e f)] at h1
    rw [turned_bad (e := e) (f := turned os f k)] at h2
    exact ⟨not_true.mpr fun q => h1 (.inl q), not_true.mpr fun q => h2 (.inr (.inl q))⟩
  refine mk_same hb (fun h z => ?_) fun h o ho => ?_
  · obtain ⟨c1, c2⟩ := clean h
    have no : dd ∉ before os e (before os f k.seen) := fun q => not_true.mp h (turned_bad.mpr (.inr (.inr ((before_turned nd c1).1.mpr q))))
    rw [List.mem_append, List.mem_append, turned_seen c1, List.mem_filter, List.mem_filter, (before_turned nd c1).2 no]
    have sk : ∀ z, z ∈ (turned os f k).seen ↔ z ∈ f.seen ∨ (z ∈ os ∧ z ∈ before os f k.seen) := fun z => turned_seen c2
    rw [before_filter (ts := before os f k.seen), mem_before (ts := f.seen), mem_before (ts := (before os f k.seen).filter _), mem_before (ts := (turned os f k).seen)]
    simp only [sk, List.mem_filter, decide_eq_true_eq]
    grind
  · obtain ⟨c1, c2⟩ := clean h
    have hg : (turned os f k).g o = nrm false (before os f (k.g o)) := by
      show nrm (turned os f k).bad _ = _
      rw [c2]
    rw [hg]
    obtain ⟨b1, b2⟩ := before_turned (ts := k.g o) nd c1
    have u := fun z => before_nrm (os := os) (e := e) (b := false) (ts := before os f (k.g o)) (z := z) nd
    have v := fun q => before_dd (os := os) (e := e) (ts := before os f (k.g o)) nd q
    refine ⟨?_, fun no z => ?_⟩
    · rw [b1, u]
      grind
    · have no2 : dd ∉ before os e (before os f (k.g o)) := fun q => no (b1.mpr q)
      rw [b2 no2, u]
      grind
end UL

set_option Elab.async false
set_option linter.all false
set_option maxRecDepth 100000
/-! own: y = {..} of a comprehension, dicts by the texts of a tuple, == of dicts of data, comprehensions with two fors -/
namespace UL
open PySem PySem.Spec PyProof.Rows L2 Evl TL

/-! ### y = {k: v for ..} -/
section
variable {X : Cx}
theorem ps_setDc {i : Nat} {y : Str} {py : Pos} {kx vx tg iter : Expr} {ifs : List Expr} {scope : Scope} {own : List (Str × Nat)} {pos spos : Pos} {wi : TI} {g : TG} {tt : TT} {tk tv : TE} (hc : X.calm = true) (nd : X.N.Nodup) (hy : X.N[i]? = some y) (lo : X.env.scope.names.lookup y = some .local)
    (sw : swapsWith (.DictComp kx vx [⟨tg, iter, ifs, 0⟩] scope pos) (some (.Name y py)) spos.line X.env = pure true) (hi : PI X tg iter wi) (ok : BlkOk X.N X.env.scope scope own)
    (hg : ∀ (s : Shared) (H : Hp) (C : Addr) (cl : List (Str × Addr)) (fp : List Addr), PG (X.blk s H scope (compEnvC scope cl C X.env) fp) tg g) (ht : ∀ (s : Shared) (H : Hp) (C : Addr) (cl : List (Str × Addr)) (fp : List Addr), PTs (X.blk s H scope (compEnvC scope cl C X.env) fp) ifs tt)
    (hk : ∀ (s : Shared) (H : Hp) (C : Addr) (cl : List (Str × Addr)) (fp : List Addr), PE (X.blk s H scope (compEnvC scope cl C X.env) fp) kx tk)
    (he : ∀ (s : Shared) (H : Hp) (C : Addr) (cl : List (Str × Addr)) (fp : List Addr), PE (X.blk s H scope (compEnvC scope cl C X.env) fp) vx tv) (hs : ∀ x, foldedSetIterable iter X.env x = pure x := by intro _; rfl) :
    PS X (.Assign [.Name y py] (.DictComp kx vx [⟨tg, iter, ifs, 0⟩] scope pos) spos) (tAsg (tDc wi g tt tk tv (own.map (·.2))) (gName i)) := by
  refine ⟨fun pins s σ H D I h => ?_⟩
  have h : tDc wi g tt tk tv (own.map (·.2)) σ H (fun x H1 => gName i x σ H1 D.nx) := h
  rw [exec_Assign_Name_used _ _ _ _ sw]
  refine wpAny_bind (wpAny_standAt (wpAny_bind ?_))
  show wpAny _ X.A (do let _ ← comprehension (.DictComp kx vx [⟨tg, iter, ifs, 0⟩] scope pos) scope X.env (firstIterPos [⟨tg, iter, ifs, 0⟩] pos) newDict false (eval iter X.env) (some (assign (.Name y py) X.env))) _ _ s
  refine wpAny_bind (thn (dc_core (Qf := fun _ s' => SP X pins D .next s') hc nd I hi ok hg ht hk he hs h fun L C s' m H' I' q hn f => ?_) fun _ s' hq => wpAny_pure (wpAny_pure hq))
  show wpAny _ _ (assign (.Name y py) X.env (.ref L)) _ _ _
  refine wpAny_assign_Name (store_ok2 (v := V.ref L) I' nd hy (.inl lo) rfl (fun s2 I2 ⟨a, sb, ha⟩ => ?_) (.inr lo))
  obtain ⟨f0, f1, f2, f3, f4, f5⟩ := f
  have ne : C ≠ a := ha.elim (fun z => z ▸ f1) fun z e => f4 y a z e.symm
  exact ⟨m, hn.sameBut sb ne, fun h3 sb3 => ⟨_, H', I2.turned (t' := s2.toks) (fun b o hb e => (sb3.2 b hb).trans e) f0 f1 f3 f4 f5, q⟩⟩
theorem sw_dict {kx vx : Expr} {gs : List Comprehension} {scope : Scope} {pos py : Pos} {y : Str} {l : Nat} {env : Env} (hk : env.scope.kind = .function) (hy : env.scope.names.lookup y = some .local) (hl : (py.line == pos.line) = true)
    (ha : (scope.names.any fun (n, k) => n == y && (k == .local || k == .cell)) = false) : swapsWith (.DictComp kx vx gs scope pos) (some (.Name y py)) l env = pure true := by
  have k1 : env.kindOf y = some .local := hy
  have k2 : env.blockKind = .function := by unfold Env.blockKind; rw [hk]; rfl
  unfold swapsWith
  simp only [k2, k1, ha, Expr.pos, hl]
  rfl
end
/-! ### a dict whose keys are the texts of a tuple -/
def dzip (os : List Str) (ws : List V) : List (Key × V) := List.zipWith (fun o v => ((Sum.inr o : Key), v)) os ws
theorem dzip_keys : ∀ {os : List Str} {ws : List V}, os.length = ws.length → (dzip os ws).map (·.1) = os.map Sum.inr
  | [], [], _ => rfl
  | [], _ :: _, h => (nomatch h)
  | _ :: _, [], h => (nomatch h)
  | o :: os, w :: ws, h => by
    show (Sum.inr o : Key) :: (dzip os ws).map (·.1) = _
    rw [dzip_keys (Nat.succ.inj h)]
    rfl
theorem dzip_len (os : List Str) (ws : List V) : (dzip os ws).length ≤ os.length := by
  unfold dzip
  rw [List.length_zipWith]
  exact Nat.min_le_left _ _
theorem dzip_none {z : Str} : ∀ {os : List Str} {ws : List V}, z ∉ os → valV (dzip os ws) (Sum.inr z) = none
  | [], _, _ => rfl
  | _ :: _, [], _ => rfl
  | o :: os, w :: ws, h => by
    rw [List.mem_cons, not_or] at h
    show valV (((Sum.inr o : Key), w) :: dzip os ws) (Sum.inr z) = none
    rw [valV_neg (by intro e; exact h.1 (Sum.inr.inj e).symm)]
    exact dzip_none h.2
theorem dzip_at {F : Str → V → Prop} {z : Str} : ∀ {os : List Str} {ws : List V}, Paired F os ws → z ∈ os → ∃ v, valV (dzip os ws) (Sum.inr z) = some v ∧ F z v
  | _, _, .nil, h => (nomatch h)
  | o :: os, w :: ws, .cons a t, h => by
    show ∃ v, valV (((Sum.inr o : Key), w) :: dzip os ws) (Sum.inr z) = some v ∧ F z v
    by_cases e : o = z
    · subst e
      exact ⟨w, valV_pos rfl, a⟩
    · rw [valV_neg (by intro q; exact e (Sum.inr.inj q))]
      exact dzip_at t ((List.mem_cons.mp h).resolve_left fun q => e q.symm)
theorem dzip_snoc {o : Str} {v : V} : ∀ {os : List Str} {ws : List V}, os.length = ws.length → dzip (os ++ [o]) (ws ++ [v]) = dzip os ws ++ [((Sum.inr o : Key), v)]
  | [], [], _ => rfl
  | [], _ :: _, h => (nomatch h)
  | _ :: _, [], h => (nomatch h)
  | x :: os, w :: ws, h => by
    show _ :: dzip (os ++ [o]) (ws ++ [v]) = _
    rw [dzip_snoc (Nat.succ.inj h)]
    rfl
theorem dzip_put {o : Str} {v : V} {os : List Str} {ws : List V} (h : o ∉ os) (hl : os.length = ws.length) : putK (dzip os ws) (Sum.inr o) v = dzip (os ++ [o]) (ws ++ [v]) := by
  unfold putK
  rw [valV_any, dzip_none h, if_neg (by simp), dzip_snoc hl]
theorem paired_imp {α β : Type} {F G : α → β → Prop} (h : ∀ a b, F a b → G a b) : ∀ {xs : List α} {ys : List β}, Paired F xs ys → Paired G xs ys
  | _, _, .nil => .nil
  | _, _, .cons a t => .cons (h _ _ a) (paired_imp h t)
/-- {o: v for o in a tuple of texts}: each value is of its kind, and stays -/
theorem dc_outs {K : PySem.W.Frag} {a : Addr} {os : List Str} {G : Hp → Str → V → Prop} {j : Nat} {tk tv : TE} {vs : List Nat} {σ : L2.St} {H1 : Hp} {D : Addr} {Qd : Hp → Prop} (ha : SqT K H1 a (os.map V.str)) (nd : os.Nodup) (hz : os.length ≤ 4000) (hD : H1 D = none)
    (hw : ∀ x, wipe ((wipe σ vs).set j (some x)) vs = wipe σ vs) (gE : ∀ H H' o v, Ex H H' → G H o v → G H' o v) (gD : ∀ H kvs kvs' o v, H D = some (.dK kvs) → G H o v → G (upd H D (.dK kvs')) o v)
    (hk : ∀ o H' (Q : VK), Q (.str o) H' → tk ((wipe σ vs).set j (some (.str o))) H' Q)
    (he : ∀ o H', o ∈ os → Ex H1 H' → ∀ Q : VK, (∀ v H2, Ex H' H2 → G H2 o v → Q v H2) → tv ((wipe σ vs).set j (some (.str o))) H' Q)
    (hd : ∀ H' ws, Ex H1 H' → H' D = some (.dK (dzip os ws)) → Paired (G H') os ws → Qd H') :
    ∃ W : Nat → Nat → Hp → Prop, (∃ m, W 0 m (upd H1 D (.dK []))) ∧ ∀ i m H, W i m H →
      ((Itt K a).stop i H ∧ Qd H) ∨ ((Itt K a).go i H ∧ ∃ Nx : Hp → Prop, (∀ H', Nx H' → ∃ m', m' < m ∧ W (i + 1) m' H') ∧ ∀ x H', (Itt K a).yld i H x H' → gName j x (wipe σ vs) H' fun σ2 H2 => wipe σ2 vs = wipe σ vs ∧ tYes σ2 H2 fun b H3 =>
        if b = true then tk σ2 H3 fun y H4 => tv σ2 H4 fun z H5 => ∃ kvs k, y = kV k ∧ H5 D = some (.dK kvs) ∧ kvs.length < sizeLine ∧ Nx (upd H5 D (.dK (putK kvs k z))) else Nx H3) := by
  refine dc_tup (xs := os.map V.str) (fun i H' => Ex H1 H' ∧ ∃ ws, H' D = some (.dK (dzip (os.take i) ws)) ∧ Paired (G H') (os.take i) ws) ⟨Ex.new hD, [], upd_same, .nil⟩ (fun i H' _ q => ex_t q.1 ha) ?_ ?_
  · rintro i x H' hi ⟨e1, ws, hd', hp⟩
    rw [List.getElem?_map] at hi
    cases ho : os[i]? with
    | none => rw [ho] at hi; cases hi
    | some o =>
    rw [ho] at hi
    cases hi
    have nx : os.take (i + 1) = os.take i ++ [o] := by rw [List.take_add_one, ho]; rfl
    have out : o ∉ os.take i := fun hm => by
      obtain ⟨k, hk1, hk2⟩ := List.mem_iff_getElem.mp hm
      rw [List.length_take] at hk1
      rw [List.getElem_take] at hk2
      obtain ⟨hlt, hio⟩ := List.getElem?_eq_some_iff.mp ho
      have := (List.getElem_inj nd).mp (hk2.trans hio.symm)
      omega
    refine ⟨hw _, ?_⟩
    show tk _ _ _
    refine hk _ _ _ (he o H' (List.mem_of_getElem? ho) e1 _ fun v H2 e2 gv => ⟨_, Sum.inr o, rfl, e2 _ _ hd', ?_, (e1.trans e2).mut hD, ws ++ [v], ?_, ?_⟩)
    · have h1 := dzip_len (os.take i) ws
      rw [List.length_take] at h1
      exact sz_lt (by omega)
    · rw [upd_same, dzip_put out (Paired.length hp), nx]
    · rw [nx]
      exact Paired.snoc (paired_imp (fun o' v' q => gD _ _ _ _ _ (e2 _ _ hd') (gE _ _ _ _ e2 q)) hp) (gD _ _ _ _ _ (e2 _ _ hd') gv)
  · rintro H' ⟨e1, ws, hd', hp⟩
    rw [List.length_map, List.take_length] at hd' hp
    exact hd H' ws e1 hd' hp
/-! ### == of dicts of data -/
inductive DEq (K : PySem.W.Frag) (H : Hp) (ls : List (Key × V)) : List (Key × V) → Bool → Prop
  | nil : DEq K H ls [] true
  | cons {k : Key} {x u : V} {d e : PyData} {r : List (Key × V)} {b : Bool} : valV ls k = some u → Dp K H x d → Dp K H u e → SeqAt.shaped d = true → SeqAt.shaped e = true → DEq K H ls r b → DEq K H ls ((k, x) :: r) (PyData.eqv d e && b)
def rDEq (K : PySem.W.Frag) : R2 := fun x y H Q => ∃ a b ks ls r, x = .ref a ∧ y = .ref b ∧ H a = some (.dK ks) ∧ H b = some (.dK ls) ∧ ks.length = ls.length ∧ DEq K H ls ks r ∧ Q (.bl r) H
theorem deq_hits {X : Cx} {pins : List (Addr × Obj)} {σ : L2.St} {H : Hp} {s : Shared} (I : Inv X pins σ H s) (hu : X.A.in1.units + 64 < cLine) {ls : List (Key × V)} {vb : List (Key × Value)} (rb : KV ls vb) {ks : List (Key × V)} {r : Bool} (h : DEq X.K H ls ks r) :
    ∀ {va : List (Key × Value)}, KV ks va → PySem.W.KeqHitsP X.prog X.w X.A.in1 s vb va r := by
  induction h with
  | nil =>
    intro va ra
    unfold KV at ra
    cases ra
    exact .nil
  | @cons k x u d e r b h1 h2 h3 h4 h5 h6 ih =>
    intro va ra
    unfold KV at ra
    cases ra with
    | @cons p q ps qs hh t =>
      obtain ⟨key, v⟩ := q
      obtain ⟨rfl, rv⟩ := hh
      have rr : RelO (some u) (valueAt vb k) := by rw [← h1]; exact rb.val k
      obtain ⟨y, hy, ry⟩ := rr.some_of
      obtain ⟨as, r1⟩ := Dp.reads I d x v h2 rv
      obtain ⟨bs, r2⟩ := Dp.reads I e u y h3 ry
      exact .hit hy (PySem.W.keq_at r1 r2 h4 h5 hu).eqP (ih t)
theorem op_deq {X : Cx} (hu : X.A.units + 65 < cLine) : OpR X (compareOp .Eq) (rDEq X.K) := by
  intro pins s σ H x y v u Q I rx ry h
  obtain ⟨a, b, ks, ls, r, rfl, rfl, ha, hb, hl, hd, q⟩ := h
  cases rx
  cases ry
  obtain ⟨_, ya, va, ra, da⟩ := (show ObjOk X.prog X.w H s.heap a (.dK ks) from I.hok a _ ha)
  obtain ⟨_, yb, vb, rb, db⟩ := (show ObjOk X.prog X.w H s.heap b (.dK ls) from I.hok b _ hb)
  refine PySem.W.rcP_dicts (knd := mixKind X.prog X.w) (r := r) ya yb da db (by omega) (fun _ => deq_hits I (by show X.A.units + 1 + 64 < cLine; omega) rb hd ra) _ _ ?_
  rw [show (va.length == vb.length && r) = r from by rw [← Paired.length ra, ← Paired.length rb, hl]; simp]
  exact ⟨.bl r, H, I, rfl, q⟩
def rDNe (K : PySem.W.Frag) : R2 := fun x y H Q => rDEq K x y H fun v H' => ∃ b, v = .bl b ∧ Q (.bl (!b)) H'
end UL

set_option Elab.async false
set_option linter.all false
set_option maxRecDepth 100000
/-! own: [e for x in xs for y in f x]: walks for both clauses; texts from texts -/
namespace UL
open PySem PySem.Spec PyProof.Rows L2 Evl TL
section
variable {J : It} {n : Nat} {G : Hp → Prop} {Y : Nat → Hp → V → Hp → Prop}
/-- the second clause over a walk -/
theorem lc_in (w : Walk J n G Y) {g1 : TG} {tt1 : TT} {te : TE} {vs1 : List Nat} {σ2 : L2.St} {H4 : Hp} {D : Addr} {Nx : Hp → Prop} (Pv : Nat → Hp → Prop) (h0 : Pv 0 H4) (hG : ∀ i H, i ≤ n → Pv i H → G H)
    (hs : ∀ i x H H', i < n → Pv i H → Y i H x H' → g1 x (wipe σ2 vs1) H' fun σ3 H5 => wipe σ3 vs1 = wipe σ2 vs1 ∧ tt1 σ3 H5 fun b H6 =>
      if b = true then te σ3 H6 fun y H7 => ∃ acc, H7 D = some (.lst acc) ∧ acc.length < sizeLine ∧ Pv (i + 1) (upd H7 D (.lst (acc ++ [y]))) else Pv (i + 1) H6) (hd : ∀ H, Pv n H → Nx H) :
    ∃ W1 : Nat → Nat → Hp → Prop, (∃ m, W1 0 m H4) ∧ ∀ j k H, W1 j k H →
      (J.stop j H ∧ Nx H) ∨ (J.go j H ∧ ∃ Nx1 : Hp → Prop, (∀ H', Nx1 H' → ∃ k', k' < k ∧ W1 (j + 1) k' H') ∧ ∀ x H', J.yld j H x H' → g1 x (wipe σ2 vs1) H' fun σ3 H5 => wipe σ3 vs1 = wipe σ2 vs1 ∧ tt1 σ3 H5 fun b H6 =>
        if b = true then te σ3 H6 fun y H7 => ∃ acc, H7 D = some (.lst acc) ∧ acc.length < sizeLine ∧ Nx1 (upd H7 D (.lst (acc ++ [y]))) else Nx1 H6) := by
  refine ⟨fun i m H => m = n - i ∧ i ≤ n ∧ Pv i H, ⟨n, by simp, Nat.zero_le _, h0⟩, ?_⟩
  rintro i m H ⟨rfl, hi, p⟩
  have q := hG i H hi p
  by_cases hlt : i < n
  · refine .inr ⟨w.goes i H hlt q, Pv (i + 1), fun H' p' => ⟨n - (i + 1), by omega, rfl, hlt, p'⟩, fun x H' y => hs i x H H' hlt p (w.yields i H x H' hlt q y)⟩
  · have e : i = n := by omega
    subst e
    exact .inl ⟨w.stops H q, hd H p⟩
/-- the first clause over a walk -/
theorem lc_out (w : Walk J n G Y) {g : TG} {tt : TT} {wi1 : TI} {g1 : TG} {tt1 : TT} {te : TE} {vs vs1 : List Nat} {σ : L2.St} {H1 : Hp} {D : Addr} {Qd : Hp → Prop} (Pv : Nat → Hp → Prop) (h0 : Pv 0 (upd H1 D (.lst []))) (hG : ∀ i H, i ≤ n → Pv i H → G H)
    (hs : ∀ i x H H', i < n → Pv i H → Y i H x H' → g x (wipe σ vs) H' fun σ2 H2 => wipe σ2 vs = wipe σ vs ∧ tt σ2 H2 fun b H3 =>
      if b = true then wi1 σ2 H3 fun J1 H4 => ∃ W1 : Nat → Nat → Hp → Prop, (∃ m, W1 0 m H4) ∧ ∀ j k H, W1 j k H →
        (J1.stop j H ∧ Pv (i + 1) H) ∨ (J1.go j H ∧ ∃ Nx1 : Hp → Prop, (∀ H', Nx1 H' → ∃ k', k' < k ∧ W1 (j + 1) k' H') ∧ ∀ x H', J1.yld j H x H' → g1 x (wipe σ2 vs1) H' fun σ3 H5 => wipe σ3 vs1 = wipe σ2 vs1 ∧ tt1 σ3 H5 fun b H6 =>
          if b = true then te σ3 H6 fun y H7 => ∃ acc, H7 D = some (.lst acc) ∧ acc.length < sizeLine ∧ Nx1 (upd H7 D (.lst (acc ++ [y]))) else Nx1 H6)
      else Pv (i + 1) H3) (hd : ∀ H, Pv n H → Qd H) :
    ∃ W : Nat → Nat → Hp → Prop, (∃ m, W 0 m (upd H1 D (.lst []))) ∧ ∀ i m H, W i m H →
      (J.stop i H ∧ Qd H) ∨ (J.go i H ∧ ∃ Nx : Hp → Prop, (∀ H', Nx H' → ∃ m', m' < m ∧ W (i + 1) m' H') ∧ ∀ x H', J.yld i H x H' → g x (wipe σ vs) H' fun σ2 H2 => wipe σ2 vs = wipe σ vs ∧ tt σ2 H2 fun b H3 =>
        if b = true then wi1 σ2 H3 fun J1 H4 => ∃ W1 : Nat → Nat → Hp → Prop, (∃ m, W1 0 m H4) ∧ ∀ j k H, W1 j k H →
          (J1.stop j H ∧ Nx H) ∨ (J1.go j H ∧ ∃ Nx1 : Hp → Prop, (∀ H', Nx1 H' → ∃ k', k' < k ∧ W1 (j + 1) k' H') ∧ ∀ x H', J1.yld j H x H' → g1 x (wipe σ2 vs1) H' fun σ3 H5 => wipe σ3 vs1 = wipe σ2 vs1 ∧ tt1 σ3 H5 fun b H6 =>
            if b = true then te σ3 H6 fun y H7 => ∃ acc, H7 D = some (.lst acc) ∧ acc.length < sizeLine ∧ Nx1 (upd H7 D (.lst (acc ++ [y]))) else Nx1 H6)
        else Nx H3) := by
  refine ⟨fun i m H => m = n - i ∧ i ≤ n ∧ Pv i H, ⟨n, by simp, Nat.zero_le _, h0⟩, ?_⟩
  rintro i m H ⟨rfl, hi, p⟩
  have q := hG i H hi p
  by_cases hlt : i < n
  · refine .inr ⟨w.goes i H hlt q, Pv (i + 1), fun H' p' => ⟨n - (i + 1), by omega, rfl, hlt, p'⟩, fun x H' y => hs i x H H' hlt p (w.yields i H x H' hlt q y)⟩
  · have e : i = n := by omega
    subst e
    exact .inl ⟨w.stops H q, hd H p⟩
end
theorem sqT_putL {K : PySem.W.Frag} {H : Hp} {D t : Addr} {zs zs' xs : List V} (hD : H D = some (.lst zs)) (h : SqT K H t xs) : SqT K (upd H D (.lst zs')) t xs := by
  rcases h with (h | ⟨u, h⟩) | h
  · exact .inl (.inl (by rw [upd_ne (ne_of h hD (by intro z; cases z))]; exact h))
  · exact .inl (.inr ⟨u, by rw [upd_ne (ne_of h hD (by intro z; cases z))]; exact h⟩)
  · exact .inr h
/-- [z for t in ts for z in f t], texts; f t stands as a tuple -/
theorem lc_flat {K : PySem.W.Frag} {J : It} {ts : List Str} {f : Str → List Str} {G : Hp → Prop} {j j1 : Nat} {wi1 : TI} {te : TE} {vs vs1 : List Nat} {σ : L2.St} {H1 : Hp} {D : Addr} {Qd : Hp → Prop}
    (w : Walk J (ts.map V.str).length G (YAt (ts.map V.str))) (hz : (ts.flatMap f).length ≤ 100000) (hD : H1 D = none) (hG : ∀ H', Ex H1 H' → G H')
    (hw : ∀ x, wipe ((wipe σ vs).set j (some x)) vs = wipe σ vs) (hw1 : ∀ x y, wipe ((wipe ((wipe σ vs).set j (some x)) vs1).set j1 (some y)) vs1 = wipe ((wipe σ vs).set j (some x)) vs1)
    (hi : ∀ t, t ∈ ts → ∀ H', Ex H1 H' → ∀ R : It → Hp → Prop, (∀ a H2, Ex H' H2 → SqT K H2 a ((f t).map V.str) → R (Itt K a) H2) → wi1 ((wipe σ vs).set j (some (.str t))) H' R)
    (he : ∀ t z H', ∀ Q : VK, Q (.str z) H' → te ((wipe ((wipe σ vs).set j (some (.str t))) vs1).set j1 (some (.str z))) H' Q)
    (hd : ∀ H', Ex H1 H' → H' D = some (.lst ((ts.flatMap f).map V.str)) → Qd H') :
    ∃ W : Nat → Nat → Hp → Prop, (∃ m, W 0 m (upd H1 D (.lst []))) ∧ ∀ i m H, W i m H →
      (J.stop i H ∧ Qd H) ∨ (J.go i H ∧ ∃ Nx : Hp → Prop, (∀ H', Nx H' → ∃ m', m' < m ∧ W (i + 1) m' H') ∧ ∀ x H', J.yld i H x H' → gName j x (wipe σ vs) H' fun σ2 H2 => wipe σ2 vs = wipe σ vs ∧ tYes σ2 H2 fun b H3 =>
        if b = true then wi1 σ2 H3 fun J1 H4 => ∃ W1 : Nat → Nat → Hp → Prop, (∃ m, W1 0 m H4) ∧ ∀ j k H, W1 j k H →
          (J1.stop j H ∧ Nx H) ∨ (J1.go j H ∧ ∃ Nx1 : Hp → Prop, (∀ H', Nx1 H' → ∃ k', k' < k ∧ W1 (j + 1) k' H') ∧ ∀ x H', J1.yld j H x H' → gName j1 x (wipe σ2 vs1) H' fun σ3 H5 => wipe σ3 vs1 = wipe σ2 vs1 ∧ tYes σ3 H5 fun b H6 =>
            if b = true then te σ3 H6 fun y H7 => ∃ acc, H7 D = some (.lst acc) ∧ acc.length < sizeLine ∧ Nx1 (upd H7 D (.lst (acc ++ [y]))) else Nx1 H6)
        else Nx H3) := by
  refine lc_out w (fun i H' => Ex H1 H' ∧ H' D = some (.lst (((ts.take i).flatMap f).map V.str))) ⟨Ex.new hD, upd_same⟩ (fun i H' _ q => hG _ q.1) ?_ ?_
  · rintro i x _ H hi' ⟨e1, hL⟩ ⟨rfl, hx⟩
    rw [List.getElem?_map] at hx
    cases ht : ts[i]? with
    | none => rw [ht] at hx; cases hx
    | some t =>
    rw [ht] at hx
    cases hx
    obtain ⟨hlt, hti⟩ := List.getElem?_eq_some_iff.mp ht
    have nx : ts.take (i + 1) = ts.take i ++ [t] := by rw [List.take_add_one, ht]; rfl
    have whole : (ts.take i).flatMap f ++ f t = (ts.take (i + 1)).flatMap f := by rw [nx, List.flatMap_append, List.flatMap_cons, List.flatMap_nil, List.append_nil]
    have hlen : ((ts.take i).flatMap f).length + (f t).length ≤ (ts.flatMap f).length := by
      rw [← List.length_append, whole]
      conv => rhs; rw [← List.take_append_drop (i + 1) ts, List.flatMap_append, List.length_append]
      omega
    refine ⟨hw _, ?_⟩
    show wi1 _ _ _
    refine hi t (List.mem_of_getElem? ht) H e1 _ fun a H2 e2 ha => ?_
    refine lc_in (walk_tup (K := K) (a := a) (xs := (f t).map V.str)) (fun k H' => Ex H1 H' ∧ SqT K H' a ((f t).map V.str) ∧ H' D = some (.lst (((ts.take i).flatMap f ++ (f t).take k).map V.str))) ⟨e1.trans e2, ha, ?_⟩ (fun k H' _ q => q.2.1) ?_ ?_
    · rw [List.take_zero, List.append_nil]
      exact e2 _ _ hL
    · rintro k y _ H hk ⟨e3, ha3, hL3⟩ ⟨rfl, hy⟩
      rw [List.getElem?_map] at hy
      cases hz' : (f t)[k]? with
      | none => rw [hz'] at hy; cases hy
      | some z =>
      rw [hz'] at hy
      cases hy
      refine ⟨hw1 _ _, ?_⟩
      show te _ _ _
      refine he t z H _ ⟨_, hL3, ?_, e3.mut hD, sqT_putL hL3 ha3, ?_⟩
      · rw [List.length_map, List.length_append, List.length_take]
        have := (List.getElem?_eq_some_iff.mp hz').1
        exact sz_lt (by omega)
      · rw [upd_same, List.take_add_one, hz', ← List.append_assoc, List.map_append (l₂ := (some z).toList)]
        rfl
    · rintro H' ⟨e3, _, hL3⟩
      rw [List.length_map, List.take_length, whole] at hL3
      exact ⟨e3, hL3⟩
  · rintro H' ⟨e1, hL⟩
    rw [List.length_map, List.take_length] at hL
    exact hd H' e1 hL
/-- [z for z in ts if p z], texts in a list or a tuple -/
theorem lc_filt {J : It} {ts : List Str} {p : Str → Bool} {G : Hp → Prop} {j : Nat} {tt : TT} {te : TE} {vs : List Nat} {σ : L2.St} {H1 : Hp} {D : Addr} {Qd : Hp → Prop}
    (w : Walk J (ts.map V.str).length G (YAt (ts.map V.str))) (hz : ts.length ≤ 100000) (hD : H1 D = none) (hG : ∀ H', Ex H1 H' → G H') (hw : ∀ x, wipe ((wipe σ vs).set j (some x)) vs = wipe σ vs)
    (ht : ∀ z H', z ∈ ts → Ex H1 H' → (∃ xs, H' D = some (.lst xs)) → ∀ Q : Bool → Hp → Prop, (∀ H2, Ex H' H2 → Q (p z) H2) → tt ((wipe σ vs).set j (some (.str z))) H' Q)
    (he : ∀ z H', ∀ Q : VK, Q (.str z) H' → te ((wipe σ vs).set j (some (.str z))) H' Q) (hd : ∀ H', Ex H1 H' → H' D = some (.lst ((ts.filter p).map V.str)) → Qd H') :
    ∃ W : Nat → Nat → Hp → Prop, (∃ m, W 0 m (upd H1 D (.lst []))) ∧ ∀ i m H, W i m H →
      (J.stop i H ∧ Qd H) ∨ (J.go i H ∧ ∃ Nx : Hp → Prop, (∀ H', Nx H' → ∃ m', m' < m ∧ W (i + 1) m' H') ∧ ∀ x H', J.yld i H x H' → gName j x (wipe σ vs) H' fun σ2 H2 => wipe σ2 vs = wipe σ vs ∧ tt σ2 H2 fun b H3 =>
        if b = true then te σ2 H3 fun y H4 => ∃ acc, H4 D = some (.lst acc) ∧ acc.length < sizeLine ∧ Nx (upd H4 D (.lst (acc ++ [y]))) else Nx H3) := by
  refine lc_it w (fun i H' => Ex H1 H' ∧ H' D = some (.lst (((ts.take i).filter p).map V.str))) ⟨Ex.new hD, upd_same⟩ (fun i H' _ q => hG _ q.1) ?_ ?_
  · rintro i x _ H hi ⟨e1, hL⟩ ⟨rfl, hx⟩
    rw [List.getElem?_map] at hx
    cases hy : ts[i]? with
    | none => rw [hy] at hx; cases hx
    | some z =>
    rw [hy] at hx
    cases hx
    have nx : ts.take (i + 1) = ts.take i ++ [z] := by rw [List.take_add_one, hy]; rfl
    have hlt := (List.getElem?_eq_some_iff.mp hy).1
    refine ⟨hw _, ?_⟩
    refine ht z H (List.mem_of_getElem? hy) e1 ⟨_, hL⟩ _ fun H2 e2 => ?_
    cases hp : p z with
    | true =>
      rw [if_pos rfl]
      refine he z H2 _ ⟨_, e2 _ _ hL, ?_, (e1.trans e2).mut hD, ?_⟩
      · rw [List.length_map]
        have := List.length_filter_le p (ts.take i)
        rw [List.length_take] at this
        exact sz_lt (by omega)
      · rw [upd_same, nx, List.filter_append, List.filter_cons, if_pos hp, List.map_append (l₂ := z :: _)]
        rfl
    | false =>
      rw [if_neg Bool.false_ne_true]
      refine ⟨e1.trans e2, ?_⟩
      rw [nx, List.filter_append, List.filter_cons, if_neg (by rw [hp]; exact Bool.false_ne_true), List.filter_nil, List.append_nil]
      exact e2 _ _ hL
  · rintro H' ⟨e1, hL⟩
    rw [List.length_map, List.take_length] at hL
    exact hd H' e1 hL
theorem units1 {k : Nat} {A : Around} (r : Room k A) : A.units + 65 < cLine := by
  have := r.un
  omega
end UL

set_option Elab.async false
set_option linter.all false
set_option maxRecDepth 100000
/-! own: [e for z in ts] over texts, e may make things -/
namespace UL
open PySem PySem.Spec PyProof.Rows L2 Evl TL
theorem lc_mapE {J : It} {ts : List Str} {f : Str → V} {G : Hp → Prop} {j : Nat} {te : TE} {vs : List Nat} {σ : L2.St} {H1 : Hp} {D : Addr} {Qd : Hp → Prop}
    (w : Walk J (ts.map V.str).length G (YAt (ts.map V.str))) (hz : ts.length ≤ 100000) (hD : H1 D = none) (hG : ∀ H', Ex H1 H' → G H') (hw : ∀ x, wipe ((wipe σ vs).set j (some x)) vs = wipe σ vs)
    (he : ∀ z H', z ∈ ts → Ex H1 H' → ∀ Q : VK, (∀ H2, Ex H' H2 → Q (f z) H2) → te ((wipe σ vs).set j (some (.str z))) H' Q) (hd : ∀ H', Ex H1 H' → H' D = some (.lst (ts.map f)) → Qd H') :
    ∃ W : Nat → Nat → Hp → Prop, (∃ m, W 0 m (upd H1 D (.lst []))) ∧ ∀ i m H, W i m H →
      (J.stop i H ∧ Qd H) ∨ (J.go i H ∧ ∃ Nx : Hp → Prop, (∀ H', Nx H' → ∃ m', m' < m ∧ W (i + 1) m' H') ∧ ∀ x H', J.yld i H x H' → gName j x (wipe σ vs) H' fun σ2 H2 => wipe σ2 vs = wipe σ vs ∧ tYes σ2 H2 fun b H3 =>
        if b = true then te σ2 H3 fun y H4 => ∃ acc, H4 D = some (.lst acc) ∧ acc.length < sizeLine ∧ Nx (upd H4 D (.lst (acc ++ [y]))) else Nx H3) := by
  refine lc_it w (fun i H' => Ex H1 H' ∧ H' D = some (.lst ((ts.take i).map f))) ⟨Ex.new hD, upd_same⟩ (fun i H' _ q => hG _ q.1) ?_ ?_
  · rintro i x _ H hi ⟨e1, hL⟩ ⟨rfl, hx⟩
    rw [List.getElem?_map] at hx
    cases hy : ts[i]? with
    | none => rw [hy] at hx; cases hx
    | some z =>
    rw [hy] at hx
    cases hx
    have hlt := (List.getElem?_eq_some_iff.mp hy).1
    refine ⟨hw _, ?_⟩
    show te _ _ _
    refine he z H (List.mem_of_getElem? hy) e1 _ fun H2 e2 => ⟨_, e2 _ _ hL, ?_, (e1.trans e2).mut hD, ?_⟩
    · rw [List.length_map, List.length_take]
      exact sz_lt (by omega)
    · rw [upd_same, List.take_add_one, hy, List.map_append]
      rfl
  · rintro H' ⟨e1, hL⟩
    rw [List.length_map, List.take_length] at hL
    exact hd H' e1 hL
end UL

set_option Elab.async false
set_option linter.all false
set_option maxRecDepth 100000
/-! own: != of dicts of data -/
namespace UL
open PySem PySem.Spec PyProof.Rows L2 Evl TL
theorem deq_hitsA {X : Cx} {pins : List (Addr × Obj)} {σ : L2.St} {H : Hp} {s : Shared} (I : Inv X pins σ H s) (hu : X.A.in1.units + 64 < cLine) {ls : List (Key × V)} {vb : List (Key × Value)} (rb : KV ls vb) {ks : List (Key × V)} {r : Bool} (h : DEq X.K H ls ks r) :
    ∀ {va : List (Key × Value)}, KV ks va → PySem.W.KeqHits X.A.in1 s vb va r := by
  induction h with
  | nil =>
    intro va ra
    unfold KV at ra
    cases ra
    exact .nil
  | @cons k x u d e r b h1 h2 h3 h4 h5 h6 ih =>
    intro va ra
    unfold KV at ra
    cases ra with
    | @cons p q ps qs hh t =>
      obtain ⟨key, v⟩ := q
      obtain ⟨rfl, rv⟩ := hh
      have rr : RelO (some u) (valueAt vb k) := by rw [← h1]; exact rb.val k
      obtain ⟨y, hy, ry⟩ := rr.some_of
      obtain ⟨as, r1⟩ := Dp.reads I d x v h2 rv
      obtain ⟨bs, r2⟩ := Dp.reads I e u y h3 ry
      exact .hit hy (PySem.W.keq_at r1 r2 h4 h5 hu) (ih t)
theorem op_dne {X : Cx} (hu : X.A.units + 65 < cLine) : OpR X (compareOp .NotEq) (rDNe X.K) := by
  intro pins s σ H x y v u Q I rx ry h
  obtain ⟨a, b, ks, ls, r, rfl, rfl, ha, hb, hl, hd, c, e, q⟩ := h
  cases e
  cases rx
  cases ry
  obtain ⟨_, ya, va, ra, da⟩ := (show ObjOk X.prog X.w H s.heap a (.dK ks) from I.hok a _ ha)
  obtain ⟨_, yb, vb, rb, db⟩ := (show ObjOk X.prog X.w H s.heap b (.dK ls) from I.hok b _ hb)
  refine PySem.W.keq_ne (knd := mixKind X.prog X.w) (r := r) ya yb da db (by omega) (fun _ => deq_hitsA I (by show X.A.units + 1 + 64 < cLine; omega) rb hd ra) ?_
  rw [show (!(va.length == vb.length && r)) = !r from by rw [← Paired.length ra, ← Paired.length rb, hl]; simp]
  exact ⟨.bl (!r), H, I, rfl, q⟩
end UL

set_option Elab.async false
set_option linter.all false
set_option maxRecDepth 100000
/-! own: o.m(e, ..) in a try, where it may let an error out -/
namespace UL
open PySem PySem.Spec PyProof.Rows L2 Evl TL
def tMethT (C : Addr) (m : Str) (sp : Sp) (E : L2.St → XK) (ta : TE) (t : TA) : TE := fun σ H Q => ta σ H fun x H1 => ∃ a dx fs, x = .ref a ∧ H1 a = some (.ins C dx fs) ∧ fs.lookup m = none ∧ t σ H1 fun vs H2 => sp (.ref a :: vs) H2 Q (E σ)
section
variable {X : Cx} {CX : CXT} {k : Nat} {f C : Addr} {fd : FuncData} {ps : List Str} {sp : Sp} {E : L2.St → XK} {m : Str} {pos apos : Pos} {e o : Expr} {es : List Expr} {ta : TE} {t : TA}
theorem pe_methT {pl : Sem Bool} (he : PE X o ta) (c : Cls X.K C) (hm : Meth X.K C m f) (F : FnOk X.prog X.w X.K X.mg X.base CX k f fd ps sp) (hr : Room k X.A) (hb : L2.Binds X.K fd ps []) (hx : ∀ σ, PassesAt CX X σ (E σ)) (ha : PA X (e :: es) t)
    (hst : starEach (e :: es) X.env = (false, eval e X.env) :: starEach es X.env := by rfl) (hpl : (backTo pos (starEach es X.env)).any (·.1) = false := by rfl)
    (ht : eval (.Call (.Attribute o m apos) (e :: es) [] pos) X.env = (do
      let ov ← eval o X.env
      standAt apos.atName
      let (f, first) ← holding [ov] (getMethod ov m pl)
      callWith pos f first (backTo pos (starEach (e :: es) X.env)) (backToKw pos (keywordEach [] X.env))) := by rfl) :
    PE X (.Call (.Attribute o m apos) (e :: es) [] pos) (tMethT C m sp E ta t) := by
  refine ⟨fun pins s σ H Q I h => ?_⟩
  refine PySem.W.methodCall_KW (pl := pl) (thn (he.run pins s σ H _ I h) fun u s1 ⟨x, H1, I1, rx, a, dx, fs, ex, ea, l, q⟩ => ?_) ht
  subst ex
  obtain rfl : u = Value.ref a := rx
  refine getmeth_ok I1 ea c hm l ?_
  refine PySem.W.callWith_K (first := [.ref a]) (h₀ := X.base) I.ok.mod.kin hm.kp (thn (ha.run pos pins s1 σ H1 _ I1 q) fun us s2 ⟨vs, H2, I2, r, q2⟩ => ⟨I2.kIn, ?_⟩) hst hpl
  exact run_fnS (us := .ref a :: us) (vs := .ref a :: vs) F hr hb (hx σ) I2 (.cons rfl r) q2
end
end UL

set_option Elab.async false
set_option linter.all false
set_option maxRecDepth 100000
namespace K61
open PySem PySem.Spec PyProof.Rows L2 Evl TL UL StX
/-! ### the text -/
def topS (i : Nat) : Stmt := PySem.Challenge.pw_unnamedlives_k61_effect_parts.main.body.getD i (.Pass ⟨0, 0, 0, 0⟩)
abbrev s_copied : Stmt := topS 2
abbrev n_copied : List Str := ["thing", "levels", "part", "key"]
abbrev p_copied : List Str := ["thing", "levels"]
theorem sc_copied : FnScope n_copied p_copied (defScope s_copied) := ⟨rfl, rfl, rfl, by decide +kernel, rfl, by decide +kernel, by decide +kernel⟩
abbrev s_lives_init : Stmt := inClass (topS 3) 0
abbrev n_lives_init : List Str := ["self", "what"]
abbrev p_lives_init : List Str := ["self", "what"]
theorem sc_lives_init : FnScope n_lives_init p_lives_init (defScope s_lives_init) := ⟨rfl, rfl, rfl, by decide +kernel, rfl, by decide +kernel, by decide +kernel⟩
abbrev s_ascending : Stmt := topS 7
abbrev n_ascending : List Str := ["texts"]
abbrev p_ascending : List Str := ["texts"]
theorem sc_ascending : FnScope n_ascending p_ascending (defScope s_ascending) := ⟨rfl, rfl, rfl, by decide +kernel, rfl, by decide +kernel, by decide +kernel⟩
abbrev s_normal : Stmt := topS 8
abbrev n_normal : List Str := ["texts", "faulty"]
abbrev p_normal : List Str := ["texts", "faulty"]
theorem sc_normal : FnScope n_normal p_normal (defScope s_normal) := ⟨rfl, rfl, rfl, by decide +kernel, rfl, by decide +kernel, by decide +kernel⟩
abbrev s_ef_init : Stmt := inClass (topS 9) 0
abbrev n_ef_init : List Str := ["self", "outs", "looks", "gives", "faulty", "given", "name", "out"]
abbrev p_ef_init : List Str := ["self", "outs", "looks", "gives", "faulty"]
theorem sc_ef_init : FnScope n_ef_init p_ef_init (defScope s_ef_init) := ⟨rfl, rfl, rfl, by decide +kernel, rfl, by decide +kernel, by decide +kernel⟩
abbrev s_ef_looks : Stmt := inClass (topS 9) 1
abbrev n_ef_looks : List Str := ["self"]
abbrev p_ef_looks : List Str := ["self"]
theorem sc_ef_looks : FnScope n_ef_looks p_ef_looks (defScope s_ef_looks) := ⟨rfl, rfl, rfl, by decide +kernel, rfl, by decide +kernel, by decide +kernel⟩
abbrev s_ef_gives : Stmt := inClass (topS 9) 2
abbrev n_ef_gives : List Str := ["self", "out"]
abbrev p_ef_gives : List Str := ["self", "out"]
theorem sc_ef_gives : FnScope n_ef_gives p_ef_gives (defScope s_ef_gives) := ⟨rfl, rfl, rfl, by decide +kernel, rfl, by decide +kernel, by decide +kernel⟩
abbrev s_ef_nothing : Stmt := inClass (topS 9) 3
abbrev n_ef_nothing : List Str := ["cls", "outs"]
abbrev p_ef_nothing : List Str := ["cls", "outs"]
theorem sc_ef_nothing : FnScope n_ef_nothing p_ef_nothing (defScope s_ef_nothing) := ⟨rfl, rfl, rfl, by decide +kernel, rfl, by decide +kernel, by decide +kernel⟩
abbrev s_ef_check : Stmt := inClass (topS 9) 4
abbrev n_ef_check : List Str := ["self", "other"]
abbrev p_ef_check : List Str := ["self", "other"]
theorem sc_ef_check : FnScope n_ef_check p_ef_check (defScope s_ef_check) := ⟨rfl, rfl, rfl, by decide +kernel, rfl, by decide +kernel, by decide +kernel⟩
abbrev s_ef_eq : Stmt := inClass (topS 9) 10
abbrev n_ef_eq : List Str := ["self", "other"]
abbrev p_ef_eq : List Str := ["self", "other"]
theorem sc_ef_eq : FnScope n_ef_eq p_ef_eq (defScope s_ef_eq) := ⟨rfl, rfl, rfl, by decide +kernel, rfl, by decide +kernel, by decide +kernel⟩
abbrev s_draws : Stmt := topS 11
abbrev n_draws : List Str := ["_law_script", "_law_draws_here", "_law_place", "_law_cell", "_law_rest", "_law_turn", "_law_mixed"]
abbrev p_draws : List Str := ["_law_script"]
theorem sc_draws : FnScope n_draws p_draws (defScope s_draws) := ⟨rfl, rfl, rfl, by decide +kernel, rfl, by decide +kernel, by decide +kernel⟩
abbrev s_take : Stmt := topS 12
abbrev n_take : List Str := ["_law_draws_here", "_law_many"]
abbrev p_take : List Str := ["_law_draws_here", "_law_many"]
theorem sc_take : FnScope n_take p_take (defScope s_take) := ⟨rfl, rfl, rfl, by decide +kernel, rfl, by decide +kernel, by decide +kernel⟩
abbrev s_name : Stmt := topS 13
abbrev n_name : List Str := ["_law_draws_here", "_law_k", "_law_letters", "_law_plain_here", "_law_shape", "_law_word"]
abbrev p_name : List Str := ["_law_draws_here", "_law_k"]
theorem sc_name : FnScope n_name p_name (defScope s_name) := ⟨rfl, rfl, rfl, by decide +kernel, rfl, by decide +kernel, by decide +kernel⟩
abbrev s_texts : Stmt := topS 14
abbrev n_texts : List Str := ["_law_draws_here", "_law_outs", "_law_menu", "_law_turn"]
abbrev p_texts : List Str := ["_law_draws_here", "_law_outs"]
theorem sc_texts : FnScope n_texts p_texts (defScope s_texts) := ⟨rfl, rfl, rfl, by decide +kernel, rfl, by decide +kernel, by decide +kernel⟩
abbrev s_plain : Stmt := topS 15
abbrev n_plain : List Str := ["_law_draws_here", "_law_outs", "_law_seen", "_law_given", "_law_word", "_law_turn"]
abbrev p_plain : List Str := ["_law_draws_here", "_law_outs"]
theorem sc_plain : FnScope n_plain p_plain (defScope s_plain) := ⟨rfl, rfl, rfl, by decide +kernel, rfl, by decide +kernel, by decide +kernel⟩
abbrev s_lsorted : Stmt := topS 16
abbrev n_lsorted : List Str := ["_law_texts_here", "_law_found", "_law_one"]
abbrev p_lsorted : List Str := ["_law_texts_here"]
theorem sc_lsorted : FnScope n_lsorted p_lsorted (defScope s_lsorted) := ⟨rfl, rfl, rfl, by decide +kernel, rfl, by decide +kernel, by decide +kernel⟩
abbrev s_lnormal : Stmt := topS 17
abbrev n_lnormal : List Str := ["_law_outs", "_law_plain_here", "_law_seen", "_law_rows", "_law_word", "_law_texts_here"]
abbrev p_lnormal : List Str := ["_law_outs", "_law_plain_here"]
theorem sc_lnormal : FnScope n_lnormal p_lnormal (defScope s_lnormal) := ⟨rfl, rfl, rfl, by decide +kernel, rfl, by decide +kernel, by decide +kernel⟩
abbrev s_lis : Stmt := topS 18
abbrev n_lis : List Str := ["_law_one", "_law_outs", "_law_normal_here", "_law_j", "_law_told"]
abbrev p_lis : List Str := ["_law_one", "_law_outs", "_law_normal_here"]
theorem sc_lis : FnScope n_lis p_lis (defScope s_lis) := ⟨rfl, rfl, rfl, by decide +kernel, rfl, by decide +kernel, by decide +kernel⟩
abbrev s_lrefused : Stmt := topS 19
abbrev n_lrefused : List Str := ["_law_outs", "_law_seen", "_law_given", "_law_bad", "_law_told", "e"]
abbrev p_lrefused : List Str := ["_law_outs", "_law_seen", "_law_given", "_law_bad"]
theorem sc_lrefused : FnScope n_lrefused p_lrefused (defScope s_lrefused) := ⟨rfl, rfl, rfl, by decide +kernel, rfl, by decide +kernel, by decide +kernel⟩
abbrev s_lno_out : Stmt := topS 20
abbrev n_lno_out : List Str := ["_law_one", "_law_word", "_law_told", "e"]
abbrev p_lno_out : List Str := ["_law_one", "_law_word"]
theorem sc_lno_out : FnScope n_lno_out p_lno_out (defScope s_lno_out) := ⟨rfl, rfl, rfl, by decide +kernel, rfl, by decide +kernel, by decide +kernel⟩
abbrev s_law : Stmt := topS 21
abbrev n_law : List Str := ["_law_script", "_law_draws_here", "_law_outs", "_law_plain_here", "_law_normal_here", "_law_given", "_law_word", "_law_seen", "_law_handed", "_law_one", "_law_empty", "_law_other", "_law_second", "_law_same", "_law_wrong", "_law_k"]
abbrev p_law : List Str := ["_law_script"]
theorem sc_law : FnScope n_law p_law (defScope s_law) := ⟨rfl, rfl, rfl, by decide +kernel, rfl, by decide +kernel, by decide +kernel⟩
structure Adr where
  copied : Addr
  d_copied : FuncData
  lives_init : Addr
  d_lives_init : FuncData
  ascending : Addr
  d_ascending : FuncData
  normal : Addr
  d_normal : FuncData
  ef_init : Addr
  d_ef_init : FuncData
  ef_looks : Addr
  d_ef_looks : FuncData
  ef_gives : Addr
  d_ef_gives : FuncData
  ef_nothing : Addr
  d_ef_nothing : FuncData
  ef_check : Addr
  d_ef_check : FuncData
  ef_eq : Addr
  d_ef_eq : FuncData
  draws : Addr
  d_draws : FuncData
  take : Addr
  d_take : FuncData
  name : Addr
  d_name : FuncData
  texts : Addr
  d_texts : FuncData
  plain : Addr
  d_plain : FuncData
  lsorted : Addr
  d_lsorted : FuncData
  lnormal : Addr
  d_lnormal : FuncData
  lis : Addr
  d_lis : FuncData
  lrefused : Addr
  d_lrefused : FuncData
  lno_out : Addr
  d_lno_out : FuncData
  law : Addr
  d_law : FuncData
  k_ef_init_looks : Addr
  o_ef_looks : Addr
  o_ef_nothing : Addr
  LivesError : Addr
  UnknownName : Addr
  OtherOuts : Addr
  Effect : Addr
structure Tx (K : PySem.W.Frag) (mg : Str → Option Value) (A : Adr) : Prop where
  F_copied : FunD K "copied" "copied" (defArgs s_copied) (defBody s_copied) (defScope s_copied) [.int 4] [] A.copied A.d_copied
  g_copied : mg "copied" = some (.ref A.copied)
  F_lives_init : Fun K "__init__" "LivesError.__init__" s_lives_init A.lives_init A.d_lives_init
  b_lives_init : L2.Binds K A.d_lives_init p_lives_init []
  ti_lives_init : PySem.W.typeIn K (.ref A.lives_init) = some (.type "function")
  F_ascending : Fun K "ascending" "ascending" s_ascending A.ascending A.d_ascending
  b_ascending : L2.Binds K A.d_ascending p_ascending []
  g_ascending : mg "ascending" = some (.ref A.ascending)
  F_normal : Fun K "normal" "normal" s_normal A.normal A.d_normal
  b_normal : L2.Binds K A.d_normal p_normal []
  g_normal : mg "normal" = some (.ref A.normal)
  F_ef_init : FunD K "__init__" "Effect.__init__" (defArgs s_ef_init) (defBody s_ef_init) (defScope s_ef_init) [] [("looks", .ref A.k_ef_init_looks), ("gives", .non), ("faulty", .bl false)] A.ef_init A.d_ef_init
  q_ef_init_looks : ∀ H : Hp, SqT K H A.k_ef_init_looks []
  o_ef_init_looks : ∃ o, K.lookup A.k_ef_init_looks = some o ∧ o.cls = .type "tuple"
  e_ef_init : Meth K A.Effect "__init__" A.ef_init
  F_ef_looks : Fun K "looks" "Effect.looks" s_ef_looks A.ef_looks A.d_ef_looks
  b_ef_looks : L2.Binds K A.d_ef_looks p_ef_looks []
  r_ef_looks : PropOf K A.Effect "looks" A.o_ef_looks A.ef_looks
  F_ef_gives : Fun K "gives" "Effect.gives" s_ef_gives A.ef_gives A.d_ef_gives
  b_ef_gives : L2.Binds K A.d_ef_gives p_ef_gives []
  e_ef_gives : Meth K A.Effect "gives" A.ef_gives
  F_ef_nothing : Fun K "nothing" "Effect.nothing" s_ef_nothing A.ef_nothing A.d_ef_nothing
  b_ef_nothing : L2.Binds K A.d_ef_nothing p_ef_nothing []
  cm_ef_nothing : ClX.CMet K A.Effect (.type "type") "nothing" A.o_ef_nothing A.ef_nothing
  F_ef_check : Fun K "_check_outs" "Effect._check_outs" s_ef_check A.ef_check A.d_ef_check
  b_ef_check : L2.Binds K A.d_ef_check p_ef_check []
  e_ef_check : Meth K A.Effect "_check_outs" A.ef_check
  F_ef_eq : Fun K "__eq__" "Effect.__eq__" s_ef_eq A.ef_eq A.d_ef_eq
  b_ef_eq : L2.Binds K A.d_ef_eq p_ef_eq []
  e_ef_eq : Meth K A.Effect "__eq__" A.ef_eq
  F_draws : Fun K "_law_draws" "_law_draws" s_draws A.draws A.d_draws
  b_draws : L2.Binds K A.d_draws p_draws []
  g_draws : mg "_law_draws" = some (.ref A.draws)
  F_take : Fun K "_law_take" "_law_take" s_take A.take A.d_take
  b_take : L2.Binds K A.d_take p_take []
  g_take : mg "_law_take" = some (.ref A.take)
  F_name : Fun K "_law_name" "_law_name" s_name A.name A.d_name
  b_name : L2.Binds K A.d_name p_name []
  g_name : mg "_law_name" = some (.ref A.name)
  F_texts : Fun K "_law_texts" "_law_texts" s_texts A.texts A.d_texts
  b_texts : L2.Binds K A.d_texts p_texts []
  g_texts : mg "_law_texts" = some (.ref A.texts)
  F_plain : Fun K "_law_plain" "_law_plain" s_plain A.plain A.d_plain
  b_plain : L2.Binds K A.d_plain p_plain []
  g_plain : mg "_law_plain" = some (.ref A.plain)
  F_lsorted : Fun K "_law_sorted" "_law_sorted" s_lsorted A.lsorted A.d_lsorted
  b_lsorted : L2.Binds K A.d_lsorted p_lsorted []
  g_lsorted : mg "_law_sorted" = some (.ref A.lsorted)
  F_lnormal : Fun K "_law_normal" "_law_normal" s_lnormal A.lnormal A.d_lnormal
  b_lnormal : L2.Binds K A.d_lnormal p_lnormal []
  g_lnormal : mg "_law_normal" = some (.ref A.lnormal)
  F_lis : Fun K "_law_is" "_law_is" s_lis A.lis A.d_lis
  b_lis : L2.Binds K A.d_lis p_lis []
  g_lis : mg "_law_is" = some (.ref A.lis)
  F_lrefused : Fun K "_law_refused" "_law_refused" s_lrefused A.lrefused A.d_lrefused
  b_lrefused : L2.Binds K A.d_lrefused p_lrefused []
  g_lrefused : mg "_law_refused" = some (.ref A.lrefused)
  F_lno_out : Fun K "_law_no_out" "_law_no_out" s_lno_out A.lno_out A.d_lno_out
  b_lno_out : L2.Binds K A.d_lno_out p_lno_out []
  g_lno_out : mg "_law_no_out" = some (.ref A.lno_out)
  F_law : Fun K "law" "law" s_law A.law A.d_law
  b_law : L2.Binds K A.d_law p_law []
  g_law : mg "law" = some (.ref A.law)
  m_ValueError : mg "ValueError" = none
  m_abs : mg "abs" = none
  m_bool : mg "bool" = none
  m_dict : mg "dict" = none
  m_int : mg "int" = none
  m_isinstance : mg "isinstance" = none
  m_len : mg "len" = none
  m_list : mg "list" = none
  m_min : mg "min" = none
  m_range : mg "range" = none
  m_set : mg "set" = none
  m_sorted : mg "sorted" = none
  m_str : mg "str" = none
  m_tuple : mg "tuple" = none
  g_LivesError : mg "LivesError" = some (.ref A.LivesError)
  ex_LivesError : UL.ExF K A.LivesError A.lives_init
  g_UnknownName : mg "UnknownName" = some (.ref A.UnknownName)
  ex_UnknownName : UL.ExF K A.UnknownName A.lives_init
  g_OtherOuts : mg "OtherOuts" = some (.ref A.OtherOuts)
  ex_OtherOuts : UL.ExF K A.OtherOuts A.lives_init
  g_Effect : mg "Effect" = some (.ref A.Effect)
  cl_Effect : Cls K A.Effect
  ty_Effect : UL.TyF K A.Effect
  mk_Effect : Mk K A.Effect A.ef_init
  cr_Effect : ClX.CRead K A.Effect (.type "type")
  na_Effect_outs : NoAttr K A.Effect "outs"
  na_Effect_faulty : NoAttr K A.Effect "faulty"
  na_Effect__looks : NoAttr K A.Effect "_looks"
  na_Effect__gives : NoAttr K A.Effect "_gives"
  ke_own : PySem.W.kitOne K (.ref A.Effect) (.ref A.Effect) = some true
  te_uu : PySem.W.exmOne K (.ref A.UnknownName) (.ref A.UnknownName) = some true
  ks_str : PySem.W.kitOne K (.type "str") (.ref A.Effect) = some false
  sf_Effect : PySem.W.selfFirst K A.Effect = true
  si_uu : PySem.W.subIn K (.ref A.UnknownName) (.ref A.UnknownName) = some true
  tyE : PySem.W.typeIn K (.ref A.Effect) = some (.type "type")
  sb_str : PySem.W.subIn K (.type "str") (.ref A.Effect) = some false
section
variable {P : Program} {w : World} {K : PySem.W.Frag} {mg : Str → Option Value} {base : Heap} {A : Adr}
def spTake : Sp := fun vs H Q _ => ∃ d m, vs = [.ref d, .int m] ∧ H d = some (DrO d) ∧ 0 < m ∧ ∀ n : Int, 0 ≤ n → n < m → Q (.int n) H
theorem ok_take (T : Tx K mg A) : FnOk P w K mg base CX0 1 A.take A.d_take p_take spTake := by
  refine T.F_take.ok sc_take (fun vs H Q E h => ?_) (fun cdv Ar outer s H vs Q E hr h => ?_)
  · obtain ⟨d, m, rfl, _⟩ := h
    rfl
  · obtain ⟨d, m, rfl, hd, hm, k⟩ := h
    refine ⟨_, (UL.pss_open 0 (pss_cons (ps_if (pt_cmpR op_eq (pe_callB call_len_seq (by rfl) T.m_len PySem.boot_len (pa_cons (pv 0) pa_nil)) pe_int (nomark _)) (pss_one (ps_ret (UL.pe_close pe_int))) pss_nil)
      (pss_one (ps_ret (UL.pe_close (pe_op op_mod (pe_callTy call_int1 (by rfl) T.m_int (by decide +kernel) (pa_cons (pe_bm PySem.F.plainAttrs_list PySem.F.slot_list_pop PySem.F.type_list_pop mt_popAt (pv 0) (pa_cons pe_int pa_nil)) pa_nil)) (pv 1))))))), ?_⟩
    refine ⟨d, rfl, hd, fun ns g => ?_⟩
    refine ⟨.ref d, rfl, d, _, rfl, .inl (SqL.of upd_same), rfl, _, rfl, ite2 (fun e => ?_) (fun e => ?_)⟩
    · refine ⟨d, ns, upd_same, g, ?_⟩
      show Q _ (upd (upd H d _) d _)
      rw [upd_back hd]
      exact k 0 (Int.le_refl 0) hm
    · obtain ⟨n, r, rfl⟩ : ∃ n r, ns = n :: r := by
        cases ns with
        | nil => exact absurd (decide_eq_true rfl) e
        | cons n r => exact ⟨n, r, rfl⟩
      obtain ⟨n0, n1, gr⟩ := good_tail g
      refine ⟨.ref d, rfl, .inl ⟨rfl, _, SqL.of upd_same⟩, d, _, 0, 0, .int n, rfl, rfl, upd_same, by decide, by decide, (by rw [List.length_map]; exact seq0 _), rfl, .inl ⟨n, rfl, .int m, rfl, n, m, rfl, rfl, hm, d, r, upd_same, gr, ?_⟩⟩
      rw [upd_upd, upd_upd, upd_id hd]
      exact k _ (Int.emod_nonneg _ (by omega)) (Int.emod_lt_of_pos _ hm)
def spDraws (K : PySem.W.Frag) : Sp := fun vs H Q _ => ∃ (a : Addr) (ns : List Int), vs = [.ref a] ∧ SqL K H a (ns.map V.int) ∧ ns.length ≤ 63 ∧ ∀ p, H p = none → Q (.ref p) (upd H p (DrO p))
def DrawsAt (H : Hp) (p : Addr) (i : Nat) (H' : Hp) : Prop := ∃ ms : List Int, H' = upd H p (.lst (ms.map V.int)) ∧ (∀ m ∈ ms, 0 ≤ m ∧ m < 1000003) ∧ ms.length ≤ i
theorem draws_add {H H' : Hp} {p : Addr} {i : Nat} (h : DrawsAt H p i H') (hi : i < 4000) {P : Prop} (k : ∀ ms : List V, H' p = some (.lst ms) → ms.length < sizeLine → (∀ x : Int, DrawsAt H p (i + 1) (upd H' p (.lst (ms ++ [.int (x % 1000003)])))) → P) : P := by
  obtain ⟨ms, rfl, g, hl⟩ := h
  refine k (ms.map V.int) upd_same (by rw [List.length_map]; exact Nat.lt_of_le_of_lt hl (Nat.lt_trans hi (by decide))) fun x => ⟨ms ++ [x % 1000003], ?_, good_add g emod_in, ?_⟩
  · rw [upd_upd, List.map_append]
    rfl
  · rw [List.length_append, List.length_singleton]
    omega
theorem ok_draws (T : Tx K mg A) : FnOk P w K mg base CX0 1 A.draws A.d_draws p_draws (spDraws K) := by
  refine T.F_draws.ok sc_draws (fun vs H Q E h => ?_) (fun cdv Ar outer s H vs Q E hr h => ?_)
  · obtain ⟨a, ns, rfl, _⟩ := h
    rfl
  · obtain ⟨a, ns, rfl, hS, hlen, k⟩ := h
    refine ⟨_, (pss_cons (ps_set (i := 1) sc_draws.nd rfl (Or.inl rfl) (pe_lst pa_nil))
      (pss_cons (ps_for PassesOwn.never rfl (pi_range1 (by rfl) T.m_range (pa_cons (pe_callB (call_min2 rfl) (by rfl) T.m_min (by decide +kernel) (pa_cons pe_int (pa_cons (pe_callB call_len_seq (by rfl) T.m_len PySem.boot_len (pa_cons (pv 0) pa_nil)) pa_nil))) pa_nil)) (pg_name (i := 2) sc_draws.nd rfl (Or.inl rfl)) (pss_cons (ps_set (i := 3) sc_draws.nd rfl (Or.inl rfl) (pe_callTy call_int1 (by rfl) T.m_int (by decide +kernel) (pa_cons (pe_ix ix_list (pv 0) (pv 2) (fun _ _ => rfl)) pa_nil)))
        (pss_cons (ps_set (i := 4) sc_draws.nd rfl (Or.inl rfl) (pe_op op_mul pe_int (pe_callB call_abs (by rfl) T.m_abs (by decide +kernel) (pa_cons (pv 3) pa_nil))))
        (Evl.pss_cut (ps_if (pt_cmpR op_lt (pv 3) pe_int (nomark _)) (pss_one (ps_set (i := 4) sc_draws.nd rfl (Or.inl rfl) (pe_op op_add (pv 4) pe_int))) pss_nil)
        (pss_one (ps_if (pt_cmpR op_lt (pv 4) (pe_op op_mul pe_int (pe_op op_pow pe_int pe_int)) (nomark _)) (pss_one (ps_for PassesOwn.never rfl (pi_range1 (by rfl) T.m_range (pa_cons pe_int pa_nil)) (pg_name (i := 5) sc_draws.nd rfl (Or.inl rfl)) (pss_cons (ps_set (i := 6) sc_draws.nd rfl (Or.inl rfl) (pe_op op_mod (pe_callTy call_int1 (by rfl) T.m_int (by decide +kernel) (pa_cons (pe_op op_add (pe_op op_mul (pe_op op_add (pv 4) pe_int) (pe_op op_add pe_int (pe_op op_mul pe_int (pv 2)))) (pe_op op_mul pe_int (pv 5))) pa_nil)) pe_int))
            (pss_cons (ps_set (i := 6) sc_draws.nd rfl (Or.inl rfl) (pe_op op_mod (pe_callTy call_int1 (by rfl) T.m_int (by decide +kernel) (pa_cons (pe_op op_mul (pv 6) (pv 6)) pa_nil)) pe_int))
            (pss_one (ps_expr (pe_bm PySem.F.plainAttrs_list PySem.F.slot_list_append PySem.F.type_list_append mt_append (pv 1) (pa_cons (pe_op op_mod (pe_callTy call_int1 (by rfl) T.m_int (by decide +kernel) (pa_cons (pv 6) pa_nil)) pe_int) pa_nil)))))))) (pss_one (ps_for PassesOwn.never rfl (pi_range1 (by rfl) T.m_range (pa_cons pe_int pa_nil)) (pg_name (i := 5) sc_draws.nd rfl (Or.inl rfl)) (pss_one (ps_if (pt_cmpR op_gt (pv 4) pe_int (nomark _)) (pss_cons (ps_expr (pe_bm PySem.F.plainAttrs_list PySem.F.slot_list_append PySem.F.type_list_append mt_append (pv 1) (pa_cons (pe_op op_mod (pe_callTy call_int1 (by rfl) T.m_int (by decide +kernel) (pa_cons (pv 4) pa_nil)) pe_int) pa_nil)))
              (pss_one (ps_set (i := 4) sc_draws.nd rfl (Or.inl rfl) (pe_op op_fdiv (pv 4) pe_int)))) pss_nil))))))))))
      (pss_one (ps_ret (UL.pe_close (pv 1)))))), ?_⟩
    refine ⟨Nat.zero_le _, fun p hp => ?_⟩
    have eL : ∀ {j H'}, DrawsAt H p j H' → SqL K H' a (ns.map V.int) := fun ⟨ms, e, _⟩ => by
      rw [e]
      exact (same_upd hp).seq hS
    refine ⟨.ref a, rfl, a, _, rfl, .inl ((same_upd hp).seq hS), 63, _, rfl, ?_⟩
    have hm : (if (((ns.map V.int).length : Nat) : Int) < 63 then (((ns.map V.int).length : Nat) : Int) else 63) = (ns.length : Int) := by
      rw [List.length_map]
      split <;> omega
    rw [hm]
    refine ⟨(ns.length : Int), rfl, forR1 ⟨by omega, by omega⟩ (fun i σ H' => ∃ v2 v3 v4 v5 v6, σ = [some (.ref a), some (.ref p), v2, v3, v4, v5, v6] ∧ DrawsAt H p (60 * i) H') ⟨none, none, none, none, none, rfl, [], rfl, fun _ h => (nomatch h), Nat.le_refl _⟩ ?_ ?_⟩
    · rintro i σ' H' hi ⟨v2, v3, v4, v5, v6, rfl, hD⟩
      have hi' : i < ns.length := by omega
      -- cell, rest
      refine ⟨.ref a, rfl, .int (i : Int), rfl, a, _, _, .int ns[i], rfl, rfl, eL hD, atI_nat (int_get hi'), .inl ⟨ns[i], rfl, ?_⟩⟩
      refine ⟨.int ns[i], rfl, ns[i], rfl, 2, _, rfl, rfl, .inl ⟨by decide, by decide⟩, ?_⟩
      have h0 : 0 ≤ 2 * (if ns[i] < 0 then -ns[i] else ns[i]) := by split <;> omega
      refine ⟨fun σ2 H2 => ∃ r : Int, 0 ≤ r ∧ σ2 = [some (.ref a), some (.ref p), some (.int (i : Int)), some (.int ns[i]), some (.int r), v5, v6] ∧ H2 = H', ?_, ?_⟩
      · refine ⟨_, rfl, _, 0, rfl, rfl, _, rfl, ite2 (fun _ => ?_) (fun _ => ?_)⟩
        · exact ⟨_, rfl, _, 1, rfl, rfl, _, Int.le_add_one h0, rfl, rfl⟩
        · exact ⟨_, h0, rfl, rfl⟩
      · generalize ns[i] = c
        rintro σ2 H2 ⟨r, h0, rfl, rfl⟩
        refine ⟨.int r, rfl, 10, 18, rfl, rfl, ⟨by decide, by decide, by decide⟩, 2, _, rfl, rfl, .inl ⟨by decide, by decide⟩, r, _, rfl, rfl, _, rfl, ite2 (fun e => ?_) (fun e => ?_)⟩
        · have hr1 : r < 2 * 10 ^ 18 := of_decide_eq_true e
          refine ⟨4, rfl, forR1 ⟨by decide, by decide⟩ (fun t σ H' => ∃ v5 v6, σ = [some (.ref a), some (.ref p), some (.int (i : Int)), some (.int c), some (.int r), v5, v6] ∧ DrawsAt H p (60 * i + t) H') ⟨_, _, rfl, hD⟩ ?_ ?_⟩
          · rintro t σ' H' ht ⟨v5, v6, rfl, hD⟩
            have hi63 : (i : Int) < 63 := by omega
            refine ⟨_, rfl, r, 1, rfl, rfl, _, rfl, 2, _, rfl, rfl, .inl ⟨by decide, by decide⟩, 48271, _, rfl, rfl, _, _, rfl, rfl, .inr ⟨by omega, by omega⟩, _, rfl, 69621, _, rfl, rfl, .inl ⟨by decide, by decide⟩, _, _, rfl, rfl, .inl ⟨_, rfl, _, 2147483647, rfl, rfl, (show (0 : Int) < 2147483647 by decide), ?_⟩⟩
            have hx0 : 0 ≤ ((r + 1) * (48271 + 2 * (i : Int)) + 69621 * (t : Int)) % 2147483647 := Int.emod_nonneg _ (by decide)
            have hx1 : ((r + 1) * (48271 + 2 * (i : Int)) + 69621 * (t : Int)) % 2147483647 < 2147483647 := Int.emod_lt_of_pos _ (by decide)
            refine ⟨_, rfl, _, rfl, _, _, rfl, rfl, .inl ⟨Int.lt_of_lt_of_le (by decide) hx0, Int.lt_trans hx1 (by decide)⟩, .inl ⟨_, rfl, _, 2147483629, rfl, rfl, (show (0 : Int) < 2147483629 by decide), ?_⟩⟩
            refine draws_add hD (by omega) fun ms h1 h2 h3 => ?_
            refine ⟨.ref p, rfl, .inl ⟨rfl, _, SqL.of h1⟩, _, rfl, .inl ⟨_, rfl, _, 1000003, rfl, rfl, (show (0 : Int) < 1000003 by decide), p, ms, _, rfl, rfl, h1, h2, ?_⟩⟩
            exact ⟨_, _, rfl, h3 _⟩
          · rintro σ' H' ⟨v5, v6, rfl, ms, e, g, hl⟩
            exact ⟨_, _, _, _, _, rfl, ms, e, g, Nat.le_trans hl (by show 60 * i + 4 ≤ 60 * (i + 1); omega)⟩
        · refine ⟨60, rfl, forR1 ⟨by decide, by decide⟩ (fun t σ H' => ∃ r v5 v6, σ = [some (.ref a), some (.ref p), some (.int (i : Int)), some (.int c), some (.int r), v5, v6] ∧ DrawsAt H p (60 * i + t) H') ⟨_, _, _, rfl, hD⟩ ?_ ?_⟩
          · rintro t σ' H' ht ⟨r, v5, v6, rfl, hD⟩
            refine ⟨.int r, rfl, r, 0, rfl, rfl, _, rfl, ite2 (fun _ => ?_) (fun _ => ?_)⟩
            · refine draws_add hD (by omega) fun ms h1 h2 h3 => ?_
              refine ⟨.ref p, rfl, .inl ⟨rfl, _, SqL.of h1⟩, .int r, rfl, .inl ⟨r, rfl, r, 1000003, rfl, rfl, (show (0 : Int) < 1000003 by decide), p, ms, _, rfl, rfl, h1, h2, ?_⟩⟩
              refine ⟨.int r, rfl, r, 1000003, rfl, rfl, ⟨by decide, by decide⟩, ?_⟩
              exact ⟨_, _, _, rfl, h3 _⟩
            · obtain ⟨ms, e, g, hl⟩ := hD
              exact ⟨_, _, _, rfl, ms, e, g, Nat.le_succ_of_le hl⟩
          · rintro σ' H' ⟨r, v5, v6, rfl, ms, e, g, hl⟩
            exact ⟨_, _, _, _, _, rfl, ms, e, g, Nat.le_trans hl (by show 60 * i + 60 ≤ 60 * (i + 1); omega)⟩
    · rintro σ' H' ⟨v2, v3, v4, v5, v6, rfl, ms, rfl, g, hl⟩
      refine ⟨.ref p, rfl, p, ms, upd_same, ⟨g, Nat.le_trans hl (by omega)⟩, ?_⟩
      rw [upd_upd]
      exact k p hp
def kWords : List V := [V.str "fun", V.str "out", V.str "use", V.str "val", V.str "ref", V.str "set", V.str "block", V.str "if", V.str "else", V.str "loop", V.str "end", V.str "part", V.str "pick", V.str "then", V.str "dead"]
def NoStr (H : Hp) (v : V) : Prop := v = .non ∨ (∃ b, v = .bl b) ∨ (∃ i, v = .int i) ∨ (∃ a xs, v = .ref a ∧ (H a = some (.lst xs) ∨ H a = some (.tup xs))) ∨ ∃ a kvs, v = .ref a ∧ H a = some (.dK kvs)
def Th (H : Hp) (v : V) : Prop := (∃ z, v = .str z ∧ z.length ≤ 64) ∨ NoStr H v
theorem Th.mono {H H' : Hp} {v : V} (e : Ex H H') (h : Th H v) : Th H' v := by
  rcases h with h | h | h | h | ⟨a, xs, h, h1 | h1⟩ | ⟨a, kvs, h, h1⟩
  · exact .inl h
  · exact .inr (.inl h)
  · exact .inr (.inr (.inl h))
  · exact .inr (.inr (.inr (.inl h)))
  · exact .inr (.inr (.inr (.inr (.inl ⟨a, xs, h, .inl (e _ _ h1)⟩))))
  · exact .inr (.inr (.inr (.inr (.inl ⟨a, xs, h, .inr (e _ _ h1)⟩))))
  · exact .inr (.inr (.inr (.inr (.inr ⟨a, kvs, h, e _ _ h1⟩))))
def isS : V → Bool
  | .str _ => true
  | _ => false
theorem Th.isi {K : PySem.W.Frag} {H : Hp} {v : V} (h : Th H v) : ∃ t, TyX K H v t ∧ PySem.W.kitOne K t (.type "str") = some (isS v) := by
  rcases h with ⟨z, rfl, _⟩ | rfl | ⟨b, rfl⟩ | ⟨i, rfl⟩ | ⟨a, xs, rfl, h1 | h1⟩ | ⟨a, kvs, rfl, h1⟩
  · exact ⟨_, .base (.str z), kit_ty (r := true) (by decide +kernel)⟩
  · exact ⟨_, .base .non, kit_ty (r := false) (by decide +kernel)⟩
  · exact ⟨_, .base (.bl b), kit_ty (r := false) (by decide +kernel)⟩
  · exact ⟨_, .base (.int i), kit_ty (r := false) (by decide +kernel)⟩
  · exact ⟨_, .base (.lst h1), kit_ty (r := false) (by decide +kernel)⟩
  · exact ⟨_, .base (.tup h1), kit_ty (r := false) (by decide +kernel)⟩
  · exact ⟨_, .base (.dK h1), kit_ty (r := false) (by decide +kernel)⟩
def wordsS : List Str := ["fun", "out", "use", "val", "ref", "set", "block", "if", "else", "loop", "end", "part", "pick", "then", "dead"]
theorem kWords_eq : kWords = wordsS.map V.str := rfl
def alnum (c : Nat) : Bool := decide (c ∈ tl "abcdefghijklmnopqrstuvwxyz") || decide (c ∈ tl "0123456789")
def okS (z : Str) : Bool := decide (1 ≤ z.length) && decide (z.length ≤ 8) && (match tl z with | c :: _ => decide (c ∈ tl "abcdefghijklmnopqrstuvwxyz") | [] => false) && !inV (.str z) kWords && (tl z).all alnum
def tl36 : List Nat := tl "abcdefghijklmnopqrstuvwxyz0123456789"
theorem tl36_eq : tl36 = tl "abcdefghijklmnopqrstuvwxyz" ++ tl "0123456789" := by decide +kernel
theorem alnum36 (c : Nat) : alnum c = decide (c ∈ tl36) := by
  unfold alnum
  rw [tl36_eq]
  by_cases h1 : c ∈ tl "abcdefghijklmnopqrstuvwxyz" <;> by_cases h2 : c ∈ tl "0123456789" <;> simp [h1, h2]
theorem apart : ∀ c ∈ tl "abcdefghijklmnopqrstuvwxyz", c ∉ tl "0123456789" := by decide +kernel
/-! ### drawn names -/
def tlL : List Nat := tl "abcdefghijklmnopqrstuvwxyz"
def tlD : List Nat := tl "0123456789"
def isD (c : Nat) : Bool := decide (c ∈ tlD)
def digs (z : Str) : List Nat := (tl z).filter isD
structure Wd (k : Int) (z : Str) : Prop where
  num : digs z = tl (Str.ofString (toString k))
  first : ∃ c r, tl z = c :: r ∧ c ∈ tlL
  all : ∀ c ∈ tl z, alnum c = true
  len : 2 ≤ z.length ∧ z.length ≤ 8
  dig : ∃ c ∈ tl z, c ∈ tlD
theorem alL {c : Nat} (h : c ∈ tlL) : alnum c = true := by
  unfold alnum
  rw [show decide (c ∈ tl "abcdefghijklmnopqrstuvwxyz") = true from decide_eq_true h, Bool.true_or]
theorem alD {c : Nat} (h : c ∈ tlD) : alnum c = true := by
  unfold alnum
  rw [show decide (c ∈ tl "0123456789") = true from decide_eq_true h, Bool.or_true]
theorem nodig : ∀ w ∈ wordsS, ∀ c ∈ tl w, c ∉ tlD := by decide +kernel
theorem Wd.ok {k : Int} {z : Str} (h : Wd k z) : okS z = true := by
  obtain ⟨_, ⟨c, r, hcr, hc⟩, h2, ⟨h3, h4⟩, d, hd, hdd⟩ := h
  have hi : inV (.str z) kWords = false := by
    unfold inV
    rw [List.any_eq_false]
    intro y hy
    rw [kWords_eq] at hy
    obtain ⟨w, hw, rfl⟩ := List.mem_map.mp hy
    intro e
    have e1 : w = z := by
      have : (w == z) = true := e
      simpa using this
    subst e1
    exact nodig w hw d hd hdd
  unfold okS
  rw [hi, List.all_eq_true.mpr h2, hcr, decide_eq_true (show 1 ≤ z.length by omega), decide_eq_true h4]
  show (true && true && decide (c ∈ tl "abcdefghijklmnopqrstuvwxyz") && !false && true) = true
  rw [show decide (c ∈ tl "abcdefghijklmnopqrstuvwxyz") = true from decide_eq_true hc]
  rfl
theorem dig_mem {c : Nat} (h : 48 ≤ c ∧ c ≤ 57) : c ∈ tlD := by
  have : c = 48 ∨ c = 49 ∨ c = 50 ∨ c = 51 ∨ c = 52 ∨ c = 53 ∨ c = 54 ∨ c = 55 ∨ c = 56 ∨ c = 57 := by omega
  rcases this with h | h | h | h | h | h | h | h | h | h <;> (subst h; decide +kernel)
theorem num_ok {k : Int} (h0 : 0 ≤ k) (h1 : k < 100) : (∀ c ∈ tl (Str.ofString (toString k)), c ∈ tlD) ∧ 1 ≤ (tl (Str.ofString (toString k))).length ∧ (tl (Str.ofString (toString k))).length ≤ 2 := by
  obtain ⟨n, rfl⟩ := Int.eq_ofNat_of_zero_le h0
  rw [tl_num]
  refine ⟨fun c hc => dig_mem (numL_digits n c hc), ?_, numL_len (by decide) (by omega)⟩
  have := numL_ne n
  cases e : numL n with
  | nil => exact absurd e this
  | cons a r => show 1 ≤ r.length + 1; omega
theorem isD_L {c : Nat} (h : c ∈ tlL) : isD c = false := by
  have : ∀ c ∈ tlL, isD c = false := by decide +kernel
  exact this c h
theorem digs_L {y : Str} (h : ∀ c ∈ tl y, c ∈ tlL) : digs y = [] := List.filter_eq_nil_iff.mpr fun c hc => by rw [isD_L (h c hc)]; simp
theorem digs_app (z y : Str) : digs (z ++ y) = digs z ++ digs y := by
  unfold digs
  rw [tl_append, List.filter_append]
theorem wd_num {c : Nat} {k : Int} (hc : c ∈ tlL) (h0 : 0 ≤ k) (h1 : k < 100) : Wd k ((⟨#[c]⟩ : Str) ++ Str.ofString (toString k)) ∧ ((⟨#[c]⟩ : Str) ++ Str.ofString (toString k)).length ≤ 3 := by
  obtain ⟨n1, n2, n3⟩ := num_ok h0 h1
  have e : tl ((⟨#[c]⟩ : Str) ++ Str.ofString (toString k)) = c :: tl (Str.ofString (toString k)) := by rw [tl_append]; rfl
  have el : ((⟨#[c]⟩ : Str) ++ Str.ofString (toString k)).length = (tl (Str.ofString (toString k))).length + 1 := by rw [len_tl, e]; rfl
  refine ⟨⟨?_, ⟨c, _, e, hc⟩, fun d hd => ?_, by omega, ?_⟩, by omega⟩
  · unfold digs
    rw [e, List.filter_cons_of_neg (by rw [isD_L hc]; simp), List.filter_eq_self]
    exact fun x hx => decide_eq_true (n1 x hx)
  · rw [e] at hd
    rcases List.mem_cons.mp hd with rfl | hd
    · exact alL hc
    · exact alD (n1 d hd)
  · cases q : tl (Str.ofString (toString k)) with
    | nil =>
      rw [q] at n2
      exact absurd n2 (by decide)
    | cons a r =>
      exact ⟨a, by rw [e, q]; exact List.mem_cons_of_mem _ List.mem_cons_self, n1 a (by rw [q]; exact List.mem_cons_self)⟩
theorem wd_back {k : Int} {z y : Str} (h : Wd k z) (hy : ∀ c ∈ tl y, c ∈ tlL) (hl : z.length + y.length ≤ 8) : Wd k (z ++ y) := by
  obtain ⟨hk, ⟨c, r, hcr, hc⟩, h2, h3, d, hd, hdd⟩ := h
  have el : (z ++ y).length = z.length + y.length := by rw [len_tl, tl_append, List.length_append, ← len_tl, ← len_tl]
  refine ⟨by rw [digs_app, digs_L hy, List.append_nil]; exact hk, ⟨c, r ++ tl y, by rw [tl_append, hcr]; rfl, hc⟩, fun q hq => ?_, by omega, d, by rw [tl_append]; exact List.mem_append_left _ hd, hdd⟩
  rw [tl_append] at hq
  rcases List.mem_append.mp hq with hq | hq
  · exact h2 q hq
  · exact alL (hy q hq)
theorem wd_front {k : Int} {z : Str} {c : Nat} (h : Wd k z) (hc : c ∈ tlL) (hl : z.length ≤ 7) : Wd k ((⟨#[c]⟩ : Str) ++ z) := by
  obtain ⟨hk, _, h2, h3, d, hd, hdd⟩ := h
  have e : tl ((⟨#[c]⟩ : Str) ++ z) = c :: tl z := by rw [tl_append]; rfl
  have el : ((⟨#[c]⟩ : Str) ++ z).length = z.length + 1 := by rw [len_tl, e, List.length_cons, ← len_tl]
  refine ⟨by rw [digs_app, digs_L (fun q hq => by rw [List.mem_singleton.mp (show q ∈ [c] from hq)]; exact hc), List.nil_append]; exact hk, ⟨c, _, e, hc⟩, fun q hq => ?_, by omega, d, by rw [e]; exact List.mem_cons_of_mem _ hd, hdd⟩
  rw [e] at hq
  rcases List.mem_cons.mp hq with rfl | hq
  · exact alL hc
  · exact h2 q hq
theorem cut_q {z : Str} (h : z.length ≤ 8) : (∀ c ∈ tl (cutS "qqqqqqqq" (some (z.length : Int)) none), c ∈ tlL) ∧ (cutS "qqqqqqqq" (some (z.length : Int)) none).length = 8 - z.length := by
  have : ∀ n : Nat, n ≤ 8 → (∀ c ∈ tl (cutS "qqqqqqqq" (some (n : Int)) none), c ∈ tlL) ∧ (cutS "qqqqqqqq" (some (n : Int)) none).length = 8 - n := by
    intro n hn
    have hn : n = 0 ∨ n = 1 ∨ n = 2 ∨ n = 3 ∨ n = 4 ∨ n = 5 ∨ n = 6 ∨ n = 7 ∨ n = 8 := by omega
    rcases hn with h | h | h | h | h | h | h | h | h <;> (subst h; decide +kernel)
  exact this _ h
def plainS : List Str := ["a", "x", "new", "b", "user", "copy", "ends", "z", "elses", "n", "dea", "deads", "pic", "thens", "funs", "y"]
theorem plain_ok : ∀ z ∈ plainS, okS z = true := by decide +kernel
theorem okS_len {z : Str} (h : okS z = true) : z.length ≤ 8 := by
  unfold okS at h
  rw [Bool.and_eq_true, Bool.and_eq_true, Bool.and_eq_true, Bool.and_eq_true] at h
  exact of_decide_eq_true h.1.1.1.2
theorem nm_at {k : Int} {z : Str} (h0 : 0 ≤ k) (h1 : k < 16) (h : atI plainS k = some z) : plainS[k.toNat]? = some z := by
  obtain ⟨m, rfl⟩ := Int.eq_ofNat_of_zero_le h0
  have hm : m < plainS.length := by show m < 16; omega
  rw [atI_nat (List.getElem?_eq_getElem hm)] at h
  rw [show ((m : Int)).toNat = m from Int.toNat_natCast m, List.getElem?_eq_getElem hm]
  exact h
def NmOf (k : Int) (z : Str) : Prop := digs z = tl (Str.ofString (toString k)) ∨ (k < 16 ∧ plainS[k.toNat]? = some z)
def spName : Sp := fun vs H Q _ => ∃ d k, vs = [.ref d, .int k] ∧ H d = some (DrO d) ∧ 0 ≤ k ∧ k < 100 ∧ ∀ z H', okS z = true → NmOf k z → Ex H H' → Q (.str z) H'
theorem ok_name (T : Tx K mg A) : FnOk P w K mg base CX0 2 A.name A.d_name p_name spName := by
  refine T.F_name.ok sc_name (fun vs H Q E h => ?_) (fun cdv Ar outer s H vs Q E hr h => ?_)
  · obtain ⟨d, k, rfl, _⟩ := h
    rfl
  · obtain ⟨d, k, rfl, hd, k0, k1, q⟩ := h
    refine ⟨_, (pss_cons (ps_set (i := 2) sc_name.nd rfl (Or.inl rfl) pe_str)
      (pss_cons (ps_set (i := 3) sc_name.nd rfl (Or.inl rfl) (pe_lst (pa_cons pe_str (pa_cons pe_str (pa_cons pe_str (pa_cons pe_str (pa_cons pe_str (pa_cons pe_str (pa_cons pe_str (pa_cons pe_str (pa_cons pe_str (pa_cons pe_str (pa_cons pe_str (pa_cons pe_str (pa_cons pe_str (pa_cons pe_str (pa_cons pe_str (pa_cons pe_str pa_nil))))))))))))))))))
      (pss_cons (ps_set (i := 4) sc_name.nd rfl (Or.inl rfl) (pe_call (ok_take T) (hr.mono (by decide)) (by rfl) T.g_take T.F_take.kp T.b_take .nil pass0 (pa_cons (pv 0) (pa_cons pe_int pa_nil))))
      (Evl.pss_cut (ps_if (PW.pt (pw_and (pt_cmpR op_eq (pv 4) pe_int (nomark _)) (pw_and1 (pt_cmpR op_lt (pv 1) pe_int (nomark _))))) (pss_one (ps_ret (pe_ix ix_list (pv 3) (pv 1) (fun _ _ => rfl)))) pss_nil)
      (pss_cons (ps_set (i := 5) sc_name.nd rfl (Or.inl rfl) (pe_op op_add_str (pe_ix ix_str (pv 2) (pe_call (ok_take T) (hr.mono (by decide)) (by rfl) T.g_take T.F_take.kp T.b_take .nil pass0 (pa_cons (pv 0) (pa_cons pe_int pa_nil))) (fun _ _ => rfl)) (pe_callTy call_str_int (by rfl) T.m_str (by decide +kernel) (pa_cons (pv 1) pa_nil))))
      (Evl.pss_cut (ps_if (pt_cmpR op_eq (pv 4) pe_int (nomark _)) (pss_one (ps_set (i := 5) sc_name.nd rfl (Or.inl rfl) (pe_op op_add_str pe_str (pe_callTy call_str_int (by rfl) T.m_str (by decide +kernel) (pa_cons (pv 1) pa_nil))))) pss_nil)
      (Evl.pss_cut (ps_if (pt_cmpR op_eq (pv 4) pe_int (nomark _)) (pss_one (ps_set (i := 5) sc_name.nd rfl (Or.inl rfl) (pe_op op_add_str (pv 5) (pe_ix ix_str (pv 2) (pe_call (ok_take T) (hr.mono (by decide)) (by rfl) T.g_take T.F_take.kp T.b_take .nil pass0 (pa_cons (pv 0) (pa_cons pe_int pa_nil))) (fun _ _ => rfl))))) pss_nil)
      (Evl.pss_cut (ps_if (pt_cmpR op_eq (pv 4) pe_int (nomark _)) (pss_one (ps_set (i := 5) sc_name.nd rfl (Or.inl rfl) (pe_op op_add_str (pe_ix ix_str (pv 2) (pe_call (ok_take T) (hr.mono (by decide)) (by rfl) T.g_take T.F_take.kp T.b_take .nil pass0 (pa_cons (pv 0) (pa_cons pe_int pa_nil))) (fun _ _ => rfl)) (pv 5)))) pss_nil)
      (Evl.pss_cut (ps_if (pt_cmpR op_eq (pv 4) pe_int (nomark _)) (pss_one (ps_set (i := 5) sc_name.nd rfl (Or.inl rfl) (pe_op op_add_str (pv 5) (pe_slice sl_str pe_str (po_some (pe_callB call_len_str (by rfl) T.m_len PySem.boot_len (pa_cons (pv 5) pa_nil))) po_none)))) pss_nil)
      (pss_one (ps_ret (pv 5)))))))))))), ?_⟩
    refine ⟨sz_of (by show 16 ≤ 100000; decide), fun p hp => ?_⟩
    have e1 := Ex.new (o := .lst (plainS.map V.str)) hp
    have hd1 := e1 _ _ hd
    refine ⟨_, rfl, d, _, rfl, hd1, by decide, fun s s0 s1 => ?_⟩
    have hp1 : upd H p (.lst (plainS.map V.str)) p = some (.lst (plainS.map V.str)) := upd_same
    revert hp1 e1 hd1
    show Ex H (upd H p (.lst (plainS.map V.str))) → upd H p (.lst (plainS.map V.str)) d = some (DrO d) → upd H p (.lst (plainS.map V.str)) p = some (.lst (plainS.map V.str)) → tCut _ _ _ _ (upd H p (.lst (plainS.map V.str)))
    generalize upd H p (.lst (plainS.map V.str)) = H1
    intro e1 hd1 hp1
    let S0 : Option V → L2.St := fun v5 => [some (.ref d), some (.int k), some (.str "abcdefghijklmnopqrstuvwxyz"), some (.ref p), some (.int s), v5]
    refine ⟨fun σ' H' => σ' = S0 none ∧ H' = H1, ?_, ?_⟩
    · refine ⟨_, rfl, rfl, _, rfl, ite2 (fun _ => ?_) (fun _ => iteF ⟨rfl, rfl⟩)⟩
      refine ⟨_, rfl, k, 16, rfl, rfl, _, rfl, ite2 (fun h => ?_) (fun _ => ⟨rfl, rfl⟩)⟩
      have hk : k < 16 := of_decide_eq_true h
      obtain ⟨z, hz, hm⟩ := at_in (xs := plainS) k0 (show k < 16 from hk)
      refine ⟨_, rfl, _, rfl, p, _, k, .str z, rfl, rfl, SqL.of hp1, ?_, q z H1 (plain_ok z hm) (.inr ⟨hk, nm_at k0 hk hz⟩) e1⟩
      obtain ⟨m, rfl⟩ := Int.eq_ofNat_of_zero_le k0
      have hm2 : m < plainS.length := by show m < 16; omega
      rw [atI_nat (List.getElem?_eq_getElem hm2)] at hz
      rw [← Option.some.inj hz]
      refine atI_nat ?_
      rw [List.getElem?_map, List.getElem?_eq_getElem hm2]
      rfl
    rintro σ' H' ⟨rfl, rfl⟩
    have one : ∀ c : Nat, (⟨#[c]⟩ : Str).length = 1 := fun _ => rfl
    have lg : k.natAbs.log2 < 1920 := by
      have h1 : k.natAbs < 2 ^ 1920 := Nat.lt_of_lt_of_le (show k.natAbs < 128 by omega) (by decide +kernel)
      by_cases hz : k.natAbs = 0
      · rw [hz]
        decide
      · exact (Nat.log2_lt hz).mpr h1
    have szn : ∀ c : Nat, (⟨#[c]⟩ : Str).length + (Str.ofString (toString k)).length ≤ sizeLine := fun c => sz_of (by have := (num_ok k0 k1).2.2; rw [one, len_tl]; omega)
    -- word = letter + str(k)
    refine ⟨_, rfl, _, rfl, d, _, rfl, hd1, by decide, fun n n0 n1 => ?_⟩
    obtain ⟨c, hc, hm⟩ := at_in (xs := tl "abcdefghijklmnopqrstuvwxyz") n0 (show n < 26 from n1)
    refine ⟨_, n, c, rfl, rfl, by decide, hc, _, rfl, k, rfl, lg, _, _, rfl, rfl, szn c, ?_⟩
    obtain ⟨w0, l0⟩ := wd_num (c := c) hm k0 k1
    generalize ((⟨#[c]⟩ : Str) ++ Str.ofString (toString k)) = z0 at w0 l0
    -- shape 1
    refine ⟨fun σ' Hn => ∃ z, Wd k z ∧ z.length ≤ 3 ∧ σ' = S0 (some (.str z)) ∧ Hn = H', ?_, ?_⟩
    · refine ⟨_, rfl, rfl, _, rfl, ite2 (fun _ => ?_) (fun _ => ⟨z0, w0, l0, rfl, rfl⟩)⟩
      obtain ⟨w1, l1⟩ := wd_num (c := 110) (by decide +kernel) k0 k1
      exact ⟨_, rfl, k, rfl, lg, _, _, rfl, rfl, szn 110, _, w1, l1, rfl, rfl⟩
    rintro σ' Hb ⟨z1, w1, l1, rfl, rfl⟩
    -- shape 2
    refine ⟨fun σ' H2 => ∃ z, Wd k z ∧ z.length ≤ 4 ∧ σ' = S0 (some (.str z)) ∧ H2 = Hb, ?_, ?_⟩
    · refine ⟨_, rfl, rfl, _, rfl, ite2 (fun _ => ?_) (fun _ => ⟨z1, w1, by omega, rfl, rfl⟩)⟩
      refine ⟨_, rfl, _, rfl, _, rfl, d, _, rfl, hd1, by decide, fun n n0 n1 => ?_⟩
      obtain ⟨c, hc, hm⟩ := at_in (xs := tl "abcdefghijklmnopqrstuvwxyz") n0 (show n < 26 from n1)
      refine ⟨_, n, c, rfl, rfl, by decide, hc, _, _, rfl, rfl, sz_of (by rw [one]; omega), _, wd_back w1 (y := ⟨#[c]⟩) (fun q hq => ?_) (by rw [one]; omega), ?_, rfl, rfl⟩
      · rw [List.mem_singleton.mp (show q ∈ [c] from hq)]
        exact hm
      · rw [len_tl, tl_append, List.length_append, ← len_tl, ← len_tl, one]
        omega
    rintro σ' H2 ⟨z2, w2, l2, rfl, rfl⟩
    -- shape 3
    refine ⟨fun σ' H3 => ∃ z, Wd k z ∧ z.length ≤ 5 ∧ σ' = S0 (some (.str z)) ∧ H3 = H2, ?_, ?_⟩
    · refine ⟨_, rfl, rfl, _, rfl, ite2 (fun _ => ?_) (fun _ => ⟨z2, w2, by omega, rfl, rfl⟩)⟩
      refine ⟨_, rfl, _, rfl, d, _, rfl, hd1, by decide, fun n n0 n1 => ?_⟩
      obtain ⟨c, hc, hm⟩ := at_in (xs := tl "abcdefghijklmnopqrstuvwxyz") n0 (show n < 26 from n1)
      refine ⟨_, n, c, rfl, rfl, by decide, hc, _, rfl, _, _, rfl, rfl, sz_of (by rw [one]; omega), _, wd_front w2 hm (by omega), ?_, rfl, rfl⟩
      rw [len_tl, tl_append, List.length_append, ← len_tl, ← len_tl, one]
      omega
    rintro σ' H3 ⟨z3, w3, l3, rfl, rfl⟩
    -- shape 4
    refine ⟨fun σ' H4 => ∃ z, Wd k z ∧ σ' = S0 (some (.str z)) ∧ H4 = H3, ?_, ?_⟩
    · refine ⟨_, rfl, rfl, _, rfl, ite2 (fun _ => ?_) (fun _ => ⟨z3, w3, rfl, rfl⟩)⟩
      obtain ⟨q1, q2⟩ := cut_q (z := z3) (by omega)
      refine ⟨_, rfl, _, rfl, z3, rfl, sz_of (by omega), _, rfl, _, rfl, by decide, _, _, rfl, rfl, sz_of (by omega), _, wd_back w3 q1 (by omega), rfl, rfl⟩
    rintro σ' H4 ⟨z4, w4, rfl, rfl⟩
    exact ⟨_, rfl, q z4 _ w4.ok (.inl w4.num) e1⟩
end
end K61

set_option Elab.async false
set_option linter.all false
set_option maxRecDepth 100000
namespace K61
open PySem PySem.Spec PyProof.Rows L2 Evl TL UL StX
section
variable {P : Program} {w : World} {K : PySem.W.Frag} {mg : Str → Option Value} {base : Heap} {A : Adr}
/-! ### errors that keep a text or a copy of a tuple of texts -/
def spCopiedF : Sp := fun vs H Q _ => ∃ v n, vs = [v, .int n] ∧ 1 ≤ n ∧ flatV v = true ∧ Q v H
theorem ok_copiedF (T : Tx K mg A) : FnOk P w K mg base CX0 1 A.copied A.d_copied p_copied spCopiedF := by
  refine T.F_copied.ok sc_copied (fun vs H Q E h => ?_) (fun cdv Ar outer s H vs Q E hr h => ?_)
  · obtain ⟨v, n, rfl, _⟩ := h
    rfl
  · obtain ⟨v, n, rfl, hn, hv, k⟩ := h
    refine ⟨_, (pss_cons (ps_if (pt_cmpR op_eq (pv 1) pe_int (nomark _)) (pss_one (ps_ret (pv 0))) pss_nil)
      (pss_cons (ps_if (pt_val (pe_callB call_isi (by rfl) T.m_isinstance (by decide +kernel) (pa_cons (pv 0) (pa_cons (pe_bltn (v := .ty "list") (u := .type "list") (by rfl) T.m_list (by decide +kernel) rfl) pa_nil)))) (pss_one ps_never) pss_nil)
      (pss_cons (ps_if (pt_val (pe_callB call_isi (by rfl) T.m_isinstance (by decide +kernel) (pa_cons (pv 0) (pa_cons (pe_bltn (v := .ty "tuple") (u := .type "tuple") (by rfl) T.m_tuple (by decide +kernel) rfl) pa_nil)))) (pss_one ps_never) pss_nil)
      (pss_cons (ps_if (pt_val (pe_callB call_isi (by rfl) T.m_isinstance (by decide +kernel) (pa_cons (pv 0) (pa_cons (pe_bltn (v := .ty "dict") (u := .type "dict") (by rfl) T.m_dict (by decide +kernel) rfl) pa_nil)))) (pss_one ps_never) pss_nil)
      (pss_one (ps_ret (pv 0))))))), ?_⟩
    obtain ⟨t, ht, h1, h2, h3⟩ := flat_ty (K := K) (H := H) hv
    refine ⟨_, rfl, rfl, _, rfl, ?_⟩
    rw [show decide (V.int n = V.int 0) = false from decide_eq_false fun z => by cases z; omega]
    refine iteF ?_
    refine ⟨_, rfl, v, _, t, _, _, rfl, .ty "list", ht, h1, _, rfl, iteF ?_⟩
    refine ⟨_, rfl, v, _, t, _, _, rfl, .ty "tuple", ht, h2, _, rfl, iteF ?_⟩
    refine ⟨_, rfl, v, _, t, _, _, rfl, .ty "dict", ht, h3, _, rfl, iteF ?_⟩
    exact ⟨v, rfl, k⟩
/-- a tuple of flat things -/
def TupF (K : PySem.W.Frag) (H : Hp) (v : V) (xs : List V) : Prop := ∃ a, v = .ref a ∧ SqT K H a xs ∧ (∀ x ∈ xs, flatV x = true) ∧ xs.length ≤ 1000
theorem tupF_list {K : PySem.W.Frag} {H : Hp} {a : Addr} {xs : List V} (h : SqT K H a xs) : PySem.W.kitOne K (.type "tuple") (.type "list") = some false := kit_ty (r := false) (by decide +kernel)
def spCopied (K : PySem.W.Frag) : Sp := fun vs H Q _ => ∃ v, vs = [v, .int 4] ∧ ((flatV v = true ∧ Q v H) ∨ ∃ xs, TupF K H v xs ∧ ∀ b H', Ex H H' → H' b = some (.tup xs) → H b = none → Q (.ref b) H')
theorem ok_copied (T : Tx K mg A) : FnOk P w K mg base CX0 2 A.copied A.d_copied p_copied (spCopied K) := by
  refine T.F_copied.ok sc_copied (fun vs H Q E h => ?_) (fun cdv Ar outer s H vs Q E hr h => ?_)
  · obtain ⟨v, rfl, _⟩ := h
    rfl
  · obtain ⟨v, rfl, hv⟩ := h
    obtain ⟨ds2, hv2, hb2⟩ := T.F_copied.binds1 (ps := p_copied) 2 1 (by simp) rfl (fun T' kV doc pm an cdv ct us its h1 h2 => by
      match us, h1, its, h2 with
      | [_, _], _, [_], _ => exact ⟨_, rfl, rfl⟩)
    refine ⟨_, (pss_cons (ps_if (pt_cmpR op_eq (pv 1) pe_int (nomark _)) (pss_one (ps_ret (pv 0))) pss_nil)
      (pss_cons (ps_if (pt_val (pe_callB call_isi (by rfl) T.m_isinstance (by decide +kernel) (pa_cons (pv 0) (pa_cons (pe_bltn (v := .ty "list") (u := .type "list") (by rfl) T.m_list (by decide +kernel) rfl) pa_nil)))) (pss_one ps_never) pss_nil)
      (pss_cons (ps_if (pt_val (pe_callB call_isi (by rfl) T.m_isinstance (by decide +kernel) (pa_cons (pv 0) (pa_cons (pe_bltn (v := .ty "tuple") (u := .type "tuple") (by rfl) T.m_tuple (by decide +kernel) rfl) pa_nil)))) (pss_one (ps_ret (pe_callTy call_tuple_of (by rfl) T.m_tuple (by decide +kernel) (pa_cons (pe_lc (own := [("part", 2)]) (g := gName 2) (tt := tYes) rfl sc_copied.nd (pi_tup (pv 0)) (blkOk_by (N := n_copied) (sc := defScope s_copied) (by decide +kernel)) (fun _ _ _ _ _ => pg_name (i := 2) sc_copied.nd rfl (Or.inl rfl)) (fun _ _ _ _ _ => pts_nil) (fun _ _ _ _ _ => (pe_call (ok_copiedF T) (hr.mono (by decide)) (by rfl) T.g_copied T.F_copied.kp hb2 hv2 pass0 (pa_cons (pv 2) (pa_cons (pe_op op_sub (pv 1) pe_int) pa_nil))))) pa_nil)))) pss_nil)
      (pss_cons (ps_if (pt_val (pe_callB call_isi (by rfl) T.m_isinstance (by decide +kernel) (pa_cons (pv 0) (pa_cons (pe_bltn (v := .ty "dict") (u := .type "dict") (by rfl) T.m_dict (by decide +kernel) rfl) pa_nil)))) (pss_one ps_never) pss_nil)
      (pss_one (ps_ret (pv 0))))))), ?_⟩
    refine ⟨_, rfl, rfl, _, rfl, iteF ?_⟩
    rcases hv with ⟨hv, k⟩ | ⟨xs, ⟨a, rfl, ha, hx, hl⟩, k⟩
    · obtain ⟨t, ht, h1, h2, h3⟩ := flat_ty (K := K) (H := H) hv
      refine ⟨_, rfl, v, _, t, _, _, rfl, .ty "list", ht, h1, _, rfl, iteF ?_⟩
      refine ⟨_, rfl, v, _, t, _, _, rfl, .ty "tuple", ht, h2, _, rfl, iteF ?_⟩
      refine ⟨_, rfl, v, _, t, _, _, rfl, .ty "dict", ht, h3, _, rfl, iteF ?_⟩
      exact ⟨v, rfl, k⟩
    · have ty := sqT_ty ha
      refine ⟨_, rfl, .ref a, _, _, _, false, rfl, .ty "list", ty, kit_ty (r := false) (by decide +kernel), _, rfl, iteF ?_⟩
      refine ⟨_, rfl, .ref a, _, _, _, true, rfl, .ty "tuple", ty, kit_ty (r := true) (by decide +kernel), _, rfl, iteT ?_⟩
      refine ⟨_, rfl, a, rfl, ⟨_, ha⟩, fun D hD => ?_⟩
      refine lc_map (K := K) (xs := xs) (f := fun v => v) walk_tup (by omega) hD (fun H' e => ex_t e ha) (fun _ => rfl) (fun x H' hm e Q' q => ?_) ?_
      · exact ⟨_, rfl, _, rfl, _, _, rfl, rfl, _, _, rfl, by decide, hx x hm, q⟩
      · rw [List.map_id']
        refine ⟨D, _, rfl, .inl ⟨SqL.of upd_same, fun l hl => ?_⟩⟩
        have e1 := Ex.new (o := .lst xs) hD
        have e2 := Ex.new (o := .tup xs) hl
        exact k _ _ (e1.trans e2) upd_same (e1.free' hl)
def spWhat2 (K : PySem.W.Frag) : Sp := fun vs H Q _ => ∃ (a C : Addr) (v : V), vs = [.ref a, v] ∧ H a = some (exo a C none) ∧ OexC K C ∧ PySem.W.findIn K (.ref C) "what" = some none ∧
  ((flatV v = true ∧ ∀ dx, H dx = none → dx ≠ a → Q .non (upd (upd H dx (exd dx [("what", v)])) a (exo a C (some dx)))) ∨
   ∃ xs, TupF K H v xs ∧ ∀ b H' dx, Ex H H' → H' b = some (.tup xs) → H b = none → H' dx = none → dx ≠ a → Q .non (upd (upd H' dx (exd dx [("what", .ref b)])) a (exo a C (some dx))))
theorem raise_what2 {K : PySem.W.Frag} {C I : Addr} {H : Hp} {v : V} {Q : XK} (F : ExF K C I) (hv : flatV v = true) (k : ∀ d H', Ex H H' → H' d = some (.xd [("what", v)]) → Q (.ref C) (some d) H') :
    ∀ a, H a = none → spWhat2 K [.ref a, v] (upd H a (exo a C none)) (fun u H2 => u = .non ∧ ∃ (d : Addr) (fs : List (Str × V)), H2 a = some (exo a C (some d)) ∧ H2 d = some (exd d fs) ∧ H d = none ∧ Q (.ref C) (some d) (upd (L2.del H2 a) d (.xd fs))) (fun _ _ _ => False) := by
  intro a ha
  refine ⟨a, C, v, rfl, upd_same, F.ox, F.nw, .inl ⟨hv, fun dx hd hne => ⟨rfl, dx, [("what", v)], upd_same, ?_, ?_, ?_⟩⟩⟩
  · rw [upd_ne hne, upd_same]
  · rw [upd_ne hne] at hd
    exact hd
  · have hd0 : H dx = none := by
      rw [upd_ne hne] at hd
      exact hd
    refine k dx _ (fun b o hb => ?_) upd_same
    have b1 : b ≠ a := ne_of_none hb ha
    have b2 : b ≠ dx := ne_of_none hb hd0
    rw [upd_ne b2]
    show (if b = a then none else _) = _
    rw [if_neg b1, upd_ne b1, upd_ne b2, upd_ne b1]
    exact hb
theorem raise_tup {K : PySem.W.Frag} {C I : Addr} {H : Hp} {v : V} {xs : List V} {Q : XK} (F : ExF K C I) (hq : TupF K H v xs) (k : ∀ d b H', Ex H H' → H' d = some (.xd [("what", .ref b)]) → H' b = some (.tup xs) → Q (.ref C) (some d) H') :
    ∀ a, H a = none → spWhat2 K [.ref a, v] (upd H a (exo a C none)) (fun u H2 => u = .non ∧ ∃ (d : Addr) (fs : List (Str × V)), H2 a = some (exo a C (some d)) ∧ H2 d = some (exd d fs) ∧ H d = none ∧ Q (.ref C) (some d) (upd (L2.del H2 a) d (.xd fs))) (fun _ _ _ => False) := by
  intro a ha
  obtain ⟨q, rfl, h1, h2, h3⟩ := hq
  refine ⟨a, C, .ref q, rfl, upd_same, F.ox, F.nw, .inr ⟨xs, ⟨q, rfl, ex_t (Ex.new ha) h1, h2, h3⟩, fun b H' dx e hb hbn hd hne => ⟨rfl, dx, [("what", .ref b)], upd_same, ?_, ?_, ?_⟩⟩⟩
  · rw [upd_ne hne, upd_same]
  · cases h : H dx with
    | none => rfl
    | some o =>
      have := e dx o (by rw [upd_ne hne]; exact h)
      rw [hd] at this
      cases this
  · have bd : b ≠ dx := ne_of_none hb hd
    have ba : b ≠ a := fun z => by rw [z, upd_same] at hbn; cases hbn
    have step : ∀ z o, z ≠ a → H' z = some o → upd (L2.del (upd (upd H' dx (exd dx [("what", .ref b)])) a (exo a C (some dx))) a) dx (.xd [("what", .ref b)]) z = some o := fun z o z1 hz => by
      have z2 : z ≠ dx := ne_of_none hz hd
      rw [upd_ne z2]
      show (if z = a then none else _) = _
      rw [if_neg z1, upd_ne z1, upd_ne z2]
      exact hz
    refine k dx b _ (fun z o hz => ?_) upd_same (step b _ ba hb)
    have z1 : z ≠ a := ne_of_none hz ha
    exact step z o z1 (e z o (by rw [upd_ne z1]; exact hz))
theorem ok_lives_init (T : Tx K mg A) : FnOk P w K mg base CX0 3 A.lives_init A.d_lives_init p_lives_init (spWhat2 K) := by
  refine T.F_lives_init.ok sc_lives_init (fun vs H Q E h => ?_) (fun cdv Ar outer s H vs Q E hr h => ?_)
  · obtain ⟨a, C, v, rfl, _⟩ := h
    rfl
  · obtain ⟨a, C, v, rfl, ha, hC, hw, k⟩ := h
    obtain ⟨ds, hvc, hbc⟩ := T.F_copied.binds1 (ps := p_copied) 1 0 (by simp) rfl (fun T' kV doc pm an cdv ct us its h1 h2 => by
      match us, h1, its, h2 with
      | [u], _, [d], _ => exact ⟨_, rfl, rfl⟩)
    refine ⟨_, (pss_one (ps_ost (pv 0) (pe_call (ok_copied T) (hr.mono (by decide)) (by rfl) T.g_copied T.F_copied.kp hbc hvc pass0 (pa_cons (pv 1) pa_nil)))), ?_⟩
    rcases k with ⟨hv, k⟩ | ⟨xs, hq, k⟩
    · refine ⟨v, rfl, v, rfl, .inl ⟨hv, _, rfl, a, C, rfl, hC, hw, .inl ⟨ha, fun dx hd hne => ?_⟩⟩⟩
      exact k dx hd hne
    · refine ⟨_, rfl, _, rfl, .inr ⟨xs, hq, fun b H' e hb hbn => ?_⟩⟩
      exact ⟨_, rfl, a, C, rfl, hC, hw, .inl ⟨e _ _ ha, fun dx hd hne => k b H' dx e hb hbn hd hne⟩⟩
/-! ### texts in ascending order, the normal form -/
def SqX (K : PySem.W.Frag) (H : Hp) (v : V) (ts : List Str) : Prop := ∃ a, v = .ref a ∧ (SqL K H a (ts.map V.str) ∨ SqT K H a (ts.map V.str))
theorem SqX.mono {K : PySem.W.Frag} {H H' : Hp} {v : V} {ts : List Str} (e : Ex H H') (h : SqX K H v ts) : SqX K H' v ts := by
  obtain ⟨a, rfl, h | h⟩ := h
  · exact ⟨a, rfl, .inl (ex_l e h)⟩
  · exact ⟨a, rfl, .inr (ex_t e h)⟩
theorem map_kv (ts : List Str) : (ts.map (Sum.inr : Str → Key)).map kV = ts.map V.str := by
  rw [List.map_map]
  rfl
def spAsc (K : PySem.W.Frag) : Sp := fun vs H Q _ => ∃ v ts, vs = [v] ∧ SqX K H v ts ∧ ts.length ≤ 4000 ∧ ∀ t H', Ex H H' → H' t = some (.tup ((asc ts).map V.str)) → Q (.ref t) H'
theorem ok_ascending (T : Tx K mg A) : FnOk P w K mg base CX0 1 A.ascending A.d_ascending p_ascending (spAsc K) := by
  refine T.F_ascending.ok sc_ascending (fun vs H Q E h => ?_) (fun cdv Ar outer s H vs Q E hr h => ?_)
  · obtain ⟨v, ts, rfl, _⟩ := h
    rfl
  · obtain ⟨v, ts, rfl, ⟨a, rfl, hq⟩, hl, k⟩ := h
    refine ⟨_, (pss_one (ps_ret (pe_callTy call_tuple_of (by rfl) T.m_tuple (by decide +kernel) (pa_cons (pe_callB (UL.call_sortedM rfl) (by rfl) T.m_sorted (by decide +kernel) (pa_cons (pe_callTy (UL.call_setOf rfl) (by rfl) T.m_set (by decide +kernel) (pa_cons (pv 0) pa_nil)) pa_nil)) pa_nil)))), ?_⟩
    refine ⟨_, rfl, a, ts.map Sum.inr, rfl, by rw [map_kv]; exact hq, by rw [List.length_map]; exact hl, fun p n hp hn => ?_⟩
    have e1 := Ex.new (o := SetMO w p (fun j => isin (ts.map Sum.inr) j) n) hp
    rw [List.length_map] at hn
    refine ⟨p, _, n, rfl, upd_same, by omega, fun k' hk => ?_, fun ys q h1 h2 h3 h4 hq' => ?_⟩
    · obtain ⟨z, _, e⟩ := List.mem_map.mp (isin_iff.mp hk)
      exact ⟨z, e.symm⟩
    · have e2 := Ex.new (o := .lst (ys.map V.str)) hq'
      have ey : ys = asc ts := asc_of h1 h2 fun z => by
        rw [h3, isin_iff, List.mem_map]
        exact ⟨fun ⟨y, hy, e⟩ => Sum.inr.inj e ▸ hy, fun h => ⟨z, h, rfl⟩⟩
      subst ey
      refine ⟨q, _, rfl, .inl ⟨SqL.of upd_same, fun t ht => ?_⟩⟩
      exact k t _ ((e1.trans e2).trans (Ex.new ht)) upd_same
theorem flat_strs (ts : List Str) : ∀ x ∈ ts.map V.str, flatV x = true := fun x hx => by
  obtain ⟨z, _, rfl⟩ := List.mem_map.mp hx
  rfl
theorem flat_all (ts : List Str) : (ts.map V.str).all flatV = true := List.all_eq_true.mpr (flat_strs ts)
theorem inV_strs {z : Str} : ∀ {ts : List Str}, inV (.str z) (ts.map V.str) = decide (z ∈ ts)
  | [] => rfl
  | y :: r => by
    show ((y == z) || inV (.str z) (r.map V.str)) = _
    rw [inV_strs]
    by_cases e : y = z
    · subst e
      simp
    · have e' : ¬ z = y := fun q => e q.symm
      simp [e, e']
theorem nrm_le {b : Bool} {ts U : List Str} (h : ∀ z ∈ ts, z ∈ U) (hd : dd ∈ U) : (nrm b ts).length ≤ U.length := nd_len (ris_nodup (ris_nrm b ts)) fun z hz => by
  rcases mem_nrm.mp hz with ⟨rfl, _⟩ | ⟨_, _, q⟩
  · exact hd
  · exact h z q
def spNormal (K : PySem.W.Frag) : Sp := fun vs H Q _ => ∃ v b ts, vs = [v, .bl b] ∧ SqX K H v ts ∧ ts.length ≤ 4000 ∧ ∀ t H', Ex H H' → H' t = some (.tup ((nrm b ts).map V.str)) → Q (.ref t) H'
theorem ok_normal (T : Tx K mg A) : FnOk P w K mg base CX0 2 A.normal A.d_normal p_normal (spNormal K) := by
  refine T.F_normal.ok sc_normal (fun vs H Q E h => ?_) (fun cdv Ar outer s H vs Q E hr h => ?_)
  · obtain ⟨v, b, ts, rfl, _⟩ := h
    rfl
  · obtain ⟨v, b, ts, rfl, hv, hl, k⟩ := h
    obtain ⟨a, rfl, hq⟩ := id hv
    refine ⟨_, (pss_one (ps_ret (pe_ifExp (PW.pt (pw_or (pt_val (pv 1)) (pw_or1 (pt_cmpR op_in_seq pe_str (pv 0) (by rfl))))) (pe_tup (pa_cons pe_str pa_nil)) (pe_call (ok_ascending T) (hr.mono (by decide)) (by rfl) T.g_ascending T.F_ascending.kp T.b_ascending .nil pass0 (pa_cons (pv 0) pa_nil))))), ?_⟩
    have dead : (b = true ∨ dd ∈ ts) → tTup (tCons (tC (V.str (Str.ofString "dead"))) tNil) (L2.start n_normal [V.ref a, V.bl b]) H Q := fun h =>
      ⟨by show 1 ≤ sizeLine; decide, fun t ht => k t _ (Ex.new ht) (by rw [show nrm b ts = [dd] from if_pos h]; exact upd_same)⟩
    refine ⟨_, rfl, b, rfl, ite2 (fun hb => dead (.inl hb)) (fun hb => ?_)⟩
    refine ⟨_, rfl, a, _, rfl, hq, rfl, flat_all ts, _, rfl, ?_⟩
    show if inV (V.str dd) (ts.map V.str) = true then _ else _
    rw [inV_strs]
    refine ite2 (fun hm => dead (.inr (of_decide_eq_true hm))) (fun hm => ?_)
    refine ⟨_, rfl, _, ts, rfl, hv, hl, fun t H' e ht => k t H' e ?_⟩
    rw [show nrm b ts = asc ts from if_neg fun q => q.elim hb fun q => hm (decide_eq_true q)]
    exact ht
/-! ### effects as objects -/
def efF (to : Addr) (bad : Bool) (tl dg : Addr) : List (Str × V) := [("outs", .ref to), ("faulty", .bl bad), ("_looks", .ref tl), ("_gives", .ref dg)]
theorem f_outs (to : Addr) (bad : Bool) (tl dg : Addr) : (efF to bad tl dg).lookup ("outs" : Str) = some (.ref to) := rfl
theorem f_faulty (to : Addr) (bad : Bool) (tl dg : Addr) : (efF to bad tl dg).lookup ("faulty" : Str) = some (.bl bad) := rfl
theorem f_looks (to : Addr) (bad : Bool) (tl dg : Addr) : (efF to bad tl dg).lookup ("_looks" : Str) = some (.ref tl) := rfl
theorem f_gives (to : Addr) (bad : Bool) (tl dg : Addr) : (efF to bad tl dg).lookup ("_gives" : Str) = some (.ref dg) := rfl
theorem ef_put (to : Addr) (bad : Bool) (tl dg : Addr) : putF "_gives" (.ref dg) (putF "_looks" (.ref tl) (putF "faulty" (.bl bad) (putF "outs" (.ref to) []))) = efF to bad tl dg := rfl
def TupS (K : PySem.W.Frag) (H : Hp) (v : V) (ts : List Str) : Prop := ∃ t, v = .ref t ∧ SqT K H t (ts.map V.str)
theorem TupS.mono {K : PySem.W.Frag} {H H' : Hp} {v : V} {ts : List Str} (e : Ex H H') (h : TupS K H v ts) : TupS K H' v ts := by
  obtain ⟨t, rfl, h⟩ := h
  exact ⟨t, rfl, ex_t e h⟩
/-- the effect x over the outs os stands at a -/
def EfAt (K : PySem.W.Frag) (C : Addr) (H : Hp) (a : Addr) (os : List Str) (x : Fx) : Prop := ∃ dx to tl dg ws, H a = some (.ins C dx (efF to x.bad tl dg)) ∧ SqT K H to (os.map V.str) ∧ SqT K H tl (x.seen.map V.str) ∧ H dg = some (.dK (dzip os ws)) ∧ Paired (fun o v => TupS K H v (x.g o)) os ws
theorem EfAt.mono {K : PySem.W.Frag} {C : Addr} {H H' : Hp} {a : Addr} {os : List Str} {x : Fx} (e : Ex H H') (h : EfAt K C H a os x) : EfAt K C H' a os x := by
  obtain ⟨dx, to, tl, dg, ws, h1, h2, h3, h4, h5⟩ := h
  exact ⟨dx, to, tl, dg, ws, e _ _ h1, ex_t e h2, ex_t e h3, e _ _ h4, paired_imp (fun _ _ q => q.mono e) h5⟩
theorem paired_mem {α β : Type} {F G : α → β → Prop} : ∀ {xs : List α} {ys : List β}, (∀ a ∈ xs, ∀ b, F a b → G a b) → Paired F xs ys → Paired G xs ys
  | _, _, _, .nil => .nil
  | _, _, h, .cons a t => .cons (h _ List.mem_cons_self _ a) (paired_mem (fun a ha => h a (List.mem_cons_of_mem _ ha)) t)
theorem EfAt.same {K : PySem.W.Frag} {C : Addr} {H : Hp} {a : Addr} {os : List Str} {x y : Fx} (s : Same os x y) (h : EfAt K C H a os x) : EfAt K C H a os y := by
  obtain ⟨dx, to, tl, dg, ws, h1, h2, h3, h4, h5⟩ := h
  exact ⟨dx, to, tl, dg, ws, by rw [← s.bad]; exact h1, h2, by rw [← s.seen]; exact h3, h4, paired_mem (fun o ho v q => by rw [← s.g o ho]; exact q) h5⟩
/-- .. with its dict where S holds -/
def EfS (S : Addr → Prop) (K : PySem.W.Frag) (C : Addr) (H : Hp) (a : Addr) (os : List Str) (x : Fx) : Prop := ∃ dx to tl dg ws, S dg ∧ H a = some (.ins C dx (efF to x.bad tl dg)) ∧ SqT K H to (os.map V.str) ∧ SqT K H tl (x.seen.map V.str) ∧ H dg = some (.dK (dzip os ws)) ∧ Paired (fun o v => TupS K H v (x.g o)) os ws
theorem EfS.at {S : Addr → Prop} {K : PySem.W.Frag} {C : Addr} {H : Hp} {a : Addr} {os : List Str} {x : Fx} (h : EfS S K C H a os x) : EfAt K C H a os x := by
  obtain ⟨dx, to, tl, dg, ws, _, h⟩ := h
  exact ⟨dx, to, tl, dg, ws, h⟩
/-- what is handed in for gives: nothing, or a dict of lists or tuples of texts -/
abbrev Gs := List (Str × List Str)
def look (gs : Gs) (o : Str) : Option (List Str) := (gs.find? fun p => decide (p.1 = o)).map (·.2)
def gOf (gs : Gs) (o : Str) : List Str := (look gs o).getD [o]
def KVs (K : PySem.W.Frag) (H : Hp) : List (Key × V) → Gs → Prop := Paired fun kv g => kv.1 = Sum.inr g.1 ∧ SqX K H kv.2 g.2
def GiveD (K : PySem.W.Frag) (H : Hp) (v : V) (gs : Gs) : Prop := ∃ d kvs, v = .ref d ∧ H d = some (.dK kvs) ∧ KVs K H kvs gs
def GiveV (K : PySem.W.Frag) (H : Hp) (v : V) (gs : Gs) : Prop := (v = .non ∧ gs = []) ∨ GiveD K H v gs
theorem KVs.mono {K : PySem.W.Frag} {H H' : Hp} {kvs : List (Key × V)} {gs : Gs} (e : Ex H H') (h : KVs K H kvs gs) : KVs K H' kvs gs := paired_imp (fun _ _ q => ⟨q.1, q.2.mono e⟩) h
theorem GiveD.mono {K : PySem.W.Frag} {H H' : Hp} {v : V} {gs : Gs} (e : Ex H H') (h : GiveD K H v gs) : GiveD K H' v gs := by
  obtain ⟨d, kvs, rfl, h1, h2⟩ := h
  exact ⟨d, kvs, rfl, e _ _ h1, h2.mono e⟩
theorem look_cons {g : Str × List Str} {gs : Gs} {o : Str} : look (g :: gs) o = if g.1 = o then some g.2 else look gs o := by
  unfold look
  rw [List.find?_cons]
  by_cases e : g.1 = o
  · rw [decide_eq_true e, if_pos e]
    rfl
  · rw [decide_eq_false e, if_neg e]
theorem KVs.at {K : PySem.W.Frag} {H : Hp} {o : Str} : ∀ {kvs : List (Key × V)} {gs : Gs}, KVs K H kvs gs → (valV kvs (Sum.inr o) = none ∧ look gs o = none) ∨ ∃ v ts, valV kvs (Sum.inr o) = some v ∧ look gs o = some ts ∧ SqX K H v ts
  | _, _, .nil => .inl ⟨rfl, rfl⟩
  | kv :: kvs, g :: gs, .cons ⟨h1, h2⟩ t => by
    by_cases e : g.1 = o
    · exact .inr ⟨kv.2, g.2, valV_pos (h1.trans (congrArg Sum.inr e)), by rw [look_cons, if_pos e], h2⟩
    · rcases KVs.at (o := o) t with ⟨q1, q2⟩ | ⟨v, ts, q1, q2, q3⟩
      · exact .inl ⟨by rw [valV_neg (by rw [h1]; intro z; exact e (Sum.inr.inj z))]; exact q1, by rw [look_cons, if_neg e]; exact q2⟩
      · exact .inr ⟨v, ts, by rw [valV_neg (by rw [h1]; intro z; exact e (Sum.inr.inj z))]; exact q1, by rw [look_cons, if_neg e]; exact q2, q3⟩
theorem KVs.keys {K : PySem.W.Frag} {H : Hp} : ∀ {kvs : List (Key × V)} {gs : Gs}, KVs K H kvs gs → (kvs.map fun kv => kV kv.1) = (gs.map (·.1)).map V.str
  | _, _, .nil => rfl
  | kv :: kvs, g :: gs, .cons ⟨h1, h2⟩ t => by
    rw [List.map_cons, List.map_cons, List.map_cons, KVs.keys t, h1]
    rfl
/-- the first name that is no out -/
def unk (os ns : List Str) : Option Str := ns.find? fun z => decide (z ∉ os)
theorem unk_none {os ns : List Str} (h : ∀ z ∈ ns, z ∈ os) : unk os ns = none := List.find?_eq_none.mpr fun z hz => by simpa using h z hz
section
variable {H H1 H2 : Hp} {x : Addr}
theorem exd_of (e : Ex H H1) : Ex (L2.del H x) H1 := fun b o hb => by
  by_cases n : b = x
  · rw [show L2.del H x b = none from if_pos n] at hb
    cases hb
  · rw [show L2.del H x b = H b from if_neg n] at hb
    exact e b o hb
theorem exd_upd (o' : HO) : Ex (L2.del H x) (upd H x o') := fun b o hb => by
  by_cases n : b = x
  · rw [show L2.del H x b = none from if_pos n] at hb
    cases hb
  · rw [show L2.del H x b = H b from if_neg n] at hb
    rw [upd_ne n]
    exact hb
theorem exd_trans (e : Ex (L2.del H x) H1) (e' : Ex (L2.del H1 x) H2) : Ex (L2.del H x) H2 := fun b o hb => by
  by_cases n : b = x
  · rw [show L2.del H x b = none from if_pos n] at hb
    cases hb
  · exact e' b o (del_at (e b o hb) n)
end
theorem seqV_del {K : PySem.W.Frag} {H : Hp} {x C dx : Addr} {fs : List (Str × V)} {v : V} {xs : List V} (hx : H x = some (.ins C dx fs)) (h : SeqV K H v xs) : SeqV K (L2.del H x) v xs := by
  obtain ⟨a, rfl, h | h | ⟨h, o⟩⟩ := h
  · exact ⟨a, rfl, .inl (del_at h (ne_of h hx (by intro z; cases z)))⟩
  · exact ⟨a, rfl, .inr (.inl (del_at h (ne_of h hx (by intro z; cases z))))⟩
  · exact ⟨a, rfl, .inr (.inr ⟨sqT_del hx h, o⟩)⟩
theorem sqL_del {K : PySem.W.Frag} {H : Hp} {x a C dx : Addr} {fs : List (Str × V)} {xs : List V} (hx : H x = some (.ins C dx fs)) (h : SqL K H a xs) : SqL K (L2.del H x) a xs := by
  rcases h with (h | ⟨o, h⟩) | h
  · exact .inl (.inl (del_at h (ne_of h hx (by intro z; cases z))))
  · exact .inl (.inr ⟨o, del_at h (ne_of h hx (by intro z; cases z))⟩)
  · exact .inr h
theorem SqX.del {K : PySem.W.Frag} {H : Hp} {x C dx : Addr} {fs : List (Str × V)} {v : V} {ts : List Str} (hx : H x = some (.ins C dx fs)) (h : SqX K H v ts) : SqX K (L2.del H x) v ts := by
  obtain ⟨a, rfl, h | h⟩ := h
  · exact ⟨a, rfl, .inl (sqL_del hx h)⟩
  · exact ⟨a, rfl, .inr (sqT_del hx h)⟩
theorem GiveD.del {K : PySem.W.Frag} {H : Hp} {x C dx : Addr} {fs : List (Str × V)} {v : V} {gs : Gs} (hx : H x = some (.ins C dx fs)) (h : GiveD K H v gs) : GiveD K (L2.del H x) v gs := by
  obtain ⟨d, kvs, rfl, h1, h2⟩ := h
  exact ⟨d, kvs, rfl, del_at h1 (ne_of h1 hx (by intro z; cases z)), paired_imp (fun _ _ q => ⟨q.1, q.2.del hx⟩) h2⟩
theorem seqV_sqx {K : PySem.W.Frag} {H : Hp} {v : V} {ts : List Str} (h : SeqV K H v (ts.map V.str)) : SqX K H v ts := by
  obtain ⟨a, e, h⟩ := h.two
  exact ⟨a, e, h⟩
theorem gOf_len {gs : Gs} {o : Str} (h : ∀ g ∈ gs, g.2.length ≤ 4000) : (gOf gs o).length ≤ 4000 := by
  unfold gOf look
  cases e : gs.find? fun p => decide (p.1 = o) with
  | none => show 1 ≤ 4000; decide
  | some g => exact h g (List.mem_of_find?_eq_some e)
theorem unk_at {os ns : List Str} {i : Nat} {z : Str} (h : ns[i]? = some z) (hp : ∀ y ∈ ns.take i, y ∈ os) : z ∈ os ∨ unk os ns = some z := by
  by_cases e : z ∈ os
  · exact .inl e
  · refine .inr ?_
    obtain ⟨hlt, he⟩ := List.getElem?_eq_some_iff.mp h
    unfold unk
    rw [← List.take_append_drop i ns, List.find?_append, List.drop_eq_getElem_cons hlt, he, List.find?_cons, decide_eq_true e]
    rw [List.find?_eq_none.mpr fun y hy => by simpa using hp y hy]
    rfl
def spEfInit (K : PySem.W.Frag) (C U : Addr) : Sp := fun vs H Q E => ∃ x dx vo vl vg b os ls gs, vs = [.ref x, vo, vl, vg, .bl b] ∧ H x = some (.ins C dx []) ∧ SqX K H vo os ∧ SqX K H vl ls ∧ GiveV K H vg gs ∧
  os.Nodup ∧ os.length ≤ 1000 ∧ ls.length ≤ 4000 ∧ gs.length ≤ 4000 ∧ (∀ g ∈ gs, g.2.length ≤ 4000) ∧
  (unk os (ls ++ gs.map (·.1)) = none → ∀ H', Ex (L2.del H x) H' → EfS (fun q => H q = none) K C H' x os (mkF b ls (gOf gs)) → Q .non H') ∧
  (∀ z, unk os (ls ++ gs.map (·.1)) = some z → ∀ d H', Ex (L2.del H x) H' → H' d = some (.xd [("what", .str z)]) → E (.ref U) (some d) H')
theorem ok_ef_init (T : Tx K mg A) : FnOk P w K mg base (L2.CX P w) 5 A.ef_init A.d_ef_init p_ef_init (spEfInit K A.Effect A.UnknownName) := by
  refine T.F_ef_init.ok sc_ef_init (fun vs H Q E h => ?_) (fun cdv Ar outer s H vs Q E hr h => ?_)
  · obtain ⟨x, dx, vo, vl, vg, b, os, ls, gs, rfl, _⟩ := h
    rfl
  · obtain ⟨x, dx, vo, vl, vg, b, os, ls, gs, rfl, hx, ho, hl, hg, nd, z1, z2, z3, z4, k1, k2⟩ := h
    refine ⟨_, (Evl.pss_cut (ps_fld (pv 0) (pe_callTy call_tuple_of (by rfl) T.m_tuple (by decide +kernel) (pa_cons (pv 1) pa_nil)) rfl)
      (pss_cons (ps_fld (pv 0) (pv 4) rfl)
      (Evl.pss_cut (ps_set (i := 5) sc_ef_init.nd rfl (Or.inr rfl) (pe_ifExp (pt_cmpR op_isN (pv 3) pe_non (nomark _)) pe_dnewK (pv 3)))
      (Evl.pss_cut (ps_for PassesOwn.leaving rfl (pi_list (pe_op op_cat (pe_callTy call_list_of (by rfl) T.m_list (by decide +kernel) (pa_cons (pv 2) pa_nil)) (pe_callTy (call_listD rfl) (by rfl) T.m_list (by decide +kernel) (pa_cons (pv 5) pa_nil)))) (pg_name (i := 6) sc_ef_init.nd rfl (Or.inl rfl)) (pss_one (ps_if (pt_cmpR op_notIn_seq (pv 6) (pe_fld (pv 0) rfl) (by rfl)) (pss_one (ps_raise rfl (takes_of rfl rfl rfl rfl) (pmk_oex T.ex_UnknownName.ox T.ex_UnknownName.ii T.ti_lives_init (ok_lives_init T) (hr.mono (by decide)) T.b_lives_init .nil pass0 (by rfl) T.g_UnknownName (pa_cons (pv 6) pa_nil)))) pss_nil)))
      (Evl.pss_cut (ps_fld (pv 0) (pe_ifExp (pt_val (pv 4)) (pe_tup pa_nil) (pe_call (ok_ascending T) (hr.mono (by decide)) (by rfl) T.g_ascending T.F_ascending.kp T.b_ascending .nil pass0 (pa_cons (pv 2) pa_nil))) rfl)
      (pss_one (ps_fld (pv 0) (pe_dc (own := [("out", 7)]) (g := gName 7) (tt := tYes) rfl sc_ef_init.nd (pi_tup (pe_fld (pv 0) rfl)) (blkOk_by (N := n_ef_init) (sc := defScope s_ef_init) (by decide +kernel)) (fun _ _ _ _ _ => pg_name (i := 7) sc_ef_init.nd rfl (Or.inl rfl)) (fun _ _ _ _ _ => pts_nil) (fun _ _ _ _ _ => (pv 7)) (fun _ _ _ _ _ => (pe_call (ok_normal T) (hr.mono (by decide)) (by rfl) T.g_normal T.F_normal.kp T.b_normal .nil pass0 (pa_cons (pe_dget2 (hu_of hr) (pv 5) (pv 7) (pe_lst (pa_cons (pv 7) pa_nil)) ⟨rfl, rfl, rfl, rfl⟩) (pa_cons (pv 4) pa_nil))))) rfl))))))), ?_⟩
    let F : Addr → List (Str × V) := fun to => putF "faulty" (.bl b) (putF "outs" (.ref to) [])
    -- the outs
    refine ⟨fun σ' H' => ∃ to, σ' = L2.start n_ef_init [V.ref x, vo, vl, vg, V.bl b] ∧ Ex (L2.del H x) H' ∧ H' x = some (.ins A.Effect dx (putF "outs" (.ref to) [])) ∧ SqT K H' to (os.map V.str), ?_, ?_⟩
    · obtain ⟨a, rfl, hq⟩ := ho
      refine ⟨_, rfl, a, os.map V.str, rfl, ?_⟩
      rcases hq with hq | hq
      · refine .inl ⟨hq, fun t ht => ?_⟩
        have hx1 := Ex.new (o := .tup (os.map V.str)) ht _ _ hx
        refine ⟨_, rfl, x, _, dx, _, rfl, hx1, T.cl_Effect, T.na_Effect_outs, by decide, t, rfl, exd_trans (exd_of (Ex.new ht)) (exd_upd _), upd_same, SqT.of ?_⟩
        rw [upd_ne (ne_of_none hx ht).symm]
        exact upd_same
      · refine .inr ⟨hq, ?_⟩
        exact ⟨_, rfl, x, _, dx, _, rfl, hx, T.cl_Effect, T.na_Effect_outs, by decide, a, rfl, exd_upd _, upd_same, ex_t (exd_upd _) (sqT_del hx hq)⟩
    rintro _ H1 ⟨to, rfl, e1, hx1, hto1⟩
    -- faulty
    refine ⟨_, rfl, _, rfl, x, _, dx, _, rfl, hx1, T.cl_Effect, T.na_Effect_faulty, by show 1 < 1000; decide, ?_⟩
    have e2 := exd_trans e1 (exd_upd (H := H1) (x := x) (.ins A.Effect dx (F to)))
    have hx2 := upd_same (H := H1) (a := x) (o := .ins A.Effect dx (F to))
    have hto2 : SqT K (upd H1 x (.ins A.Effect dx (F to))) to (os.map V.str) := ex_t (exd_upd _) (sqT_del hx1 hto1)
    revert e2 hx2 hto2
    show Ex (L2.del H x) (upd H1 x (.ins A.Effect dx (F to))) → upd H1 x (.ins A.Effect dx (F to)) x = some (.ins A.Effect dx (F to)) → SqT K (upd H1 x (.ins A.Effect dx (F to))) to (os.map V.str) → tCut _ _ _ _ (upd H1 x (.ins A.Effect dx (F to)))
    generalize upd H1 x (.ins A.Effect dx (F to)) = H2
    intro e2 hx2 hto2
    -- given
    refine ⟨fun σ' H' => ∃ d kvs, σ' = [some (.ref x), some vo, some vl, some vg, some (.bl b), some (.ref d), none, none] ∧ Ex (L2.del H x) H' ∧ H' x = some (.ins A.Effect dx (F to)) ∧ SqT K H' to (os.map V.str) ∧ H' d = some (.dK kvs) ∧ KVs K H' kvs gs, ?_, ?_⟩
    · refine ⟨vg, rfl, rfl, _, rfl, ?_⟩
      rcases hg with ⟨rfl, rfl⟩ | hg
      · refine iteT fun d hd => ?_
        have e3 := Ex.new (o := .dK []) hd
        exact ⟨d, [], rfl, exd_trans e2 (exd_of e3), e3 _ _ hx2, ex_t e3 hto2, upd_same, .nil⟩
      · obtain ⟨d, kvs, e, h1, h2⟩ := (hg.del hx).mono e2
        subst e
        exact iteF ⟨_, rfl, d, kvs, rfl, e2, hx2, hto2, h1, h2⟩
    rintro _ H3 ⟨d, kvs, rfl, e3, hx3, hto3, hd3, hkv3⟩
    -- the names
    refine ⟨fun σ' H' => ∃ v6, σ' = [some (.ref x), some vo, some vl, some vg, some (.bl b), some (.ref d), v6, none] ∧ Ex H3 H' ∧ unk os (ls ++ gs.map (·.1)) = none, ?_, ?_⟩
    · obtain ⟨a, rfl, hlq⟩ := (hl.del hx).mono e3
      refine ⟨_, rfl, a, _, rfl, hlq, fun p hp => ⟨_, rfl, d, kvs, rfl, .inl ((Ex.new hp) _ _ hd3), fun q hq => ?_⟩⟩
      have f1 := Ex.new (o := .lst (ls.map V.str)) hp
      refine ⟨_, _, _, _, rfl, rfl, (Ex.new hq) _ _ upd_same, upd_same, ?_, ?_⟩
      · rw [hkv3.keys, List.length_map, List.length_map, List.length_map]
        exact sz_of (by omega)
      rw [hkv3.keys, ← List.map_append]
      intro r hr
      have f2 := Ex.new (o := .lst ((gs.map (·.1)).map V.str)) hq
      have f3 := Ex.new (o := .lst ((ls ++ gs.map (·.1)).map V.str)) hr
      have f := (f1.trans f2).trans f3
      refine ⟨r, rfl, ⟨_, SqL.of upd_same⟩, for_list (fun i σ' H' => (∃ v6, σ' = [some (.ref x), some vo, some (.ref a), some vg, some (.bl b), some (.ref d), v6, none]) ∧ Ex H3 H' ∧ H' r = some (.lst ((ls ++ gs.map (·.1)).map V.str)) ∧ ∀ y ∈ (ls ++ gs.map (·.1)).take i, y ∈ os)
        ⟨⟨_, rfl⟩, f, upd_same, fun _ h => (nomatch h)⟩ (fun i σ' H' _ q => SqL.of q.2.2.1) ?_ ?_⟩
      · rintro i y σ' H' hi ⟨⟨v6, rfl⟩, f', hr', hin⟩
        rw [List.getElem?_map] at hi
        cases hz : (ls ++ gs.map (·.1))[i]? with
        | none => rw [hz] at hi; cases hi
        | some z =>
        rw [hz] at hi
        cases hi
        refine ⟨_, rfl, _, rfl, x, _, dx, _, _, rfl, f' _ _ hx3, T.cl_Effect, T.na_Effect_outs, rfl, to, _, rfl, .inr (ex_t f' hto3), rfl, flat_all os, _, rfl, ?_⟩
        rw [inV_strs]
        by_cases hm : z ∈ os
        · rw [decide_eq_true hm]
          refine iteF ⟨⟨_, rfl⟩, f', hr', fun u hu => ?_⟩
          rw [List.take_add_one, hz] at hu
          rcases List.mem_append.mp hu with hu | hu
          · exact hin u hu
          · rw [List.mem_singleton.mp hu]
            exact hm
        · rw [decide_eq_false hm]
          refine iteT ⟨_, rfl, (by show 1 ≤ 1000; decide), raise_what2 T.ex_UnknownName rfl fun dd' H'' e'' hd'' => ?_⟩
          exact k2 z ((unk_at hz hin).resolve_left hm) dd' H'' (exd_trans e3 (exd_of (f'.trans e''))) hd''
      · rintro σ' H' ⟨⟨v6, rfl⟩, f', hr', hin⟩
        rw [List.length_map, List.take_length] at hin
        exact ⟨v6, rfl, f', unk_none hin⟩
    rintro _ H4 ⟨v6, rfl, f4, hun⟩
    have e4 : Ex (L2.del H x) H4 := exd_trans e3 (exd_of f4)
    -- the looks
    refine ⟨fun σ' H' => ∃ tl, σ' = [some (.ref x), some vo, some vl, some vg, some (.bl b), some (.ref d), v6, none] ∧ Ex (L2.del H4 x) H' ∧ H' x = some (.ins A.Effect dx (putF "_looks" (.ref tl) (F to))) ∧ SqT K H' tl ((if b = true then [] else asc ls).map V.str), ?_, ?_⟩
    · refine ⟨_, rfl, b, rfl, ?_⟩
      cases b with
      | true =>
        refine iteT ⟨by show 0 ≤ sizeLine; decide, fun t ht => ?_⟩
        have n1 := Ex.new (o := .tup []) ht
        have hx4 := n1 _ _ (f4 _ _ hx3)
        refine ⟨_, rfl, x, _, dx, _, rfl, hx4, T.cl_Effect, T.na_Effect__looks, by show 2 < 1000; decide, t, rfl, exd_trans (exd_of n1) (exd_upd _), upd_same, SqT.of ?_⟩
        rw [upd_ne (ne_of_none (f4 _ _ hx3) ht).symm]
        exact upd_same
      | false =>
        refine iteF ⟨_, rfl, _, ls, rfl, (hl.del hx).mono e4, z2, fun t H5 n1 ht => ?_⟩
        have hx4 := n1 _ _ (f4 _ _ hx3)
        refine ⟨_, rfl, x, _, dx, _, rfl, hx4, T.cl_Effect, T.na_Effect__looks, by show 2 < 1000; decide, t, rfl, exd_trans (exd_of n1) (exd_upd _), upd_same, SqT.of ?_⟩
        rw [upd_ne (ne_of ht hx4 (by intro z; cases z))]
        exact ht
    rintro _ H5 ⟨tl, rfl, e5, hx5, htl5⟩
    have hx4 := f4 _ _ hx3
    have hto5 : SqT K H5 to (os.map V.str) := ex_t e5 (sqT_del hx4 (ex_t f4 hto3))
    have hd5 : H5 d = some (.dK kvs) := e5 _ _ (del_at (f4 _ _ hd3) (ne_of (f4 _ _ hd3) hx4 (by intro z; cases z)))
    have hkv5 : KVs K H5 kvs gs := paired_imp (fun _ _ q => ⟨q.1, ((q.2.mono f4).del hx4).mono e5⟩) hkv3
    -- what they give
    refine ⟨_, rfl, x, _, dx, _, _, rfl, hx5, T.cl_Effect, T.na_Effect_outs, rfl, to, rfl, ⟨_, hto5⟩, fun D hD => ?_⟩
    refine dc_outs (G := fun H' o v => TupS K H' v (nrm b (gOf gs o))) hto5 nd (by omega) hD (fun _ => rfl) (fun _ _ _ _ e q => q.mono e) ?_ (fun o H' Q' q => ⟨_, rfl, q⟩) ?_ ?_
    · rintro H' kvs' kvs'' o v hD' ⟨t, rfl, (h | ⟨u, h⟩) | h⟩
      · exact ⟨t, rfl, .inl (.inl (by rw [upd_ne (ne_of h hD' (by intro z; cases z))]; exact h))⟩
      · exact ⟨t, rfl, .inl (.inr ⟨u, by rw [upd_ne (ne_of h hD' (by intro z; cases z))]; exact h⟩)⟩
      · exact ⟨t, rfl, .inr h⟩
    · intro o H' hm e Q' q
      have hd' := e _ _ hd5
      refine ⟨_, rfl, d, rfl, .inl ⟨kvs, .inl hd'⟩, _, rfl, _, rfl, sz_of (by show 1 ≤ 100000; decide), fun p hp => ?_⟩
      have n1 := Ex.new (o := .lst [.str o]) hp
      refine ⟨_, DGet.k (k := Sum.inr o) (n1 _ _ hd'), _, rfl, ?_⟩
      have got : SqX K (upd H' p (.lst [.str o])) ((valV kvs (Sum.inr o)).getD (.ref p)) (gOf gs o) := by
        rcases KVs.at (o := o) ((hkv5.mono e).mono n1) with ⟨q1, q2⟩ | ⟨v, ts, q1, q2, q3⟩
        · rw [q1, show gOf gs o = [o] from by unfold gOf; rw [q2]; rfl]
          exact ⟨p, rfl, .inl (SqL.of upd_same)⟩
        · rw [q1, show gOf gs o = ts from by unfold gOf; rw [q2]; rfl]
          exact q3
      exact ⟨_, b, gOf gs o, rfl, got, gOf_len z4, fun t H6 e6 ht => q _ _ (n1.trans e6) ⟨t, rfl, SqT.of ht⟩⟩
    · intro H' ws e hD' hp
      have hx' := e _ _ hx5
      refine ⟨_, rfl, x, _, dx, _, rfl, hx', T.cl_Effect, T.na_Effect__gives, by show 3 < 1000; decide, ?_⟩
      have ex : Ex (L2.del H' x) (upd H' x (.ins A.Effect dx (efF to b tl D))) := exd_upd _
      have fr : H D = none := by
        cases hq : H D with
        | none => rfl
        | some ob =>
          have ne : D ≠ x := fun z => by rw [z, hx5] at hD; cases hD
          have := (exd_trans e4 e5) D ob (del_at hq ne)
          rw [hD] at this
          cases this
      refine k1 hun _ (exd_trans (exd_trans e4 e5) (exd_trans (exd_of e) ex)) ⟨dx, to, tl, D, ws, fr, upd_same, ex_t ex (sqT_del hx' (ex_t e hto5)), ex_t ex (sqT_del hx' (ex_t e htl5)), ex _ _ (del_at hD' (ne_of hD' hx' (by intro z; cases z))), paired_imp (fun o v q => ?_) hp⟩
      obtain ⟨t, rfl, q⟩ := q
      exact ⟨t, rfl, ex_t ex (sqT_del hx' q)⟩
end
end K61

set_option Elab.async false
set_option linter.all false
set_option maxRecDepth 100000
namespace K61
open PySem PySem.Spec PyProof.Rows L2 Evl TL UL StX
section
variable {P : Program} {w : World} {K : PySem.W.Frag} {mg : Str → Option Value} {base : Heap} {A : Adr}
/-! ### the texts as data -/
theorem lay_strs : ∀ ts : List Str, (∀ z ∈ ts, PyData.strOk z = true) → PyData.canLayAll0 (ts.map PyData.str) = true ∧ PyData.depthAll (ts.map PyData.str) ≤ 1
  | [], _ => ⟨rfl, by simp [PyData.depthAll]⟩
  | z :: r, h => by
    obtain ⟨h1, h2⟩ := lay_strs r fun y hy => h y (List.mem_cons_of_mem _ hy)
    refine ⟨?_, ?_⟩
    · show (PyData.canLay0 (.str z) && PyData.canLayAll0 (r.map PyData.str)) = true
      rw [h1, show PyData.canLay0 (.str z) = true from h z List.mem_cons_self]
      rfl
    · simp only [List.map_cons, PyData.depthAll, PyData.depth]
      omega
theorem shaped_tupS {ts : List Str} (h : ∀ z ∈ ts, PyData.strOk z = true) : SeqAt.shaped (.tuple (ts.map PyData.str)) = true := by
  obtain ⟨h1, h2⟩ := lay_strs ts h
  unfold SeqAt.shaped
  rw [show PyData.canLay0 (.tuple (ts.map PyData.str)) = true by unfold PyData.canLay0; exact h1, Bool.true_and]
  refine decide_eq_true ?_
  simp only [PyData.depth]
  omega
theorem shaped_lstS {ts : List Str} (h : ∀ z ∈ ts, PyData.strOk z = true) : SeqAt.shaped (.list (ts.map PyData.str)) = true := by
  obtain ⟨h1, h2⟩ := lay_strs ts h
  unfold SeqAt.shaped
  rw [show PyData.canLay0 (.list (ts.map PyData.str)) = true by unfold PyData.canLay0; exact h1, Bool.true_and]
  refine decide_eq_true ?_
  simp only [PyData.depth]
  omega
theorem eqvAll_strs : ∀ ns ms : List Str, PyData.eqvAll (ns.map PyData.str) (ms.map PyData.str) = decide (ns = ms)
  | [], [] => by simp [PyData.eqvAll]
  | [], _ :: _ => by simp [PyData.eqvAll]
  | _ :: _, [] => by simp [PyData.eqvAll]
  | x :: r, y :: t => by
    have ih := eqvAll_strs r t
    rw [List.map_cons, List.map_cons]
    unfold PyData.eqvAll
    rw [ih, show PyData.eqv (.str x) (.str y) = decide (x = y) by unfold PyData.eqv; by_cases e : x = y <;> simp [e]]
    by_cases h : x = y <;> by_cases h' : r = t <;> simp [h, h']
theorem eqv_tupS (ns ms : List Str) : PyData.eqv (.tuple (ns.map PyData.str)) (.tuple (ms.map PyData.str)) = decide (ns = ms) := eqvAll_strs ns ms
theorem eqv_lstS (ns ms : List Str) : PyData.eqv (.list (ns.map PyData.str)) (.list (ms.map PyData.str)) = decide (ns = ms) := eqvAll_strs ns ms
abbrev OkT (ts : List Str) : Prop := ∀ z ∈ ts, PyData.strOk z = true
theorem inV_none {v : V} {os : List Str} (h : isS v = false) : inV v (os.map V.str) = false := by
  unfold inV
  rw [List.any_eq_false]
  intro y hy
  obtain ⟨z, _, rfl⟩ := List.mem_map.mp hy
  cases v <;> first | exact Bool.false_ne_true | cases h
/-! ### the methods -/
def spEfLooks (K : PySem.W.Frag) (C : Addr) : Sp := fun vs H Q _ => ∃ a os x, vs = [.ref a] ∧ EfAt K C H a os x ∧ ∀ t, SqT K H t (x.seen.map V.str) → Q (.ref t) H
theorem ok_ef_looks (T : Tx K mg A) : FnOk P w K mg base CX0 1 A.ef_looks A.d_ef_looks p_ef_looks (spEfLooks K A.Effect) := by
  refine T.F_ef_looks.ok sc_ef_looks (fun vs H Q E h => ?_) (fun cdv Ar outer s H vs Q E hr h => ?_)
  · obtain ⟨a, os, x, rfl, _⟩ := h
    rfl
  · obtain ⟨a, os, x, rfl, ⟨dx, to, tl, dg, ws, h1, h2, h3, h4, h5⟩, k⟩ := h
    refine ⟨_, (pss_one (ps_ret (pe_fld (pv 0) rfl))), ?_⟩
    exact ⟨_, rfl, a, _, dx, _, _, rfl, h1, T.cl_Effect, T.na_Effect__looks, rfl, k tl h3⟩
def spEfGives (K : PySem.W.Frag) (C U : Addr) : Sp := fun vs H Q E => ∃ a v os x, vs = [.ref a, v] ∧ EfAt K C H a os x ∧ flatV v = true ∧ (∀ z, v = .str z → z ∈ os → ∀ t, SqT K H t ((x.g z).map V.str) → Q (.ref t) H) ∧
  ((∀ z, v = .str z → z ∉ os) → ∀ d H', Ex H H' → H' d = some (.xd [("what", v)]) → E (.ref U) (some d) H')
theorem ok_ef_gives (T : Tx K mg A) : FnOk P w K mg base (L2.CX P w) 5 A.ef_gives A.d_ef_gives p_ef_gives (spEfGives K A.Effect A.UnknownName) := by
  refine T.F_ef_gives.okX sc_ef_gives (fun vs H Q E h => ?_) (fun cdv Ar outer s H vs Q E hr h => ?_)
  · obtain ⟨a, v, os, x, rfl, _⟩ := h
    rfl
  · obtain ⟨a, v, os, x, rfl, ⟨dx, to, tl, dg, ws, h1, h2, h3, h4, h5⟩, hf, k1, k2⟩ := h
    refine ⟨_, (pss_cons (ps_if (pt_cmpR op_notIn_seq (pv 1) (pe_fld (pv 0) rfl) (by rfl)) (pss_one (ps_raise rfl (takes_of rfl rfl rfl rfl) (pmk_oex T.ex_UnknownName.ox T.ex_UnknownName.ii T.ti_lives_init (ok_lives_init T) (hr.mono (by decide)) T.b_lives_init .nil pass0 (by rfl) T.g_UnknownName (pa_cons (pv 1) pa_nil)))) pss_nil)
      (pss_one (ps_ret (pe_dget (hu_of hr) (pe_fld (pv 0) rfl) (pv 1) (fun _ _ => rfl))))), ?_⟩
    refine ⟨_, rfl, _, rfl, a, _, dx, _, _, rfl, h1, T.cl_Effect, T.na_Effect_outs, rfl, to, _, rfl, .inr h2, hf, flat_all os, _, rfl, ?_⟩
    have bad : (∀ z, v = .str z → z ∉ os) → ∀ d H', Ex H H' → H' d = some (.xd [("what", v)]) → E (.ref A.UnknownName) (some d) H' := k2
    cases hs : isS v with
    | false =>
      rw [inV_none hs]
      refine iteT ⟨_, rfl, (by show 1 ≤ 1000; decide), raise_what2 T.ex_UnknownName hf fun d H' e hd => bad (fun z e' => ?_) d H' e hd⟩
      subst e'
      cases hs
    | true =>
      obtain ⟨z, rfl⟩ : ∃ z, v = .str z := by
        cases v with
        | str z => exact ⟨z, rfl⟩
        | _ => cases hs
      rw [inV_strs]
      by_cases hm : z ∈ os
      · rw [decide_eq_true hm]
        obtain ⟨v, hv, t, rfl, ht⟩ := dzip_at h5 hm
        refine iteF ⟨_, rfl, a, _, dx, _, _, rfl, h1, T.cl_Effect, T.na_Effect__gives, rfl, _, rfl, dg, _, rfl, (by rw [← hv]; exact DGet.k (k := Sum.inr z) h4), k1 z rfl hm t ht⟩
      · rw [decide_eq_false hm]
        refine iteT ⟨_, rfl, (by show 1 ≤ 1000; decide), raise_what2 T.ex_UnknownName rfl fun d H' e hd => bad (fun z' e' => ?_) d H' e hd⟩
        cases e'
        exact hm
def spEfNothing (K : PySem.W.Frag) (C : Addr) : Sp := fun vs H Q _ => ∃ vo os, vs = [.ref C, vo] ∧ SqX K H vo os ∧ os.Nodup ∧ os.length ≤ 1000 ∧ ∀ a H', Ex H H' → H a = none → EfAt K C H' a os empty → Q (.ref a) H'
theorem ok_ef_nothing (T : Tx K mg A) : FnOk P w K mg base CX0 8 A.ef_nothing A.d_ef_nothing p_ef_nothing (spEfNothing K A.Effect) := by
  refine T.F_ef_nothing.ok sc_ef_nothing (fun vs H Q E h => ?_) (fun cdv Ar outer s H vs Q E hr h => ?_)
  · obtain ⟨vo, os, rfl, _⟩ := h
    rfl
  · obtain ⟨vo, os, rfl, ho, nd, hl, k⟩ := h
    obtain ⟨ds, v0_ef_init_1, b0_ef_init_1⟩ := T.F_ef_init.binds0 (ps := p_ef_init) 2 (by simp) rfl (fun D doc pm an cdv ct us ks h1 h2 => by
      match us, h1, ks, h2 with
      | [_, _], _, [_, _, _], _ => exact ⟨_, _, _, _, _, _, rfl, rfl, _, _, _, _, _, _, rfl, rfl, _, _, _, _, _, _, rfl, rfl, rfl⟩)
    refine ⟨_, (pss_one (ps_ret (UL.pe_makeL (i := 0) T.mk_Effect (ok_ef_init T) (hr.mono (by decide)) rfl (Or.inl rfl) b0_ef_init_1 v0_ef_init_1 passL (pa_cons (pv 1) pa_nil)))), ?_⟩
    refine ⟨rfl, _, rfl, fun x dx hx hdx ne => ?_⟩
    refine ⟨x, dx, vo, .ref A.k_ef_init_looks, .non, false, os, [], [], rfl, upd_same, ho.mono (made_in hx hdx), ⟨_, rfl, .inr (T.q_ef_init_looks _)⟩, .inl ⟨rfl, rfl⟩, nd, hl, by decide, by decide, fun _ h => (nomatch h), fun _ H' e h => ⟨rfl, ?_⟩, fun z h => (nomatch h)⟩
    exact k x H' (made_ex hx hdx e) hx h.at
def spEfCheck (K : PySem.W.Frag) (C O : Addr) : Sp := fun vs H Q E => ∃ a b os os' x y, vs = [.ref a, .ref b] ∧ EfAt K C H a os x ∧ EfAt K C H b os' y ∧ OkT os ∧ OkT os' ∧ os'.length ≤ 1000 ∧ (os = os' → Q .non H) ∧
  (os ≠ os' → ∀ d b' H', Ex H H' → H' d = some (.xd [("what", .ref b')]) → H' b' = some (.tup (os'.map V.str)) → E (.ref O) (some d) H')
theorem ok_ef_check (T : Tx K mg A) : FnOk P w K mg base (L2.CX P w) 5 A.ef_check A.d_ef_check p_ef_check (spEfCheck K A.Effect A.OtherOuts) := by
  refine T.F_ef_check.okX sc_ef_check (fun vs H Q E h => ?_) (fun cdv Ar outer s H vs Q E hr h => ?_)
  · obtain ⟨a, b, os, os', x, y, rfl, _⟩ := h
    rfl
  · obtain ⟨a, b, os, os', x, y, rfl, ⟨dx, to, tl, dg, ws, h1, h2, h3, h4, h5⟩, ⟨dx', to', tl', dg', ws', g1, g2, g3, g4, g5⟩, o1, o2, hl, k1, k2⟩ := h
    refine ⟨_, (pss_one (ps_if (pt_cmpR (op_neD hr.units) (pe_fld (pv 0) rfl) (pe_fld (pv 1) rfl) (nomark _)) (pss_one (ps_raise rfl (takes_of rfl rfl rfl rfl) (pmk_oex T.ex_OtherOuts.ox T.ex_OtherOuts.ii T.ti_lives_init (ok_lives_init T) (hr.mono (by decide)) T.b_lives_init .nil pass0 (by rfl) T.g_OtherOuts (pa_cons (pe_fld (pv 1) rfl) pa_nil)))) pss_nil)), ?_⟩
    refine ⟨_, rfl, a, _, dx, _, _, rfl, h1, T.cl_Effect, T.na_Effect_outs, rfl, _, rfl, b, _, dx', _, _, rfl, g1, T.cl_Effect, T.na_Effect_outs, rfl, _, _, .tup h2 (dp_strs os), .tup g2 (dp_strs os'), shaped_tupS o1, shaped_tupS o2, _, rfl, ?_⟩
    rw [eqv_tupS]
    by_cases e : os = os'
    · rw [decide_eq_true e]
      exact iteF (k1 e)
    · rw [decide_eq_false e]
      refine iteT ⟨_, rfl, b, _, dx', _, _, rfl, g1, T.cl_Effect, T.na_Effect_outs, rfl, (by show 1 ≤ 1000; decide), raise_tup T.ex_OtherOuts ⟨to', rfl, g2, flat_strs os', by rw [List.length_map]; exact hl⟩ fun d b' H' e' hd hb => ?_⟩
      exact k2 e d b' H' e' hd hb
/-- over these outs, in the normal form, with texts out of U -/
structure Tame (os U : List Str) (x : Fx) : Prop where
  nm : Nrm os x
  w : ∀ o ∈ os, ∀ z ∈ x.g o, z ∈ U
structure Uni (os U : List Str) : Prop where
  nd : os.Nodup
  dU : dd ∈ U
  dO : dd ∉ os
  sub : ∀ z ∈ os, z ∈ U
  ok : OkT U
  len : U.length ≤ 40
theorem Uni.okO {os U : List Str} (u : Uni os U) : OkT os := fun z h => u.ok z (u.sub z h)
theorem Uni.olen {os U : List Str} (u : Uni os U) : os.length ≤ 40 := Nat.le_trans (nd_len u.nd u.sub) u.len
theorem Tame.slen {os U : List Str} {x : Fx} (u : Uni os U) (h : Tame os U x) : x.seen.length ≤ 40 := Nat.le_trans (nd_len (ris_nodup h.nm.ss) h.nm.so) u.olen
theorem Tame.glen {os U : List Str} {x : Fx} {o : Str} (u : Uni os U) (h : Tame os U x) (ho : o ∈ os) : (x.g o).length ≤ 40 := Nat.le_trans (nd_len (ris_nodup (h.nm.gr o ho)) (h.w o ho)) u.len
theorem tame_mk {os U : List Str} {b : Bool} {ls : List Str} {g : Str → List Str} (u : Uni os U) (h : ∀ z ∈ ls, z ∈ os) (hg : ∀ o ∈ os, ∀ z ∈ g o, z ∈ U) : Tame os U (mkF b ls g) :=
  ⟨nrm_mk h, fun o ho z hz => by
    rcases mem_nrm.mp (show z ∈ nrm b (g o) from hz) with ⟨rfl, _⟩ | ⟨_, _, q⟩
    · exact u.dU
    · exact hg o ho z q⟩
theorem tame_joined {os U : List Str} {e f : Fx} (u : Uni os U) (he : Tame os U e) (hf : Tame os U f) : Tame os U (joined e f) :=
  tame_mk u (fun z hz => (List.mem_append.mp hz).elim (he.nm.so z) (hf.nm.so z)) fun o ho z hz => (List.mem_append.mp hz).elim (he.w o ho z) (hf.w o ho z)
theorem before_w {os U ts : List Str} {e : Fx} (he : Tame os U e) (h : ∀ z ∈ ts, z ∈ U) : ∀ z ∈ before os e ts, z ∈ U := fun z hz => by
  obtain ⟨t, ht, ⟨h1, h2⟩ | ⟨_, rfl⟩⟩ := mem_before.mp hz
  · exact he.w t h1 z h2
  · exact h z ht
theorem tame_turned {os U : List Str} {e f : Fx} (u : Uni os U) (he : Tame os U e) (hf : Tame os U f) : Tame os U (turned os e f) :=
  tame_mk u (fun z hz => (List.mem_append.mp hz).elim (he.nm.so z) fun q => of_decide_eq_true (List.mem_filter.mp q).2) fun o ho z hz => before_w he (hf.w o ho) z hz
theorem tame_empty {os U : List Str} (u : Uni os U) : Tame os U empty := tame_mk u (fun _ h => (nomatch h)) fun o ho z hz => by
  rw [List.mem_singleton.mp hz]
  exact u.sub o ho
theorem Tame.same {os U : List Str} {e f : Fx} (s : Same os e f) (h : Tame os U e) : Tame os U f where
  nm := { b1 := fun q => by rw [← s.seen]; exact h.nm.b1 (s.bad.trans q), b2 := fun q o ho => by rw [← s.g o ho]; exact h.nm.b2 (s.bad.trans q) o ho, ss := by rw [← s.seen]; exact h.nm.ss,
          so := by rw [← s.seen]; exact h.nm.so, gr := fun o ho => by rw [← s.g o ho]; exact h.nm.gr o ho, gd := fun o ho => by rw [← s.g o ho]; exact h.nm.gd o ho }
  w := fun o ho => by rw [← s.g o ho]; exact h.w o ho
theorem paired_of {F : Str → V → Prop} : ∀ {os : List Str} {ws : List V}, Paired F os ws → os.length = ws.length := fun h => Paired.length h
/-- a new dict from the outs, as what is handed in for gives -/
theorem kvs_dzip {K : PySem.W.Frag} {H : Hp} {g : Str → List Str} : ∀ {os : List Str} {ws : List V}, Paired (fun o v => SqX K H v (g o)) os ws → KVs K H (dzip os ws) (os.map fun o => (o, g o))
  | _, _, .nil => .nil
  | _, _, .cons a t => .cons ⟨rfl, a⟩ (kvs_dzip t)
theorem look_map {g : Str → List Str} {o : Str} : ∀ {os : List Str}, o ∈ os → look (os.map fun o => (o, g o)) o = some (g o)
  | y :: os, h => by
    rw [List.map_cons, look_cons]
    by_cases e : y = o
    · rw [if_pos (show (y, g y).1 = o from e), ← e]
    · rw [if_neg (show ¬ (y, g y).1 = o from e)]
      exact look_map ((List.mem_cons.mp h).resolve_left fun q => e q.symm)
theorem gOf_map {g : Str → List Str} {os : List Str} {o : Str} (h : o ∈ os) : gOf (os.map fun o => (o, g o)) o = g o := by
  unfold gOf
  rw [look_map h]
  rfl
theorem mk_gOf {os ls : List Str} {b : Bool} {g : Str → List Str} : Same os (mkF b ls (gOf (os.map fun o => (o, g o)))) (mkF b ls g) := ⟨rfl, rfl, fun o ho => by show nrm b (gOf _ o) = nrm b (g o); rw [gOf_map ho]⟩
theorem keys_map {g : Str → List Str} (os : List Str) : (os.map fun o => (o, g o)).map (·.1) = os := by
  rw [List.map_map]
  exact List.map_id' _
theorem catA_ok {K : PySem.W.Frag} {H : Hp} {a b : Addr} {xs ys : List V} {Q : VK} (ha : SqT K H a xs) (hb : SqT K H b ys) (hl : xs.length + ys.length ≤ 100000) (k : ∀ t H', Ex H H' → SqT K H' t (xs ++ ys) → Q (.ref t) H') : rCatA K (.ref a) (.ref b) H Q := by
  refine ⟨a, b, xs, ys, rfl, rfl, ha, hb, sz_of hl, fun e => ?_, fun _ e => ?_, fun _ _ p hp => k p _ (Ex.new hp) (SqT.of upd_same)⟩
  · subst e
    exact k b H (Ex.refl H) hb
  · subst e
    exact k a H (Ex.refl H) (by rw [List.append_nil]; exact ha)
theorem tupS_put {K : PySem.W.Frag} {H : Hp} {D : Addr} {kvs kvs' : List (Key × V)} {v : V} {ts : List Str} (hD : H D = some (.dK kvs)) (h : TupS K H v ts) : TupS K (upd H D (.dK kvs')) v ts := by
  obtain ⟨t, rfl, (h | ⟨u, h⟩) | h⟩ := h
  · exact ⟨t, rfl, .inl (.inl (by rw [upd_ne (ne_of h hD (by intro z; cases z))]; exact h))⟩
  · exact ⟨t, rfl, .inl (.inr ⟨u, by rw [upd_ne (ne_of h hD (by intro z; cases z))]; exact h⟩)⟩
  · exact ⟨t, rfl, .inr h⟩
theorem TupS.sqx {K : PySem.W.Frag} {H : Hp} {v : V} {ts : List Str} (h : TupS K H v ts) : SqX K H v ts := by
  obtain ⟨t, e, h⟩ := h
  exact ⟨t, e, .inr h⟩
/-! ### equal effects -/
theorem deq_dzip {K : PySem.W.Frag} {H : Hp} {f g : Str → List Str} {os0 : List Str} {ws0 : List V} (h0 : Paired (fun o v => TupS K H v (g o)) os0 ws0) (k0 : ∀ o ∈ os0, OkT (g o)) : ∀ {os : List Str} {ws : List V}, Paired (fun o v => TupS K H v (f o)) os ws → (∀ o ∈ os, o ∈ os0) → (∀ o ∈ os, OkT (f o)) →
    DEq K H (dzip os0 ws0) (dzip os ws) (os.all fun o => decide (f o = g o))
  | _, _, .nil, _, _ => .nil
  | o :: os, w :: ws, .cons ⟨t, e, ht⟩ r, hm, hk => by
    obtain ⟨v, hv, t', e', ht'⟩ := dzip_at h0 (hm o List.mem_cons_self)
    show DEq K H (dzip os0 ws0) (((Sum.inr o : Key), w) :: dzip os ws) _
    rw [List.all_cons, ← eqv_tupS]
    rw [e'] at hv
    exact .cons hv (e ▸ .tup ht (dp_strs _)) (.tup ht' (dp_strs _)) (shaped_tupS (hk o List.mem_cons_self)) (shaped_tupS (k0 o (hm o List.mem_cons_self))) (deq_dzip h0 k0 r (fun o ho => hm o (List.mem_cons_of_mem _ ho)) fun o ho => hk o (List.mem_cons_of_mem _ ho))
/-- the same, as a decision -/
def sameB (os os' : List Str) (x y : Fx) : Bool := decide (os = os') && (decide (x.bad = y.bad) && (decide (x.seen = y.seen) && os.all fun o => decide (x.g o = y.g o)))
theorem sameB_iff {os : List Str} {x y : Fx} : sameB os os x y = true ↔ Same os x y := by
  unfold sameB
  simp only [Bool.and_eq_true, decide_eq_true_eq, List.all_eq_true]
  exact ⟨fun ⟨_, h1, h2, h3⟩ => ⟨h1, h2, h3⟩, fun h => ⟨trivial, h.bad, h.seen, h.g⟩⟩
theorem sameB_t {os : List Str} {x y : Fx} (h : Same os x y) : sameB os os x y = true := sameB_iff.mpr h
def spEfEq (K : PySem.W.Frag) (C : Addr) : Sp := fun vs H Q _ => ∃ a v os x, vs = [.ref a, v] ∧ EfAt K C H a os x ∧ OkT os ∧ OkT x.seen ∧ (∀ o ∈ os, OkT (x.g o)) ∧
  ((∃ b os' y, v = .ref b ∧ EfAt K C H b os' y ∧ OkT os' ∧ OkT y.seen ∧ (∀ o ∈ os', OkT (y.g o)) ∧ Q (.bl (sameB os os' x y)) H) ∨ ∃ z, v = .str z ∧ Q (.bl false) H)
theorem ok_ef_eq (T : Tx K mg A) : FnOk P w K mg base CX0 1 A.ef_eq A.d_ef_eq p_ef_eq (spEfEq K A.Effect) := by
  refine T.F_ef_eq.ok sc_ef_eq (fun vs H Q E h => ?_) (fun cdv Ar outer s H vs Q E hr h => ?_)
  · obtain ⟨a, v, os, x, rfl, _⟩ := h
    rfl
  · obtain ⟨a, v, os, x, rfl, ha, o1, o2, o3, hv⟩ := h
    refine ⟨_, (pss_one (ps_ret (pe_and (pe_callB call_isi (by rfl) T.m_isinstance (by decide +kernel) (pa_cons (pv 1) (pa_cons (pe_glob (v := .ref A.Effect) (by rfl) T.g_Effect rfl) pa_nil))) (pe_and (pe_cmpR (op_eqD hr.units) (pe_fld (pv 0) rfl) (pe_fld (pv 1) rfl) (nomark _)) (pe_and (pe_cmpR op_eq (pe_fld (pv 0) rfl) (pe_fld (pv 1) rfl) (nomark _)) (pe_and (pe_cmpR (op_eqD hr.units) (pe_fld (pv 0) rfl) (pe_fld (pv 1) rfl) (nomark _)) (pe_one (pe_cmpR (UL.op_deq (UL.units1 hr)) (pe_fld (pv 0) rfl) (pe_fld (pv 1) rfl) (nomark _))))))))), ?_⟩
    obtain ⟨dx, to, tl, dg, ws, h1, h2, h3, h4, h5⟩ := id ha
    rcases hv with ⟨b, os', y, rfl, hb, p1, p2, p3, k⟩ | ⟨z, rfl, k⟩
    case inr => exact ⟨_, rfl, .str z, _, _, _, false, rfl, .own A.Effect, .base (.str z), T.ks_str, false, rfl, iteF k⟩
    obtain ⟨dx', to', tl', dg', ws', g1, g2, g3, g4, g5⟩ := id hb
    unfold sameB at k
    refine ⟨_, rfl, .ref b, _, _, _, true, rfl, .own A.Effect, tyx_ins g1 T.cl_Effect T.ty_Effect, T.ke_own, true, rfl, iteT ?_⟩
    refine ⟨_, rfl, a, _, dx, _, _, rfl, h1, T.cl_Effect, T.na_Effect_outs, rfl, _, rfl, b, _, dx', _, _, rfl, g1, T.cl_Effect, T.na_Effect_outs, rfl, _, _, .tup h2 (dp_strs os), .tup g2 (dp_strs os'), shaped_tupS o1, shaped_tupS p1, _, rfl, ?_⟩
    rw [eqv_tupS]
    by_cases eo : os = os'
    · subst eo
      rw [decide_eq_true rfl] at k ⊢
      refine iteT ⟨_, rfl, a, _, dx, _, _, rfl, h1, T.cl_Effect, T.na_Effect_faulty, rfl, _, rfl, b, _, dx', _, _, rfl, g1, T.cl_Effect, T.na_Effect_faulty, rfl, rfl, _, rfl, ?_⟩
      by_cases eb : x.bad = y.bad
      · rw [decide_eq_true eb] at k
        rw [decide_eq_true (congrArg V.bl eb)]
        refine iteT ⟨_, rfl, a, _, dx, _, _, rfl, h1, T.cl_Effect, T.na_Effect__looks, rfl, _, rfl, b, _, dx', _, _, rfl, g1, T.cl_Effect, T.na_Effect__looks, rfl, _, _, .tup h3 (dp_strs _), .tup g3 (dp_strs _), shaped_tupS o2, shaped_tupS p2, _, rfl, ?_⟩
        rw [eqv_tupS]
        by_cases es : x.seen = y.seen
        · rw [decide_eq_true es] at k ⊢
          refine iteT ⟨_, rfl, a, _, dx, _, _, rfl, h1, T.cl_Effect, T.na_Effect__gives, rfl, _, rfl, b, _, dx', _, _, rfl, g1, T.cl_Effect, T.na_Effect__gives, rfl, dg, dg', _, _, _, rfl, rfl, h4, g4, ?_, deq_dzip g5 p3 h5 (fun _ h => h) o3, k⟩
          unfold dzip
          rw [List.length_zipWith, List.length_zipWith, ← Paired.length h5, ← Paired.length g5]
        · rw [decide_eq_false es] at k ⊢
          exact iteF k
      · rw [decide_eq_false eb] at k
        rw [decide_eq_false fun z => eb (V.bl.inj z)]
        exact iteF k
    · rw [decide_eq_false eo] at k ⊢
      exact iteF k
end
end K61

set_option Elab.async false
set_option linter.all false
set_option maxRecDepth 100000
namespace K61
open PySem PySem.Spec PyProof.Rows L2 Evl TL UL StX
section
variable {P : Program} {w : World} {K : PySem.W.Frag} {mg : Str → Option Value} {base : Heap} {A : Adr}
/-! ### names that differ from number to number -/
theorem num_ne {k : Int} (h0 : 0 ≤ k) (h1 : k < 100) : tl (Str.ofString (toString k)) ≠ [] := fun h => by
  have := (num_ok h0 h1).2.1
  rw [h] at this
  exact absurd this (by decide)
theorem plain_digs : ∀ z ∈ plainS, digs z = [] := by decide +kernel
theorem num_inj {k k' : Int} (h0 : 0 ≤ k) (h1 : k < 64) (h0' : 0 ≤ k') (h1' : k' < 64) (h : tl (Str.ofString (toString k)) = tl (Str.ofString (toString k'))) : k = k' := by
  have dec : ∀ i j : Fin 64, tl (Str.ofString (toString ((i.val : Nat) : Int))) = tl (Str.ofString (toString ((j.val : Nat) : Int))) → i = j := by decide +kernel
  obtain ⟨n, rfl⟩ := Int.eq_ofNat_of_zero_le h0
  obtain ⟨m, rfl⟩ := Int.eq_ofNat_of_zero_le h0'
  have := dec ⟨n, by omega⟩ ⟨m, by omega⟩ h
  rw [show n = m from congrArg Fin.val this]
theorem nm_inj {k k' : Int} {z : Str} (h0 : 0 ≤ k) (h1 : k < 64) (h0' : 0 ≤ k') (h1' : k' < 64) (h : NmOf k z) (h' : NmOf k' z) : k = k' := by
  have pl : ∀ {j : Nat}, plainS[j]? = some z → digs z = [] := fun q => plain_digs z (List.mem_of_getElem? q)
  rcases h with h | ⟨hk, h⟩ <;> rcases h' with h' | ⟨hk', h'⟩
  · exact num_inj h0 h1 h0' h1' (h.symm.trans h')
  · rw [pl h'] at h
    exact absurd h.symm (num_ne h0 (by omega))
  · rw [pl h] at h'
    exact absurd h'.symm (num_ne h0' (by omega))
  · have nd : ∀ i j : Fin 16, plainS[i.val]? = plainS[j.val]? → i = j := by decide +kernel
    have := nd ⟨k.toNat, by omega⟩ ⟨k'.toNat, by omega⟩ (h.trans h'.symm)
    have e : k.toNat = k'.toNat := congrArg Fin.val this
    omega
theorem nm_not {k : Int} {z y : Str} (h0 : 0 ≤ k) (h1 : k < 64) (hd : digs y = []) (hn : y ∉ plainS) (h : NmOf k z) : z ≠ y := by
  rintro rfl
  rcases h with h | ⟨_, h⟩
  · rw [hd] at h
    exact num_ne h0 (by omega) h.symm
  · exact hn (List.mem_of_getElem? h)
def NmsOf (os : List Str) : Prop := ∀ (j : Nat) (z : Str), os[j]? = some z → okS z = true ∧ NmOf (j : Int) z
theorem nms_nodup {os : List Str} (h : NmsOf os) (hl : os.length ≤ 16) : os.Nodup := by
  refine List.pairwise_iff_getElem.mpr fun i j hi hj hij e => ?_
  have a := (h i _ (List.getElem?_eq_getElem hi)).2
  have b := (h j _ (List.getElem?_eq_getElem hj)).2
  rw [← e] at b
  have := nm_inj (by omega) (by omega) (by omega) (by omega) a b
  omega
theorem nms_not {os : List Str} {y : Str} (h : NmsOf os) (hl : os.length ≤ 16) (hd : digs y = []) (hn : y ∉ plainS) : y ∉ os := fun hm => by
  obtain ⟨j, hj, e⟩ := List.mem_iff_getElem.mp hm
  exact nm_not (by omega) (by omega) hd hn (h j _ (List.getElem?_eq_getElem hj)).2 e
theorem nms_ok {os : List Str} (h : NmsOf os) : OkT os := fun z hz => by
  obtain ⟨j, hj, e⟩ := List.mem_iff_getElem.mp hz
  have q := (h j _ (List.getElem?_eq_getElem hj)).1
  rw [e] at q
  unfold okS at q
  rw [Bool.and_eq_true] at q
  unfold PyData.strOk
  rw [← Array.all_toList, List.all_eq_true]
  intro c hc
  have h1 := List.all_eq_true.mp q.2 c hc
  rw [alnum36] at h1
  have h2 : ∀ c ∈ tl36, c < 0x110000 := by decide +kernel
  exact decide_eq_true (h2 c (of_decide_eq_true h1))
def menuS : List Str := ["dead", "v", "1", "2.0"]
/-- the texts that are drawn -/
def uni (os : List Str) : List Str := os ++ menuS
theorem nms_uni {os : List Str} (h : NmsOf os) (hl : os.length ≤ 16) : Uni os (uni os) where
  nd := nms_nodup h hl
  dU := List.mem_append_right _ (by decide +kernel)
  dO := nms_not h hl (by decide +kernel) (by decide +kernel)
  sub := fun z hz => List.mem_append_left _ hz
  ok := fun z hz => (List.mem_append.mp hz).elim (nms_ok h z) ((by decide +kernel : ∀ z ∈ menuS, PyData.strOk z = true) z)
  len := by
    unfold uni
    rw [List.length_append]
    have : menuS.length = 4 := rfl
    omega
/-- [te for k in range(n)]: the names -/
theorem lc_names {n : Int} {j : Nat} {te : TE} {vs : List Nat} {σ : L2.St} {H1 : Hp} {D : Addr} {Qd : Hp → Prop} (hn : 0 ≤ n ∧ n ≤ 16) (hD : H1 D = none) (hw : ∀ x, wipe ((wipe σ vs).set j (some x)) vs = wipe σ vs)
    (he : ∀ (i : Nat) H', (i : Int) < n → Ex H1 H' → ∀ Q : VK, (∀ z H2, okS z = true → NmOf (i : Int) z → Ex H' H2 → Q (.str z) H2) → te ((wipe σ vs).set j (some (.int (i : Int)))) H' Q)
    (hd : ∀ H' os, Ex H1 H' → H' D = some (.lst (os.map V.str)) → (os.length : Int) = n → NmsOf os → Qd H') :
    ∃ W : Nat → Nat → Hp → Prop, (∃ m, W 0 m (upd H1 D (.lst []))) ∧ ∀ i m H, W i m H →
      ((Itr 0 n.toNat).stop i H ∧ Qd H) ∨ ((Itr 0 n.toNat).go i H ∧ ∃ Nx : Hp → Prop, (∀ H', Nx H' → ∃ m', m' < m ∧ W (i + 1) m' H') ∧ ∀ x H', (Itr 0 n.toNat).yld i H x H' → gName j x (wipe σ vs) H' fun σ2 H2 => wipe σ2 vs = wipe σ vs ∧ tYes σ2 H2 fun b H3 =>
        if b = true then te σ2 H3 fun y H4 => ∃ acc, H4 D = some (.lst acc) ∧ acc.length < sizeLine ∧ Nx (upd H4 D (.lst (acc ++ [y]))) else Nx H3) := by
  refine lc_range (lo := 0) (n := n.toNat) (fun i H' => ∃ os : List Str, Ex H1 H' ∧ H' D = some (.lst (os.map V.str)) ∧ os.length = i ∧ NmsOf os) ⟨[], Ex.new hD, upd_same, rfl, fun j z h => (nomatch h)⟩ ?_ ?_
  · rintro i H' hi ⟨os, e1, hL, hl, ho⟩
    have e0 : (0 : Int) + (i : Int) = (i : Int) := Int.zero_add _
    show wipe ((wipe σ vs).set j (some (.int ((0 : Int) + (i : Int))))) vs = wipe σ vs ∧ _
    refine ⟨hw _, ?_⟩
    show te ((wipe σ vs).set j (some (.int ((0 : Int) + (i : Int))))) _ _
    rw [e0]
    refine he i H' (by omega) e1 _ fun z H2 hz hm e2 => ⟨os.map V.str, e2 _ _ hL, by rw [List.length_map]; exact sz_lt (by omega), os ++ [z], (e1.trans e2).mut hD, ?_, by rw [List.length_append, hl]; rfl, fun k y hk => ?_⟩
    · rw [upd_same, List.map_append]
      rfl
    · by_cases e : k < os.length
      · rw [List.getElem?_append_left e] at hk
        exact ho k y hk
      · rw [List.getElem?_append_right (by omega)] at hk
        have e3 : k - os.length = 0 := by
          cases q : k - os.length with
          | zero => rfl
          | succ m => rw [q] at hk; cases hk
        rw [e3] at hk
        cases hk
        rw [show k = i by omega]
        exact ⟨hz, hm⟩
  · rintro H' ⟨os, e1, hL, hl, ho⟩
    exact hd H' os e1 hL (by omega) ho
theorem strs_of {U : List Str} : ∀ {xs : List V}, (∀ x ∈ xs, ∃ z, z ∈ U ∧ x = .str z) → ∃ ts : List Str, xs = ts.map V.str ∧ ∀ z ∈ ts, z ∈ U
  | [], _ => ⟨[], rfl, fun _ h => (nomatch h)⟩
  | x :: r, h => by
    obtain ⟨z, hz, rfl⟩ := h _ List.mem_cons_self
    obtain ⟨ts, rfl, ht⟩ := strs_of fun x hx => h x (List.mem_cons_of_mem _ hx)
    exact ⟨z :: ts, rfl, fun y hy => (List.mem_cons.mp hy).elim (fun e => e ▸ hz) (ht y)⟩
theorem pick_str {U : List Str} {n : Int} (h0 : 0 ≤ n) (h1 : n < (U.length : Int)) : ∃ z, atI (U.map V.str) n = some (.str z) ∧ z ∈ U := by
  obtain ⟨m, rfl⟩ := Int.eq_ofNat_of_zero_le h0
  have hm : m < U.length := by omega
  exact ⟨U[m], atI_nat (by rw [List.getElem?_map, List.getElem?_eq_getElem hm]; rfl), List.getElem_mem hm⟩
def spTexts : Sp := fun vs H Q _ => ∃ d o os, vs = [.ref d, .ref o] ∧ H d = some (DrO d) ∧ H o = some (.lst (os.map V.str)) ∧ os.length ≤ 16 ∧
  ∀ (t : Addr) (ts : List Str) H', Ex H H' → H t = none → H' t = some (.lst (ts.map V.str)) → ts.length ≤ 9 → (∀ z ∈ ts, z ∈ uni os) → Q (.ref t) H'
theorem ok_texts (T : Tx K mg A) : FnOk P w K mg base CX0 2 A.texts A.d_texts p_texts spTexts := by
  refine T.F_texts.ok sc_texts (fun vs H Q E h => ?_) (fun cdv Ar outer s H vs Q E hr h => ?_)
  · obtain ⟨d, o, os, rfl, _⟩ := h
    rfl
  · obtain ⟨d, o, os, rfl, hd, ho, hl, k⟩ := h
    refine ⟨_, (pss_cons (ps_set (i := 2) sc_texts.nd rfl (Or.inr rfl) (pe_op op_cat (pv 1) (pe_lst (pa_cons pe_str (pa_cons pe_str (pa_cons pe_str (pa_cons pe_str pa_nil)))))))
      (pss_one (ps_ret (pe_lc (own := [("_law_turn", 3)]) (g := gName 3) (tt := tYes) rfl sc_texts.nd (pi_range1 (by rfl) T.m_range (pa_cons (pe_call (ok_take T) (hr.mono (by decide)) (by rfl) T.g_take T.F_take.kp T.b_take .nil pass0 (pa_cons (pv 0) (pa_cons pe_int pa_nil))) pa_nil)) (blkOk_by (N := n_texts) (sc := defScope s_texts) (by decide +kernel)) (fun _ _ _ _ _ => pg_name (i := 3) sc_texts.nd rfl (Or.inl rfl)) (fun _ _ _ _ _ => pts_nil) (fun _ _ _ _ _ => (pe_ix (show IxR _ (rIxL K) from ix_list) (pv 2) (pe_call (ok_take T) (hr.mono (by decide)) (by rfl) T.g_take T.F_take.kp T.b_take .nil pass0 (pa_cons (pv 0) (pa_cons (pe_callB (show CallR _ _ (UL.rLen K) from call_len_seq) (by rfl) T.m_len PySem.boot_len (pa_cons (pv 2) pa_nil)) pa_nil))) (fun _ _ => rfl))))))), ?_⟩
    refine ⟨_, rfl, sz_of (by show 4 ≤ 100000; decide), fun p hp => ?_⟩
    have e1 := Ex.new (o := .lst [.str "dead", .str "v", .str "1", .str "2.0"]) hp
    refine ⟨_, _, _, _, rfl, rfl, e1 _ _ ho, upd_same, by rw [List.length_map]; exact sz_of (by show os.length + 4 ≤ 100000; omega), fun m hm => ?_⟩
    rw [show os.map V.str ++ [V.str "dead", V.str "v", V.str "1", V.str "2.0"] = (uni os).map V.str from (List.map_append (l₂ := menuS)).symm]
    have e2 := e1.trans (Ex.new (o := .lst ((uni os).map V.str)) hm)
    have hm2 := upd_same (H := upd H p (.lst [.str "dead", .str "v", .str "1", .str "2.0"])) (a := m) (o := .lst ((uni os).map V.str))
    revert e2 hm2
    generalize upd (upd H p _) m (.lst ((uni os).map V.str)) = H2
    intro e2 hm2
    have ul : (uni os).length = os.length + 4 := by unfold uni; rw [List.length_append]; rfl
    refine ⟨_, rfl, d, _, rfl, e2 _ _ hd, by decide, fun n n0 n1 => ⟨n, rfl, by omega, by omega, fun D hD => ?_⟩⟩
    refine lc_n (G := fun _ x => ∃ z, z ∈ uni os ∧ x = .str z) (n := n) ⟨n0, by omega⟩ hD (fun _ _ _ _ h => h) (fun _ _ _ _ _ h => h) (fun _ => rfl) (fun i H' hi e Q' q => ?_) (fun H' xs e hD' hn hx => ?_)
    · refine ⟨_, rfl, _, rfl, _, rfl, m, _, rfl, .inl (SqL.of (e _ _ hm2)), d, _, rfl, e _ _ (e2 _ _ hd), by rw [List.length_map]; omega, fun c c0 c1 => ?_⟩
      rw [List.length_map] at c1
      obtain ⟨z, hz, hu⟩ := pick_str c0 c1
      exact ⟨m, _, c, .str z, rfl, rfl, SqL.of (e _ _ hm2), hz, q _ _ (Ex.refl _) ⟨z, hu, rfl⟩⟩
    · obtain ⟨ts, rfl, hu⟩ := strs_of hx
      rw [List.length_map] at hn
      exact k D ts H' (e2.trans e) (fresh_back e2 hD) hD' (by omega) hu
/-! ### what an effect is made of -/
structure Pl where
  seen : List Str
  gs : Gs
  bad : Bool
def All : Addr → Prop := fun _ => True
/-- .. at addresses of which S holds -/
def KVl (S : Addr → Prop) (H : Hp) : List (Key × V) → Gs → Prop := Paired fun kv g => kv.1 = Sum.inr g.1 ∧ ∃ t, S t ∧ kv.2 = .ref t ∧ H t = some (.lst (g.2.map V.str))
theorem KVl.mono {S : Addr → Prop} {H H' : Hp} {kvs : List (Key × V)} {gs : Gs} (e : Ex H H') (h : KVl S H kvs gs) : KVl S H' kvs gs := paired_imp (fun _ _ ⟨q1, t, q0, q2, q3⟩ => ⟨q1, t, q0, q2, e _ _ q3⟩) h
theorem KVl.weak {S S' : Addr → Prop} {H : Hp} {kvs : List (Key × V)} {gs : Gs} (w : ∀ b, S b → S' b) (h : KVl S H kvs gs) : KVl S' H kvs gs := paired_imp (fun _ _ ⟨q1, t, q0, q2, q3⟩ => ⟨q1, t, w _ q0, q2, q3⟩) h
theorem KVl.wr {S : Addr → Prop} {H : Hp} {D : Addr} {o : HO} {kvs : List (Key × V)} {gs : Gs} (w : ∀ b, S b → b ≠ D) (h : KVl S H kvs gs) : KVl S (upd H D o) kvs gs := paired_imp (fun _ _ ⟨q1, t, q0, q2, q3⟩ => ⟨q1, t, q0, q2, by rw [upd_ne (w _ q0)]; exact q3⟩) h
theorem KVl.kvs {S : Addr → Prop} {K : PySem.W.Frag} {H : Hp} {kvs : List (Key × V)} {gs : Gs} (h : KVl S H kvs gs) : KVs K H kvs gs := paired_imp (fun _ _ ⟨q1, t, _, q2, q3⟩ => ⟨q1, t, q2, .inl (SqL.of q3)⟩) h
theorem KVl.off {S : Addr → Prop} {o : Str} : ∀ {H : Hp} {kvs : List (Key × V)} {gs : Gs}, KVl S H kvs gs → o ∉ gs.map (·.1) → valV kvs (Sum.inr o) = none
  | _, _, _, .nil, _ => rfl
  | H, kv :: kvs, g :: gs, .cons ⟨h1, h2⟩ t, h => by
    rw [List.map_cons, List.mem_cons, not_or] at h
    rw [valV_neg (by rw [h1]; intro z; exact h.1 (Sum.inr.inj z).symm)]
    exact KVl.off t h.2
theorem KVl.at {S : Addr → Prop} {H : Hp} {o : Str} : ∀ {kvs : List (Key × V)} {gs : Gs}, KVl S H kvs gs → (valV kvs (Sum.inr o) = none ∧ look gs o = none) ∨ ∃ (t : Addr) (ts : List Str), valV kvs (Sum.inr o) = some (.ref t) ∧ look gs o = some ts ∧ H t = some (.lst (ts.map V.str))
  | _, _, .nil => .inl ⟨rfl, rfl⟩
  | kv :: kvs, g :: gs, .cons ⟨h1, t, _, h2, h3⟩ r => by
    by_cases e : g.1 = o
    · exact .inr ⟨t, g.2, by rw [valV_pos (h1.trans (congrArg Sum.inr e)), h2], by rw [look_cons, if_pos e], h3⟩
    · rcases KVl.at (o := o) r with ⟨q1, q2⟩ | ⟨v, ts, q1, q2, q3⟩
      · exact .inl ⟨by rw [valV_neg (by rw [h1]; intro z; exact e (Sum.inr.inj z))]; exact q1, by rw [look_cons, if_neg e]; exact q2⟩
      · exact .inr ⟨v, ts, by rw [valV_neg (by rw [h1]; intro z; exact e (Sum.inr.inj z))]; exact q1, by rw [look_cons, if_neg e]; exact q2, q3⟩
theorem KVl.snoc {S : Addr → Prop} {H : Hp} {kvs : List (Key × V)} {gs : Gs} {o : Str} {t : Addr} {ts : List Str} (h : KVl S H kvs gs) (no : o ∉ gs.map (·.1)) (st : S t) (ht : H t = some (.lst (ts.map V.str))) :
    KVl S H (putK kvs (Sum.inr o) (.ref t)) (gs ++ [(o, ts)]) := by
  unfold putK
  rw [valV_any, h.off no, if_neg (by simp)]
  exact Paired.snoc h ⟨rfl, t, st, rfl, ht⟩
theorem KVl.put {S : Addr → Prop} {H : Hp} {d : Addr} {kvs ks ks' : List (Key × V)} {gs : Gs} (hd : H d = some (.dK ks)) (h : KVl S H kvs gs) : KVl S (upd H d (.dK ks')) kvs gs := paired_imp (fun _ _ ⟨q1, t, q0, q2, q3⟩ => ⟨q1, t, q0, q2, by rw [upd_ne (ne_of q3 hd (by intro z; cases z))]; exact q3⟩) h
/-- what an effect is made of stands at p -/
def PlAt (S : Addr → Prop) (H : Hp) (p : Addr) (pl : Pl) : Prop := ∃ s d kvs, (S p ∧ S s ∧ S d) ∧ H p = some (.lst [.ref s, .ref d, .bl pl.bad]) ∧ H s = some (.lst (pl.seen.map V.str)) ∧ H d = some (.dK kvs) ∧ KVl S H kvs pl.gs
theorem PlAt.mono {S : Addr → Prop} {H H' : Hp} {p : Addr} {pl : Pl} (e : Ex H H') (h : PlAt S H p pl) : PlAt S H' p pl := by
  obtain ⟨s, d, kvs, h0, h1, h2, h3, h4⟩ := h
  exact ⟨s, d, kvs, h0, e _ _ h1, e _ _ h2, e _ _ h3, h4.mono e⟩
theorem PlAt.weak {S S' : Addr → Prop} {H : Hp} {p : Addr} {pl : Pl} (w : ∀ b, S b → S' b) (h : PlAt S H p pl) : PlAt S' H p pl := by
  obtain ⟨s, d, kvs, ⟨a, b, c⟩, h1, h2, h3, h4⟩ := h
  exact ⟨s, d, kvs, ⟨w _ a, w _ b, w _ c⟩, h1, h2, h3, h4.weak w⟩
theorem PlAt.wr {S : Addr → Prop} {H : Hp} {D : Addr} {o : HO} {p : Addr} {pl : Pl} (w : ∀ b, S b → b ≠ D) (h : PlAt S H p pl) : PlAt S (upd H D o) p pl := by
  obtain ⟨s, d, kvs, ⟨a, b, c⟩, h1, h2, h3, h4⟩ := h
  exact ⟨s, d, kvs, ⟨a, b, c⟩, by rw [upd_ne (w _ a)]; exact h1, by rw [upd_ne (w _ b)]; exact h2, by rw [upd_ne (w _ c)]; exact h3, h4.wr w⟩
structure PlOk (os : List Str) (pl : Pl) : Prop where
  so : ∀ z ∈ pl.seen, z ∈ os
  sl : pl.seen.length ≤ 40
  gl : pl.gs.length ≤ 40
  gk : ∀ g ∈ pl.gs, g.1 ∈ os
  gu : ∀ g ∈ pl.gs, ∀ z ∈ g.2, z ∈ uni os
  gz : ∀ g ∈ pl.gs, g.2.length ≤ 40
def fxOf (pl : Pl) : Fx := mkF pl.bad pl.seen (gOf pl.gs)
theorem gOf_u {os : List Str} {pl : Pl} (h : PlOk os pl) {o : Str} (ho : o ∈ os) : ∀ z ∈ gOf pl.gs o, z ∈ uni os := by
  intro z hz
  unfold gOf look at hz
  cases e : pl.gs.find? fun p => decide (p.1 = o) with
  | none =>
    rw [e] at hz
    rw [List.mem_singleton.mp hz]
    exact List.mem_append_left _ ho
  | some g =>
    rw [e] at hz
    exact h.gu g (List.mem_of_find?_eq_some e) z hz
theorem fxOf_tame {os : List Str} {pl : Pl} (u : Uni os (uni os)) (h : PlOk os pl) : Tame os (uni os) (fxOf pl) := tame_mk u h.so fun o ho z hz => gOf_u h ho z hz
def spPlain : Sp := fun vs H Q _ => ∃ d o os, vs = [.ref d, .ref o] ∧ H d = some (DrO d) ∧ H o = some (.lst (os.map V.str)) ∧ os.length ≤ 16 ∧ os.Nodup ∧
  ∀ p pl H', Ex H H' → H p = none → PlAt (fun b => H b = none) H' p pl → PlOk os pl → (pl.gs.map (·.1)).Nodup → Q (.ref p) H'
theorem ok_plain (T : Tx K mg A) : FnOk P w K mg base CX0 3 A.plain A.d_plain p_plain spPlain := by
  refine T.F_plain.ok sc_plain (fun vs H Q E h => ?_) (fun cdv Ar outer s H vs Q E hr h => ?_)
  · obtain ⟨d, o, os, rfl, _⟩ := h
    rfl
  · obtain ⟨d, o, os, rfl, hd, ho, hl, nd, k⟩ := h
    refine ⟨_, (pss_cons (ps_set (i := 2) sc_plain.nd rfl (Or.inl rfl) (pe_lst pa_nil))
      (Evl.pss_cut (ps_if (pt_cmpR op_gt (pe_callB call_len_seq (by rfl) T.m_len PySem.boot_len (pa_cons (pv 1) pa_nil)) pe_int (nomark _)) (pss_one (ps_setLc (i := 2) (own := [("_law_turn", 5)]) (g := gName 5) (tt := tYes) rfl sc_plain.nd rfl rfl (sw_true rfl rfl rfl (by decide +kernel)) (pi_range1 (by rfl) T.m_range (pa_cons (pe_call (ok_take T) (hr.mono (by decide)) (by rfl) T.g_take T.F_take.kp T.b_take .nil pass0 (pa_cons (pv 0) (pa_cons pe_int pa_nil))) pa_nil)) (blkOk_by (N := n_plain) (sc := defScope s_plain) (by decide +kernel)) (fun _ _ _ _ _ => pg_name (i := 5) sc_plain.nd rfl (Or.inl rfl)) (fun _ _ _ _ _ => pts_nil) (fun _ _ _ _ _ => (pe_ix (show IxR _ (rIxL K) from ix_list) (pv 1) (pe_call (ok_take T) (hr.mono (by decide)) (by rfl) T.g_take T.F_take.kp T.b_take .nil pass0 (pa_cons (pv 0) (pa_cons (pe_callB (show CallR _ _ (UL.rLen K) from call_len_seq) (by rfl) T.m_len PySem.boot_len (pa_cons (pv 1) pa_nil)) pa_nil))) (fun _ _ => rfl))))) pss_nil)
      (pss_cons (ps_set (i := 3) sc_plain.nd rfl (Or.inl rfl) pe_dnewK)
      (pss_cons (ps_for PassesOwn.never rfl (pi_list (pv 1)) (pg_name (i := 4) sc_plain.nd rfl (Or.inl rfl)) (pss_one (ps_if (pt_cmpR op_gt (pe_call (ok_take T) (hr.mono (by decide)) (by rfl) T.g_take T.F_take.kp T.b_take .nil pass0 (pa_cons (pv 0) (pa_cons pe_int pa_nil))) pe_int (nomark _)) (pss_one (ps_dput (hu_of hr) (pv 3) (pv 4) (pe_call (ok_texts T) (hr.mono (by decide)) (by rfl) T.g_texts T.F_texts.kp T.b_texts .nil pass0 (pa_cons (pv 0) (pa_cons (pv 1) pa_nil))) rfl)) pss_nil)))
      (pss_one (ps_ret (pe_lst (pa_cons (pv 2) (pa_cons (pv 3) (pa_cons (pe_cmpR op_eq (pe_call (ok_take T) (hr.mono (by decide)) (by rfl) T.g_take T.F_take.kp T.b_take .nil pass0 (pa_cons (pv 0) (pa_cons pe_int pa_nil))) pe_int (nomark _)) pa_nil)))))))))), ?_⟩
    refine ⟨by show 0 ≤ sizeLine; decide, fun s0 hs0 => ?_⟩
    refine ⟨fun σ' H' => ∃ (s1 : Addr) (seen : List Str) (v5 : Option V), σ' = [some (.ref d), some (.ref o), some (.ref s1), none, none, v5] ∧ Ex H H' ∧ H s1 = none ∧ H' s1 = some (.lst (seen.map V.str)) ∧ (∀ z ∈ seen, z ∈ os) ∧ seen.length ≤ 3, ?_, ?_⟩
    · have e1 := Ex.new (o := .lst []) hs0
      refine ⟨_, rfl, o, _, rfl, .inl (SqL.of (e1 _ _ ho)), _, _, rfl, rfl, _, rfl, ite2 (fun h => ?_) (fun _ => ⟨s0, [], none, rfl, e1, hs0, upd_same, fun _ h => (nomatch h), by decide⟩)⟩
      have h := of_decide_eq_true h
      rw [List.length_map] at h
      refine ⟨_, rfl, d, _, rfl, e1 _ _ hd, by decide, fun n n0 n1 => ⟨n, rfl, by omega, by omega, fun D hD => ?_⟩⟩
      refine lc_n (G := fun _ x => ∃ z, z ∈ os ∧ x = .str z) (n := n) ⟨n0, by omega⟩ hD (fun _ _ _ _ h => h) (fun _ _ _ _ _ h => h) (fun _ => rfl) (fun i H' hi e Q' q => ?_) (fun H' xs e hD' hn hx => ?_)
      · have e2 := e1.trans e
        refine ⟨_, rfl, _, rfl, _, rfl, o, _, rfl, .inl (SqL.of (e2 _ _ ho)), d, _, rfl, e2 _ _ hd, by rw [List.length_map]; omega, fun c c0 c1 => ?_⟩
        rw [List.length_map] at c1
        obtain ⟨z, hz, hu⟩ := pick_str c0 c1
        exact ⟨o, _, c, .str z, rfl, rfl, SqL.of (e2 _ _ ho), hz, q _ _ (Ex.refl _) ⟨z, hu, rfl⟩⟩
      · obtain ⟨ts, rfl, hu⟩ := strs_of hx
        rw [List.length_map] at hn
        exact ⟨D, ts, none, rfl, e1.trans e, fresh_back e1 hD, hD', hu, by omega⟩
    rintro _ H1 ⟨s1, seen, v5, rfl, e1, hn1, hs1, hso, hsl⟩
    refine fun dd hdd => ?_
    have n1 := Ex.new (o := .dK []) hdd
    refine ⟨_, rfl, o, rfl, ⟨_, SqL.of (n1 _ _ (e1 _ _ ho))⟩, for_list (xs := os.map V.str) (fun i σ' H' => (∃ v4, σ' = [some (.ref d), some (.ref o), some (.ref s1), some (.ref dd), v4, v5]) ∧ Ex H1 H' ∧ ∃ (kvs : List (Key × V)) (gs : Gs), H' dd = some (.dK kvs) ∧ KVl (fun b => H b = none) H' kvs gs ∧ (∀ g ∈ gs, g.1 ∈ os.take i) ∧ (∀ g ∈ gs, ∀ z ∈ g.2, z ∈ uni os) ∧ (∀ g ∈ gs, g.2.length ≤ 9) ∧ gs.length ≤ i ∧ (gs.map (·.1)).Nodup)
      ⟨⟨_, rfl⟩, n1, [], [], upd_same, .nil, fun _ h => (nomatch h), fun _ h => (nomatch h), fun _ h => (nomatch h), Nat.le_refl _, .nil⟩ (fun i σ' H' _ q => SqL.of (q.2.1 _ _ (e1 _ _ ho))) ?_ ?_⟩
    · rintro i x σ' H' hi ⟨⟨v4, rfl⟩, e2, kvs, gs, hd2, hk, g1, g2, g3, g4, g5⟩
      rw [List.getElem?_map] at hi
      cases hz : os[i]? with
      | none => rw [hz] at hi; cases hi
      | some z =>
      rw [hz] at hi
      cases hi
      have hlt : i < os.length := (List.getElem?_eq_some_iff.mp hz).1
      have nx : os.take (i + 1) = os.take i ++ [z] := by rw [List.take_add_one, hz]; rfl
      have out : z ∉ os.take i := fun hm => by
        obtain ⟨j, hj1, hj2⟩ := List.mem_iff_getElem.mp hm
        rw [List.length_take] at hj1
        rw [List.getElem_take] at hj2
        obtain ⟨_, hio⟩ := List.getElem?_eq_some_iff.mp hz
        have := (List.getElem_inj nd).mp (hj2.trans hio.symm)
        omega
      have up : ∀ y, y ∈ os.take i → y ∈ os.take (i + 1) := fun y hy => by rw [nx]; exact List.mem_append_left _ hy
      have e12 := e1.trans e2
      refine ⟨_, rfl, d, _, rfl, e12 _ _ hd, by decide, fun c c0 c1 => ⟨_, _, rfl, rfl, _, rfl, ite2 (fun _ => ?_) (fun _ => ⟨⟨_, rfl⟩, e2, kvs, gs, hd2, hk, fun g hg => up _ (g1 g hg), g2, g3, Nat.le_succ_of_le g4, g5⟩)⟩⟩
      refine ⟨_, rfl, _, rfl, d, o, os, rfl, e12 _ _ hd, e12 _ _ ho, hl, fun t ts H3 e3 htn ht htl htu => ?_⟩
      have hd3 := e3 _ _ hd2
      have no : z ∉ gs.map (·.1) := fun hm => by
        obtain ⟨g, hg, e⟩ := List.mem_map.mp hm
        exact out (e ▸ g1 g hg)
      refine ⟨_, rfl, _, rfl, dd, _, rfl, DPut.k (k := Sum.inr z) hd3 ?_, ⟨_, rfl⟩, (e2.trans e3).mut hdd, _, gs ++ [(z, ts)], upd_same, ?_, ?_, ?_, ?_, ?_, ?_⟩
      · rw [Paired.length hk]
        exact sz_lt (by omega)
      · exact (KVl.snoc (hk.mono e3) no (fresh_back e12 htn) ht).put hd3
      · intro g hg
        rcases List.mem_append.mp hg with hg | hg
        · exact up _ (g1 g hg)
        · rw [List.mem_singleton.mp hg, nx]
          exact List.mem_append_right _ List.mem_cons_self
      · intro g hg
        rcases List.mem_append.mp hg with hg | hg
        · exact g2 g hg
        · rw [List.mem_singleton.mp hg]
          exact htu
      · intro g hg
        rcases List.mem_append.mp hg with hg | hg
        · exact g3 g hg
        · rw [List.mem_singleton.mp hg]
          exact htl
      · rw [List.length_append]
        show gs.length + 1 ≤ i + 1
        omega
      · rw [List.map_append]
        exact List.nodup_append.mpr ⟨g5, List.pairwise_singleton _ _, fun x hx y hy e => no (by rw [List.mem_singleton.mp hy] at e; rw [← (show x = z from e)]; exact hx)⟩
    · rintro σ' H' ⟨⟨v4, rfl⟩, e2, kvs, gs, hd2, hk, g1, g2, g3, g4, g5⟩
      rw [List.length_map, List.take_length] at g1
      rw [List.length_map] at g4
      have e12 := e1.trans e2
      refine ⟨_, rfl, _, rfl, _, rfl, d, _, rfl, e12 _ _ hd, by decide, fun c c0 c1 => ⟨rfl, ?_⟩⟩
      refine ⟨sz_of (by show 3 ≤ 100000; decide), fun p hp => ?_⟩
      have e3 := Ex.new (o := .lst [.ref s1, .ref dd, .bl (decide (V.int c = V.int 1))]) hp
      exact k p ⟨seen, gs, decide (V.int c = V.int 1)⟩ _ (e12.trans e3) (fresh_back e12 hp) ⟨s1, dd, kvs, ⟨fresh_back e12 hp, hn1, fresh_back e1 hdd⟩, upd_same, e3 _ _ (e2 _ _ hs1), e3 _ _ hd2, hk.mono e3⟩
        ⟨hso, by show seen.length ≤ 40; omega, by show gs.length ≤ 40; omega, g1, g2, fun g hg => Nat.le_trans (g3 g hg) (by decide)⟩ g5
end
end K61

set_option Elab.async false
set_option linter.all false
set_option maxRecDepth 100000
namespace K61
open PySem PySem.Spec PyProof.Rows L2 Evl TL UL StX
section
variable {P : Program} {w : World} {K : PySem.W.Frag} {mg : Str → Option Value} {base : Heap} {A : Adr}
/-! ### the law's own normal form -/
def spSorted : Sp := fun vs H Q _ => ∃ (l : Addr) (ts : List Str), vs = [.ref l] ∧ H l = some (.lst (ts.map V.str)) ∧ ts.length ≤ 10000 ∧ ∀ q H', Ex H H' → H q = none → H' q = some (.lst ((asc ts).map V.str)) → Q (.ref q) H'
theorem ok_lsorted (T : Tx K mg A) : FnOk P w K mg base CX0 1 A.lsorted A.d_lsorted p_lsorted spSorted := by
  refine T.F_lsorted.ok sc_lsorted (fun vs H Q E h => ?_) (fun cdv Ar outer s H vs Q E hr h => ?_)
  · obtain ⟨l, ts, rfl, _⟩ := h
    rfl
  · obtain ⟨l, ts, rfl, hl, hz, k⟩ := h
    refine ⟨_, (pss_cons (ps_set (i := 1) sc_lsorted.nd rfl (Or.inl rfl) (pe_lst pa_nil))
      (pss_cons (ps_for PassesOwn.never rfl (pi_list (pe_callB UL.call_sortedA (by rfl) T.m_sorted (by decide +kernel) (pa_cons (pv 0) pa_nil))) (pg_name (i := 2) sc_lsorted.nd rfl (Or.inl rfl)) (pss_one (ps_if (pt_cmpR op_notIn_seq (pv 2) (pv 1) (by rfl)) (pss_one (ps_expr (pe_bm PySem.F.plainAttrs_list PySem.F.slot_list_append PySem.F.type_list_append mt_append (pv 1) (pa_cons (pv 2) pa_nil)))) pss_nil)))
      (pss_one (ps_ret (pv 1))))), ?_⟩
    refine ⟨by show 0 ≤ sizeLine; decide, fun q hq => ?_⟩
    have e1 := Ex.new (o := .lst []) hq
    refine ⟨_, rfl, l, ts, rfl, SqL.of (e1 _ _ hl), fun ys p hp hs hpn => ?_⟩
    have e2 := Ex.new (o := .lst (ys.map V.str)) hpn
    have npq : p ≠ q := fun z => by rw [z, upd_same] at hpn; cases hpn
    have pair := sorted_pair hs
    refine ⟨p, rfl, ⟨_, SqL.of upd_same⟩, for_list (xs := ys.map V.str) (fun i σ' H' => (∃ v2, σ' = [some (.ref l), some (.ref q), v2]) ∧ Ex H H' ∧ H' p = some (.lst (ys.map V.str)) ∧ H' q = some (.lst ((asc (ys.take i)).map V.str)))
      ⟨⟨_, rfl⟩, e1.trans e2, upd_same, e2 _ _ upd_same⟩ (fun i σ' H' _ z => SqL.of z.2.2.1) ?_ ?_⟩
    · rintro i x σ' H' hi ⟨⟨v2, rfl⟩, e3, hp3, hq3⟩
      rw [List.getElem?_map] at hi
      cases hy : ys[i]? with
      | none => rw [hy] at hi; cases hi
      | some y =>
      rw [hy] at hi
      cases hi
      obtain ⟨hlt, hyi⟩ := List.getElem?_eq_some_iff.mp hy
      have nx : ys.take (i + 1) = ys.take i ++ [y] := by rw [List.take_add_one, hy]; rfl
      have low : ∀ z ∈ ys.take i, ltS y z = false := fun z hz => by
        obtain ⟨j, hj1, hj2⟩ := List.mem_iff_getElem.mp hz
        rw [List.length_take] at hj1
        rw [List.getElem_take] at hj2
        have := List.pairwise_iff_getElem.mp pair j i (by omega) hlt (by omega)
        rw [← hj2, ← hyi]
        exact this
      refine ⟨_, rfl, _, rfl, q, _, rfl, .inl (SqL.of hq3), rfl, flat_all _, _, rfl, ?_⟩
      rw [inV_strs]
      have hm : (y ∈ asc (ys.take i)) ↔ y ∈ ys.take i := mem_asc
      by_cases hin : y ∈ ys.take i
      · rw [decide_eq_true (hm.mpr hin)]
        refine iteF ⟨⟨_, rfl⟩, e3, hp3, ?_⟩
        rw [nx, asc_snoc low, if_pos hin]
        exact hq3
      · rw [decide_eq_false fun z => hin (hm.mp z)]
        refine iteT ⟨_, rfl, .inl ⟨rfl, _, SqL.of hq3⟩, _, rfl, q, _, _, rfl, rfl, hq3, ?_, ⟨_, rfl⟩, e3.mut hq, ?_, ?_⟩
        · have := asc_le (ys.take i)
          have hpl := hp.length_eq
          rw [List.length_take] at this
          rw [List.length_map]
          exact sz_lt (by omega)
        · rw [upd_ne npq]
          exact hp3
        · rw [upd_same, nx, asc_snoc low, if_neg hin, List.map_append]
          rfl
    · rintro σ' H' ⟨⟨v2, rfl⟩, e3, hp3, hq3⟩
      rw [List.length_map, List.take_length] at hq3
      refine ⟨_, rfl, k q H' e3 hq ?_⟩
      rw [show asc ts = asc ys from asc_ext fun z => hp.mem_iff.symm]
      exact hq3
/-- the normal form x over the outs os stands at p -/
def NfAt (S : Addr → Prop) (H : Hp) (p : Addr) (os : List Str) (x : Fx) : Prop := ∃ (s r : Addr) (rs : List Addr), (S p ∧ S s ∧ S r) ∧ H p = some (.lst [.bl x.bad, .ref s, .ref r]) ∧ H s = some (.lst (x.seen.map V.str)) ∧ H r = some (.lst (rs.map V.ref)) ∧ Paired (fun o a => S a ∧ H a = some (.lst ((x.g o).map V.str))) os rs
theorem NfAt.mono {S : Addr → Prop} {H H' : Hp} {p : Addr} {os : List Str} {x : Fx} (e : Ex H H') (h : NfAt S H p os x) : NfAt S H' p os x := by
  obtain ⟨s, r, rs, h0, h1, h2, h3, h4⟩ := h
  exact ⟨s, r, rs, h0, e _ _ h1, e _ _ h2, e _ _ h3, paired_imp (fun _ _ q => ⟨q.1, e _ _ q.2⟩) h4⟩
theorem NfAt.same {S : Addr → Prop} {H : Hp} {p : Addr} {os : List Str} {x y : Fx} (s : Same os x y) (h : NfAt S H p os x) : NfAt S H p os y := by
  obtain ⟨s', r, rs, h0, h1, h2, h3, h4⟩ := h
  exact ⟨s', r, rs, h0, by rw [← s.bad]; exact h1, by rw [← s.seen]; exact h2, h3, paired_mem (fun o ho v q => by rw [← s.g o ho]; exact q) h4⟩
theorem NfAt.weak {S S' : Addr → Prop} {H : Hp} {p : Addr} {os : List Str} {x : Fx} (w : ∀ b, S b → S' b) (h : NfAt S H p os x) : NfAt S' H p os x := by
  obtain ⟨s', r, rs, ⟨a, b, c⟩, h1, h2, h3, h4⟩ := h
  exact ⟨s', r, rs, ⟨w _ a, w _ b, w _ c⟩, h1, h2, h3, paired_imp (fun _ _ q => ⟨w _ q.1, q.2⟩) h4⟩
theorem NfAt.wr {S : Addr → Prop} {H : Hp} {D : Addr} {o : HO} {p : Addr} {os : List Str} {x : Fx} (w : ∀ b, S b → b ≠ D) (h : NfAt S H p os x) : NfAt S (upd H D o) p os x := by
  obtain ⟨s', r, rs, ⟨a, b, c⟩, h1, h2, h3, h4⟩ := h
  exact ⟨s', r, rs, ⟨a, b, c⟩, by rw [upd_ne (w _ a)]; exact h1, by rw [upd_ne (w _ b)]; exact h2, by rw [upd_ne (w _ c)]; exact h3, paired_imp (fun _ _ q => ⟨q.1, by rw [upd_ne (w _ q.1)]; exact q.2⟩) h4⟩
def spLNormal : Sp := fun vs H Q _ => ∃ o p os pl S, vs = [.ref o, .ref p] ∧ H o = some (.lst (os.map V.str)) ∧ os.length ≤ 1000 ∧ PlAt S H p pl ∧ pl.seen.length ≤ 10000 ∧ (∀ g ∈ pl.gs, g.2.length ≤ 10000) ∧
  ∀ q H', Ex H H' → H q = none → NfAt (fun b => H b = none) H' q os (fxOf pl) → Q (.ref q) H'
theorem ok_lnormal (T : Tx K mg A) : FnOk P w K mg base CX0 2 A.lnormal A.d_lnormal p_lnormal spLNormal := by
  refine T.F_lnormal.ok sc_lnormal (fun vs H Q E h => ?_) (fun cdv Ar outer s H vs Q E hr h => ?_)
  · obtain ⟨o, p, os, pl, S, rfl, _⟩ := h
    rfl
  · obtain ⟨o, p, os, pl, S, rfl, ho, ol, ⟨s0, d, kvs, h0, h1, h2, h3, h4⟩, sl, gl, k⟩ := h
    refine ⟨_, (pss_cons (ps_set (i := 2) sc_lnormal.nd rfl (Or.inl rfl) (pe_call (ok_lsorted T) (hr.mono (by decide)) (by rfl) T.g_lsorted T.F_lsorted.kp T.b_lsorted .nil pass0 (pa_cons (pe_ix ix_list (pv 1) pe_int (fun _ _ => rfl)) pa_nil)))
      (pss_cons (ps_set (i := 3) sc_lnormal.nd rfl (Or.inl rfl) (pe_lst pa_nil))
      (pss_cons (ps_for PassesOwn.never rfl (pi_list (pv 0)) (pg_name (i := 4) sc_lnormal.nd rfl (Or.inl rfl)) (pss_cons (ps_set (i := 5) sc_lnormal.nd rfl (Or.inl rfl) (pe_lst (pa_cons (pv 4) pa_nil)))
        (Evl.pss_cut (ps_if (pt_cmp (pc_din (hu_of hr) (pv 4) (pe_ix ix_list (pv 1) pe_int (fun _ _ => rfl)))) (pss_one (ps_set (i := 5) sc_lnormal.nd rfl (Or.inl rfl) (pe_call (ok_lsorted T) (hr.mono (by decide)) (by rfl) T.g_lsorted T.F_lsorted.kp T.b_lsorted .nil pass0 (pa_cons (pe_dget (hu_of hr) (pe_ix ix_list (pv 1) pe_int (fun _ _ => rfl)) (pv 4) (fun _ _ => rfl)) pa_nil)))) pss_nil)
        (Evl.pss_cut (ps_if (PW.pt (pw_or (pt_cmpR op_in_seq pe_str (pv 5) (by rfl)) (pw_or1 (pt_val (pe_ix ix_list (pv 1) pe_int (fun _ _ => rfl)))))) (pss_one (ps_set (i := 5) sc_lnormal.nd rfl (Or.inl rfl) (pe_lst (pa_cons pe_str pa_nil)))) pss_nil)
        (pss_one (ps_expr (pe_bm PySem.F.plainAttrs_list PySem.F.slot_list_append PySem.F.type_list_append mt_append (pv 3) (pa_cons (pv 5) pa_nil))))))))
      (Evl.pss_cut (ps_if (pt_val (pe_ix ix_list (pv 1) pe_int (fun _ _ => rfl))) (pss_one (ps_set (i := 2) sc_lnormal.nd rfl (Or.inl rfl) (pe_lst pa_nil))) pss_nil)
      (pss_one (ps_ret (pe_lst (pa_cons (pe_ix ix_list (pv 1) pe_int (fun _ _ => rfl)) (pa_cons (pv 2) (pa_cons (pv 3) pa_nil)))))))))), ?_⟩
    refine ⟨_, rfl, p, _, 0, .ref s0, rfl, rfl, SqL.of h1, atI_nat (j := 0) rfl, s0, pl.seen, rfl, h2, sl, fun q0 H1 e1 n0 hq0 => ?_⟩
    refine ⟨by show 0 ≤ sizeLine; decide, fun R hR => ?_⟩
    have e2 := Ex.new (o := .lst []) hR
    let g : Str → List Str := fun o => nrm pl.bad (gOf pl.gs o)
    refine ⟨_, rfl, o, rfl, ⟨_, SqL.of (e2 _ _ (e1 _ _ ho))⟩, for_list (xs := os.map V.str) (fun i σ' H' => (∃ v4 v5, σ' = [some (.ref o), some (.ref p), some (.ref q0), some (.ref R), v4, v5]) ∧ Ex H1 H' ∧ ∃ rs : List Addr, H' R = some (.lst (rs.map V.ref)) ∧ Paired (fun o a => a ≠ R ∧ H a = none ∧ H' a = some (.lst ((g o).map V.str))) (os.take i) rs)
      ⟨⟨_, _, rfl⟩, e2, [], upd_same, .nil⟩ (fun i σ' H' _ z => SqL.of (z.2.1 _ _ (e1 _ _ ho))) ?_ ?_⟩
    · rintro i x σ' H' hi ⟨⟨v4, v5, rfl⟩, e3, rs, hR3, hrs⟩
      rw [List.getElem?_map] at hi
      cases hz : os[i]? with
      | none => rw [hz] at hi; cases hi
      | some z =>
      rw [hz] at hi
      cases hi
      have hlt : i < os.length := (List.getElem?_eq_some_iff.mp hz).1
      have nx : os.take (i + 1) = os.take i ++ [z] := by rw [List.take_add_one, hz]; rfl
      have e13 := e1.trans e3
      refine ⟨_, rfl, sz_of (by show 1 ≤ 100000; decide), fun t0 ht0 => ?_⟩
      have e4 := Ex.new (o := .lst [.str z]) ht0
      refine ⟨fun σ' H4 => ∃ t, σ' = [some (.ref o), some (.ref p), some (.ref q0), some (.ref R), some (.str z), some (.ref t)] ∧ Ex H' H4 ∧ H' t = none ∧ H4 t = some (.lst ((asc (gOf pl.gs z)).map V.str)), ?_, ?_⟩
      · have e14 := e13.trans e4
        refine ⟨_, rfl, _, rfl, p, _, 1, .ref d, rfl, rfl, SqL.of (e14 _ _ h1), atI_nat (j := 1) rfl, d, _, rfl, DGet.k (k := Sum.inr z) (e14 _ _ h3), _, rfl, ?_⟩
        rcases KVl.at (o := z) (h4.mono e14) with ⟨q1, q2⟩ | ⟨t', ts, q1, q2, q3⟩
        · rw [q1]
          refine iteF ⟨t0, rfl, e4, ht0, ?_⟩
          rw [show gOf pl.gs z = [z] from by unfold gOf; rw [q2]; rfl]
          exact upd_same
        · rw [q1]
          have lt : ts.length ≤ 10000 := by
            unfold look at q2
            cases e : pl.gs.find? fun p => decide (p.1 = z) with
            | none => rw [e] at q2; cases q2
            | some g =>
              rw [e] at q2
              cases q2
              exact gl g (List.mem_of_find?_eq_some e)
          refine iteT ⟨_, rfl, p, _, 1, .ref d, rfl, rfl, SqL.of (e14 _ _ h1), atI_nat (j := 1) rfl, _, rfl, d, _, rfl, (by rw [← q1]; exact DGet.k (k := Sum.inr z) (e14 _ _ h3)), t', ts, rfl, q3, lt, fun q H5 e5 n5 hq => ⟨q, rfl, e4.trans e5, fresh_back e4 n5, ?_⟩⟩
          rw [show gOf pl.gs z = ts from by unfold gOf; rw [q2]; rfl]
          exact hq
      rintro _ H4 ⟨t, rfl, e5, nt, ht⟩
      have e15 := e13.trans e5
      refine ⟨fun σ' H6 => ∃ t, σ' = [some (.ref o), some (.ref p), some (.ref q0), some (.ref R), some (.str z), some (.ref t)] ∧ Ex H' H6 ∧ H' t = none ∧ H6 t = some (.lst ((g z).map V.str)), ?_, ?_⟩
      · have dead : (pl.bad = true ∨ dd ∈ gOf pl.gs z) → ∀ u, H4 u = none → ∃ t', [some (V.ref o), some (.ref p), some (.ref q0), some (.ref R), some (.str z), some (.ref u)] = [some (V.ref o), some (.ref p), some (.ref q0), some (.ref R), some (.str z), some (.ref t')] ∧ Ex H' (upd H4 u (.lst [.str dd])) ∧ H' t' = none ∧ upd H4 u (.lst [.str dd]) t' = some (.lst ((g z).map V.str)) := fun h u hu =>
          ⟨u, rfl, e5.trans (Ex.new hu), fresh_back e5 hu, by rw [upd_same, show g z = [dd] from if_pos h]; rfl⟩
        refine ⟨_, rfl, t, _, rfl, .inl (SqL.of ht), rfl, flat_all _, _, rfl, ?_⟩
        show if inV (V.str dd) ((asc (gOf pl.gs z)).map V.str) = true then _ else _
        rw [inV_strs]
        refine ite2 (fun h => ?_) (fun h => ?_)
        · exact ⟨sz_of (by show 1 ≤ 100000; decide), fun u hu => dead (.inr (mem_asc.mp (of_decide_eq_true h))) u hu⟩
        · refine ⟨_, rfl, p, _, 2, .bl pl.bad, rfl, rfl, SqL.of (e15 _ _ h1), atI_nat (j := 2) rfl, pl.bad, rfl, ite2 (fun hb => ?_) (fun hb => ?_)⟩
          · exact ⟨sz_of (by show 1 ≤ 100000; decide), fun u hu => dead (.inl hb) u hu⟩
          · refine ⟨t, rfl, e5, nt, ?_⟩
            rw [show g z = asc (gOf pl.gs z) from if_neg fun q => q.elim hb fun q => h (decide_eq_true (mem_asc.mpr q))]
            exact ht
      rintro _ H6 ⟨t6, rfl, e6, nt6, ht6⟩
      have hR6 := e6 _ _ hR3
      have n6 : t6 ≠ R := fun q => by rw [q, hR3] at nt6; cases nt6
      refine ⟨_, rfl, .inl ⟨rfl, _, SqL.of hR6⟩, _, rfl, R, _, _, rfl, rfl, hR6, ?_, ⟨_, _, rfl⟩, (e3.trans e6).mut hR, rs ++ [t6], ?_, ?_⟩
      · rw [List.length_map]
        have := Paired.length hrs
        rw [List.length_take] at this
        exact sz_lt (by omega)
      · rw [upd_same, List.map_append]
        rfl
      · rw [nx]
        exact Paired.snoc (paired_imp (fun _ a q => ⟨q.1, q.2.1, by rw [upd_ne q.1]; exact e6 _ _ q.2.2⟩) hrs) ⟨n6, fresh_back e13 nt6, by rw [upd_ne n6]; exact ht6⟩
    · rintro σ' H' ⟨⟨v4, v5, rfl⟩, e3, rs, hR3, hrs⟩
      rw [List.length_map, List.take_length] at hrs
      have e13 := e1.trans e3
      refine ⟨fun σ' H4 => ∃ q1, σ' = [some (.ref o), some (.ref p), some (.ref q1), some (.ref R), v4, v5] ∧ Ex H' H4 ∧ H q1 = none ∧ H4 q1 = some (.lst ((if pl.bad = true then [] else asc pl.seen).map V.str)), ?_, ?_⟩
      · refine ⟨_, rfl, p, _, 2, .bl pl.bad, rfl, rfl, SqL.of (e13 _ _ h1), atI_nat (j := 2) rfl, pl.bad, rfl, ite2 (fun hb => ?_) (fun hb => ?_)⟩
        · refine ⟨by show 0 ≤ sizeLine; decide, fun u hu => ⟨u, rfl, Ex.new hu, fresh_back e13 hu, ?_⟩⟩
          rw [if_pos hb]
          exact upd_same
        · refine ⟨q0, rfl, Ex.refl _, n0, ?_⟩
          rw [if_neg hb]
          exact e3 _ _ hq0
      rintro _ H4 ⟨q1, rfl, e4, nq1, hq1⟩
      have e14 := e13.trans e4
      refine ⟨_, rfl, p, _, 2, .bl pl.bad, rfl, rfl, SqL.of (e14 _ _ h1), atI_nat (j := 2) rfl, _, rfl, _, rfl, sz_of (by show 3 ≤ 100000; decide), fun r hr => ?_⟩
      have e5 := Ex.new (o := .lst [.bl pl.bad, .ref q1, .ref R]) hr
      exact k r _ (e14.trans e5) (fresh_back e14 hr) ⟨q1, R, rs, ⟨fresh_back e14 hr, nq1, fresh_back e1 hR⟩, upd_same, e5 _ _ hq1, e5 _ _ (e4 _ _ hR3), paired_imp (fun _ _ q => ⟨q.2.1, e5 _ _ (e4 _ _ q.2.2)⟩) hrs⟩
theorem paired_get {α β : Type} {F : α → β → Prop} : ∀ {xs : List α} {ys : List β} {i : Nat}, Paired F xs ys → (h : i < xs.length) → ∃ b, ys[i]? = some b ∧ F xs[i] b
  | _, _, _, .nil, h => absurd h (Nat.not_lt_zero _)
  | _, _, 0, .cons a _, _ => ⟨_, rfl, a⟩
  | _, _, i + 1, .cons _ t, h => paired_get t (Nat.lt_of_succ_lt_succ h)
def spLIs (K : PySem.W.Frag) (C : Addr) : Sp := fun vs H Q _ => ∃ a o n os U x S, vs = [.ref a, .ref o, .ref n] ∧ EfAt K C H a os x ∧ H o = some (.lst (os.map V.str)) ∧ NfAt S H n os x ∧ Uni os U ∧ Tame os U x ∧ ∀ H', Ex H H' → Q (.bl true) H'
theorem ok_lis (T : Tx K mg A) : FnOk P w K mg base CX0 8 A.lis A.d_lis p_lis (spLIs K A.Effect) := by
  refine T.F_lis.ok sc_lis (fun vs H Q E h => ?_) (fun cdv Ar outer s H vs Q E hr h => ?_)
  · obtain ⟨a, o, n, os, U, x, S, rfl, _⟩ := h
    rfl
  · obtain ⟨a, o, n, os, U, x, S, rfl, ha, ho, hn, u, tx, k⟩ := h
    refine ⟨_, (pss_cons (ps_if (PW.pt (pw_or (pt_not (pt_val (pe_callB call_isi (by rfl) T.m_isinstance (by decide +kernel) (pa_cons (pv 0) (pa_cons (pe_glob (v := .ref A.Effect) (by rfl) T.g_Effect rfl) pa_nil))))) (pw_or (pt_not (pt_val (pe_callB call_isi (by rfl) T.m_isinstance (by decide +kernel) (pa_cons (pe_fld (pv 0) rfl) (pa_cons (pe_bltn (v := .ty "tuple") (u := .type "tuple") (by rfl) T.m_tuple (by decide +kernel) rfl) pa_nil))))) (pw_or1 (pt_cmpR (op_neD hr.units) (pe_callTy call_list_of (by rfl) T.m_list (by decide +kernel) (pa_cons (pe_fld (pv 0) rfl) pa_nil)) (pv 1) (nomark _)))))) (pss_one (ps_ret pe_bl)) pss_nil)
      (pss_cons (ps_if (PW.pt (pw_or (pt_not (pt_val (pe_callB call_isi (by rfl) T.m_isinstance (by decide +kernel) (pa_cons (pe_fld (pv 0) rfl) (pa_cons (pe_bltn (v := .ty "bool") (u := .type "bool") (by rfl) T.m_bool (by decide +kernel) rfl) pa_nil))))) (pw_or1 (pt_cmpR op_ne (pe_fld (pv 0) rfl) (pe_ix ix_list (pv 2) pe_int (fun _ _ => rfl)) (nomark _))))) (pss_one (ps_ret pe_bl)) pss_nil)
      (pss_cons (ps_if (PW.pt (pw_or (pt_not (pt_val (pe_callB call_isi (by rfl) T.m_isinstance (by decide +kernel) (pa_cons (pe_prop (pv 0) T.cl_Effect T.r_ef_looks (ok_ef_looks T) (hr.mono (by decide)) T.b_ef_looks .nil pass0 (by rfl)) (pa_cons (pe_bltn (v := .ty "tuple") (u := .type "tuple") (by rfl) T.m_tuple (by decide +kernel) rfl) pa_nil))))) (pw_or1 (pt_cmpR (op_neD hr.units) (pe_callTy call_list_of (by rfl) T.m_list (by decide +kernel) (pa_cons (pe_prop (pv 0) T.cl_Effect T.r_ef_looks (ok_ef_looks T) (hr.mono (by decide)) T.b_ef_looks .nil pass0 (by rfl)) pa_nil)) (pe_ix ix_list (pv 2) pe_int (fun _ _ => rfl)) (nomark _))))) (pss_one (ps_ret pe_bl)) pss_nil)
      (pss_cons (ps_for PassesOwn.never rfl (pi_range1 (by rfl) T.m_range (pa_cons (pe_callB call_len_seq (by rfl) T.m_len PySem.boot_len (pa_cons (pv 1) pa_nil)) pa_nil)) (pg_name (i := 3) sc_lis.nd rfl (Or.inl rfl)) (pss_cons (ps_set (i := 4) sc_lis.nd rfl (Or.inl rfl) (pe_meth (pv 0) T.cl_Effect T.e_ef_gives (ok_ef_gives T) (hr.mono (by decide)) T.b_ef_gives .nil passL (pa_cons (pe_ix ix_list (pv 1) (pv 3) (fun _ _ => rfl)) pa_nil)))
        (pss_one (ps_if (PW.pt (pw_or (pt_not (pt_val (pe_callB call_isi (by rfl) T.m_isinstance (by decide +kernel) (pa_cons (pv 4) (pa_cons (pe_bltn (v := .ty "tuple") (u := .type "tuple") (by rfl) T.m_tuple (by decide +kernel) rfl) pa_nil))))) (pw_or1 (pt_cmpR (op_neD hr.units) (pe_callTy call_list_of (by rfl) T.m_list (by decide +kernel) (pa_cons (pv 4) pa_nil)) (pe_ix ix_list (pe_ix ix_list (pv 2) pe_int (fun _ _ => rfl)) (pv 3) (fun _ _ => rfl)) (nomark _))))) (pss_one (ps_ret pe_bl)) pss_nil))))
      (pss_one (ps_ret pe_bl)))))), ?_⟩
    obtain ⟨dx, to, tl, dg, ws, h1, h2, h3, h4, h5⟩ := id ha
    obtain ⟨ns, nr, rs, n0, n1, n2, n3, n4⟩ := hn
    have okO := u.okO
    have okS' : OkT x.seen := fun z hz => okO z (tx.nm.so z hz)
    have okG : ∀ o ∈ os, OkT (x.g o) := fun o ho z hz => u.ok z (tx.w o ho z hz)
    have ol := u.olen
    -- of its class, the outs a tuple of the same
    refine ⟨_, rfl, .ref a, _, _, _, true, rfl, .own A.Effect, tyx_ins h1 T.cl_Effect T.ty_Effect, T.ke_own, true, rfl, iteF ?_⟩
    refine ⟨_, rfl, a, _, dx, _, _, rfl, h1, T.cl_Effect, T.na_Effect_outs, rfl, .ref to, _, _, _, true, rfl, .ty "tuple", sqT_ty h2, kit_ty (r := true) (by decide +kernel), true, rfl, iteF ?_⟩
    refine ⟨_, rfl, a, _, dx, _, _, rfl, h1, T.cl_Effect, T.na_Effect_outs, rfl, to, _, rfl, .inr h2, fun l1 hl1 => ?_⟩
    have e1 := Ex.new (o := .lst (os.map V.str)) hl1
    refine ⟨_, rfl, _, _, .lst (SqL.of upd_same) (dp_strs os), .lst (SqL.of (e1 _ _ ho)) (dp_strs os), shaped_lstS okO, shaped_lstS okO, _, rfl, ?_⟩
    rw [eqv_lstS, decide_eq_true rfl]
    refine iteF ?_
    revert e1
    generalize upd H l1 (.lst (os.map V.str)) = H1
    intro e1
    -- faulty
    refine ⟨_, rfl, a, _, dx, _, _, rfl, e1 _ _ h1, T.cl_Effect, T.na_Effect_faulty, rfl, .bl x.bad, _, _, _, true, rfl, .ty "bool", .base (.bl x.bad), kit_ty (r := true) (by decide +kernel), true, rfl, iteF ?_⟩
    refine ⟨_, rfl, a, _, dx, _, _, rfl, e1 _ _ h1, T.cl_Effect, T.na_Effect_faulty, rfl, _, rfl, n, _, 0, .bl x.bad, rfl, rfl, SqL.of (e1 _ _ n1), atI_nat (j := 0) rfl, rfl, _, rfl, ?_⟩
    rw [decide_eq_true (show V.bl x.bad = V.bl x.bad from rfl)]
    refine iteF ?_
    -- the looks
    refine ⟨_, rfl, a, dx, _, rfl, e1 _ _ h1, a, os, x, rfl, ha.mono e1, fun t1 ht1 => ?_⟩
    refine ⟨.ref t1, _, _, _, true, rfl, .ty "tuple", sqT_ty ht1, kit_ty (r := true) (by decide +kernel), true, rfl, iteF ?_⟩
    refine ⟨_, rfl, a, dx, _, rfl, e1 _ _ h1, a, os, x, rfl, ha.mono e1, fun t2 ht2 => ?_⟩
    refine ⟨t2, _, rfl, .inr ht2, fun l2 hl2 => ?_⟩
    have e2 := Ex.new (o := .lst (x.seen.map V.str)) hl2
    have e12 := e1.trans e2
    refine ⟨_, rfl, n, _, 1, .ref ns, rfl, rfl, SqL.of (e12 _ _ n1), atI_nat (j := 1) rfl, _, _, .lst (SqL.of upd_same) (dp_strs x.seen), .lst (SqL.of (e12 _ _ n2)) (dp_strs x.seen), shaped_lstS okS', shaped_lstS okS', _, rfl, ?_⟩
    rw [eqv_lstS, decide_eq_true rfl]
    refine iteF ?_
    revert e2 e12
    generalize upd H1 l2 (.lst (x.seen.map V.str)) = H2
    intro e2 e12
    -- what each out gives
    refine ⟨_, rfl, o, _, rfl, .inl (SqL.of (e12 _ _ ho)), ?_⟩
    rw [List.length_map]
    refine ⟨(os.length : Int), rfl, forR1 ⟨by omega, by omega⟩ (fun i σ' H' => (∃ v3 v4, σ' = [some (.ref a), some (.ref o), some (.ref n), v3, v4]) ∧ Ex H2 H') ⟨⟨_, _, rfl⟩, Ex.refl _⟩ ?_ ?_⟩
    · rintro i σ' H' hi ⟨⟨v3, v4, rfl⟩, e3⟩
      have hlt : i < os.length := by omega
      have e13 := e12.trans e3
      have hio : os[i] ∈ os := List.getElem_mem hlt
      refine ⟨_, rfl, a, dx, _, rfl, e13 _ _ h1, rfl, _, rfl, _, rfl, o, _, (i : Int), .str os[i], rfl, rfl, SqL.of (e13 _ _ ho), atI_nat (by rw [List.getElem?_map, List.getElem?_eq_getElem hlt]; rfl), ?_⟩
      refine ⟨a, .str os[i], os, x, rfl, ha.mono e13, rfl, fun z ez hz t ht => ?_, fun h => absurd hio (h _ rfl)⟩
      cases ez
      refine ⟨_, rfl, .ref t, _, _, _, true, rfl, .ty "tuple", sqT_ty ht, kit_ty (r := true) (by decide +kernel), true, rfl, iteF ?_⟩
      refine ⟨_, rfl, t, _, rfl, .inr ht, fun l3 hl3 => ?_⟩
      have e4 := Ex.new (o := .lst ((x.g os[i]).map V.str)) hl3
      have e14 := e13.trans e4
      obtain ⟨ra, hra, _, hrl⟩ := paired_get n4 hlt
      refine ⟨_, rfl, n, _, 2, .ref nr, rfl, rfl, SqL.of (e14 _ _ n1), atI_nat (j := 2) rfl, _, rfl, nr, _, (i : Int), .ref ra, rfl, rfl, SqL.of (e14 _ _ n3), atI_nat (by rw [List.getElem?_map, hra]; rfl), ?_⟩
      refine ⟨_, _, .lst (SqL.of upd_same) (dp_strs (x.g os[i])), .lst (SqL.of (e14 _ _ hrl)) (dp_strs (x.g os[i])), shaped_lstS (okG _ hio), shaped_lstS (okG _ hio), _, rfl, ?_⟩
      rw [eqv_lstS, decide_eq_true rfl]
      exact iteF ⟨⟨_, _, rfl⟩, e3.trans e4⟩
    · rintro σ' H' ⟨⟨v3, v4, rfl⟩, e3⟩
      exact k H' (e12.trans e3)
def spLRefused (K : PySem.W.Frag) : Sp := fun vs H Q _ => ∃ vo vl vg bad os ls gs z, vs = [vo, vl, vg, .bl bad] ∧ SqX K H vo os ∧ SqX K H vl ls ∧ GiveD K H vg gs ∧ os.Nodup ∧ os.length ≤ 1000 ∧ ls.length ≤ 4000 ∧ gs.length ≤ 4000 ∧ (∀ g ∈ gs, g.2.length ≤ 4000) ∧
  unk os (ls ++ gs.map (·.1)) = some z ∧ ∀ p H', Ex H H' → H' p = some (.lst [.str z]) → Q (.ref p) H'
theorem ok_lrefused (T : Tx K mg A) : FnOk P w K mg base CX0 12 A.lrefused A.d_lrefused p_lrefused (spLRefused K) := by
  refine T.F_lrefused.ok sc_lrefused (fun vs H Q E h => ?_) (fun cdv Ar outer s H vs Q E hr h => ?_)
  · obtain ⟨vo, vl, vg, bad, os, ls, gs, z, rfl, _⟩ := h
    rfl
  · obtain ⟨vo, vl, vg, bad, os, ls, gs, z, rfl, ho, hl, hg, nd, z1, z2, z3, z4, hz, k⟩ := h
    obtain ⟨mv, kb_ef_init_1⟩ := T.F_ef_init.kbinds0 (ps := p_ef_init) 2 ["looks", "gives", "faulty"] [] (fun us _ ws => us ++ ws) (by simp) (fun q h => (nomatch h)) (fun a _ c => a.append c) (fun D doc pm an cdv ct us mv ws h1 h2 h3 => by
      match us, h1, mv, h2, ws, h3 with
      | [_, _], _, [], _, [_, _, _], _ => exact rfl)
    refine ⟨_, (pss_cons (ps_set (i := 4) sc_lrefused.nd rfl (Or.inl rfl) (pe_lst pa_nil))
      (pss_cons (ps_try_as (i := 5) rfl rfl sc_lrefused.nd rfl rfl ⟨rfl, by decide, Or.inl T.g_UnknownName⟩ takes0 (fun W pn xe tk _ => (pss_one (ps_expr (UL.pe_makeS (n := 1) (E := WE W) T.mk_Effect (ok_ef_init T) (hr.mono (by decide)) (by rfl) T.g_Effect kb_ef_init_1 (fun σ => passAt tk σ) (pa_cons (pv 0) pa_nil) (pk_cons (pv 1) (pk_cons (pv 2) (pk_cons (pv 3) pk_nil))))))) (fun a oe cls d pn hz hf => (pss_one (ps_set (i := 4) sc_lrefused.nd rfl (Or.inl rfl) (pe_lst (pa_cons (pe_xf T.ex_UnknownName.xf T.ex_UnknownName.nw hz hf (pv 5)) pa_nil))))))
      (pss_one (ps_ret (pv 4))))), ?_⟩
    refine ⟨by show 0 ≤ sizeLine; decide, fun p hp => ?_⟩
    have e1 := Ex.new (o := .lst []) hp
    refine ⟨_, rfl, _, rfl, _, rfl, _, rfl, rfl, rfl, fun q dz hq hdz nz => ?_⟩
    have em := made_in (C := A.Effect) hq hdz
    refine ⟨q, dz, vo, vl, vg, bad, os, ls, gs, rfl, upd_same, ho.mono (e1.trans em), hl.mono (e1.trans em), .inr (hg.mono (e1.trans em)), nd, z1, z2, z3, z4, (fun h => by rw [hz] at h; cases h), fun z' hz' d H2 e2 hd => ?_⟩
    rw [hz] at hz'
    cases hz'
    refine ⟨true, T.te_uu, fun _ z0 hz0 => ?_, fun q => Bool.noConfusion q⟩
    refine ⟨_, rfl, rfl, rfl, d, _, .str z, rfl, hd, rfl, sz_of (by show 1 ≤ 100000; decide), fun t ht => ?_⟩
    exact ⟨_, rfl, k t _ ((e1.trans (made_ex hq hdz e2)).trans (Ex.new ht)) upd_same⟩
def spLNoOut (K : PySem.W.Frag) (C : Addr) : Sp := fun vs H Q _ => ∃ a v os x, vs = [.ref a, v] ∧ EfAt K C H a os x ∧ flatV v = true ∧ (∀ z, v = .str z → z ∉ os) ∧ (∃ dv, (∀ H', Dp K H' v dv) ∧ SeqAt.shaped (.list [dv]) = true ∧ PyData.eqv dv dv = true) ∧ ∀ H', Ex H H' → Q (.bl true) H'
theorem ok_lno_out (T : Tx K mg A) : FnOk P w K mg base CX0 12 A.lno_out A.d_lno_out p_lno_out (spLNoOut K A.Effect) := by
  refine T.F_lno_out.ok sc_lno_out (fun vs H Q E h => ?_) (fun cdv Ar outer s H vs Q E hr h => ?_)
  · obtain ⟨a, v, os, x, rfl, _⟩ := h
    rfl
  · obtain ⟨a, v, os, x, rfl, ha, hf, hn, hv, k⟩ := h
    obtain ⟨dx, to, tl, dg, ws, h1, h2, h3, h4, h5⟩ := id ha
    refine ⟨_, (pss_cons (ps_set (i := 2) sc_lno_out.nd rfl (Or.inl rfl) (pe_lst pa_nil))
      (pss_cons (ps_try_as (i := 3) rfl rfl sc_lno_out.nd rfl rfl ⟨rfl, by decide, Or.inl T.g_UnknownName⟩ takes0 (fun W pn xe tk _ => (pss_one (ps_expr (UL.pe_methT (E := WE W) (pv 0) T.cl_Effect T.e_ef_gives (ok_ef_gives T) (hr.mono (by decide)) T.b_ef_gives (fun σ => passAt tk σ) (pa_cons (pv 1) pa_nil))))) (fun a oe cls d pn hz hf => (pss_one (ps_set (i := 2) sc_lno_out.nd rfl (Or.inl rfl) (pe_lst (pa_cons (pe_xf T.ex_UnknownName.xf T.ex_UnknownName.nw hz hf (pv 3)) pa_nil))))))
      (pss_one (ps_ret (pe_cmpR (op_eqD hr.units) (pv 2) (pe_lst (pa_cons (pv 1) pa_nil)) (nomark _)))))), ?_⟩
    obtain ⟨dv, hv1, hv2, hv3⟩ := hv
    refine ⟨by show 0 ≤ sizeLine; decide, fun p hp => ?_⟩
    have e1 := Ex.new (o := .lst []) hp
    refine ⟨_, rfl, a, dx, _, rfl, e1 _ _ h1, rfl, _, rfl, a, v, os, x, rfl, ha.mono e1, hf, fun z ez hz t ht => absurd hz (hn z ez), fun _ d H2 e2 hd => ?_⟩
    refine ⟨true, T.te_uu, fun _ z0 hz0 => ?_, fun q => Bool.noConfusion q⟩
    refine ⟨_, rfl, rfl, rfl, d, _, v, rfl, hd, rfl, sz_of (by show 1 ≤ 100000; decide), fun t ht => ?_⟩
    have e3 := Ex.new (o := .lst [v]) ht
    refine ⟨_, rfl, _, rfl, sz_of (by show 1 ≤ 100000; decide), fun l hl' => ?_⟩
    have e4 := Ex.new (o := .lst [v]) hl'
    refine ⟨.list [dv], .list [dv], .lst (SqL.of (e4 _ _ upd_same)) (.cons (hv1 _) .nil), .lst (SqL.of upd_same) (.cons (hv1 _) .nil), hv2, hv2, ?_⟩
    rw [show PyData.eqv (.list [dv]) (.list [dv]) = true by show (PyData.eqv dv dv && true) = true; rw [hv3]; rfl]
    exact k _ (((e1.trans e2).trans e3).trans e4)
end
end K61

set_option Elab.async false
set_option linter.all false
set_option maxRecDepth 100000
namespace K61
open PySem PySem.Spec PyProof.Rows L2 Evl TL UL StX
section
variable {P : Program} {w : World} {K : PySem.W.Frag} {mg : Str → Option Value} {base : Heap} {A : Adr}
/-! ### normal forms as data -/
def rowsD (os : List Str) (x : Fx) : List PyData := os.map fun o => .list ((x.g o).map PyData.str)
def nfD (os : List Str) (x : Fx) : PyData := .list [.bool x.bad, .list (x.seen.map PyData.str), .list (rowsD os x)]
theorem dp_rows {S : Addr → Prop} {K : PySem.W.Frag} {H : Hp} {x : Fx} : ∀ {os : List Str} {rs : List Addr}, Paired (fun o a => S a ∧ H a = some (.lst ((x.g o).map V.str))) os rs → DpAll K H (rs.map V.ref) (rowsD os x)
  | _, _, .nil => .nil
  | _, _, .cons a t => .cons (.lst (SqL.of a.2) (dp_strs _)) (dp_rows t)
theorem dp_nf {S : Addr → Prop} {K : PySem.W.Frag} {H : Hp} {p : Addr} {os : List Str} {x : Fx} (h : NfAt S H p os x) : Dp K H (.ref p) (nfD os x) := by
  obtain ⟨s, r, rs, h0, h1, h2, h3, h4⟩ := h
  exact .lst (SqL.of h1) (.cons (.bl _) (.cons (.lst (SqL.of h2) (dp_strs _)) (.cons (.lst (SqL.of h3) (dp_rows h4)) .nil)))
theorem lay_rows {x : Fx} : ∀ {os : List Str}, (∀ o ∈ os, OkT (x.g o)) → PyData.canLayAll0 (rowsD os x) = true ∧ PyData.depthAll (rowsD os x) ≤ 3
  | [], _ => ⟨rfl, by show PyData.depthAll [] ≤ 3; simp [PyData.depthAll]⟩
  | o :: os, h => by
    obtain ⟨h1, h2⟩ := lay_rows fun o ho => h o (List.mem_cons_of_mem _ ho)
    obtain ⟨h3, h4⟩ := lay_strs (x.g o) (h o List.mem_cons_self)
    refine ⟨?_, ?_⟩
    · show (PyData.canLay0 (.list ((x.g o).map PyData.str)) && PyData.canLayAll0 (rowsD os x)) = true
      rw [h1, show PyData.canLay0 (.list ((x.g o).map PyData.str)) = true by unfold PyData.canLay0; exact h3]
      rfl
    · show PyData.depthAll (.list ((x.g o).map PyData.str) :: rowsD os x) ≤ 3
      simp only [PyData.depthAll, PyData.depth]
      omega
theorem shaped_nf {os : List Str} {x : Fx} (h1 : OkT x.seen) (h2 : ∀ o ∈ os, OkT (x.g o)) : SeqAt.shaped (nfD os x) = true := by
  obtain ⟨a1, a2⟩ := lay_rows h2
  obtain ⟨b1, b2⟩ := lay_strs x.seen h1
  unfold SeqAt.shaped nfD
  have c1 : PyData.canLay0 (.list (x.seen.map PyData.str)) = true := by unfold PyData.canLay0; exact b1
  have c2 : PyData.canLay0 (.list (rowsD os x)) = true := by unfold PyData.canLay0; exact a1
  have c : PyData.canLay0 (.list [.bool x.bad, .list (x.seen.map PyData.str), .list (rowsD os x)]) = true := by
    unfold PyData.canLay0
    show (PyData.canLay0 (.bool x.bad) && (PyData.canLay0 (.list (x.seen.map PyData.str)) && (PyData.canLay0 (.list (rowsD os x)) && true))) = true
    rw [c1, c2]
    rfl
  rw [c, Bool.true_and]
  refine decide_eq_true ?_
  simp only [PyData.depth, PyData.depthAll]
  omega
theorem eqv_rows {x y : Fx} : ∀ os : List Str, PyData.eqvAll (rowsD os x) (rowsD os y) = os.all fun o => decide (x.g o = y.g o)
  | [] => rfl
  | o :: os => by
    show (PyData.eqv (.list ((x.g o).map PyData.str)) (.list ((y.g o).map PyData.str)) && PyData.eqvAll (rowsD os x) (rowsD os y)) = _
    rw [eqv_rows os, eqv_lstS, List.all_cons]
theorem eqv_nf {os : List Str} {x y : Fx} : PyData.eqv (nfD os x) (nfD os y) = sameB os os x y := by
  unfold nfD sameB
  show (PyData.eqv (.bool x.bad) (.bool y.bad) && (PyData.eqv (.list (x.seen.map PyData.str)) (.list (y.seen.map PyData.str)) && (PyData.eqvAll (rowsD os x) (rowsD os y) && true))) = _
  rw [eqv_rows, eqv_lstS, show PyData.eqv (.bool x.bad) (.bool y.bad) = decide (x.bad = y.bad) by unfold PyData.eqv; cases x.bad <;> cases y.bad <;> rfl, decide_eq_true (rfl : os = os), Bool.and_true, Bool.true_and]
theorem tame_ok {os U : List Str} {x : Fx} (u : Uni os U) (t : Tame os U x) : OkT x.seen ∧ ∀ o ∈ os, OkT (x.g o) := ⟨fun z hz => u.okO z (t.nm.so z hz), fun o ho z hz => u.ok z (t.w o ho z hz)⟩
theorem EfS.putL {S : Addr → Prop} {K : PySem.W.Frag} {C D : Addr} {H : Hp} {a : Addr} {os : List Str} {x : Fx} {xs ys : List V} (hD : H D = some (.lst xs)) (h : EfS S K C H a os x) : EfS S K C (upd H D (.lst ys)) a os x := by
  obtain ⟨dx, to, tl, dg, ws, h0, h1, h2, h3, h4, h5⟩ := h
  refine ⟨dx, to, tl, dg, ws, h0, by rw [upd_ne (ne_of h1 hD (by intro z; cases z))]; exact h1, sqT_putL hD h2, sqT_putL hD h3, by rw [upd_ne (ne_of h4 hD (by intro z; cases z))]; exact h4, paired_imp (fun _ _ ⟨t, q1, q2⟩ => ⟨t, q1, sqT_putL hD q2⟩) h5⟩
theorem sqT_putD {K : PySem.W.Frag} {H : Hp} {D t : Addr} {ks ks' : List (Key × V)} {xs : List V} (hD : H D = some (.dK ks)) (h : SqT K H t xs) : SqT K (upd H D (.dK ks')) t xs := by
  rcases h with (h | ⟨u, h⟩) | h
  · exact .inl (.inl (by rw [upd_ne (ne_of h hD (by intro z; cases z))]; exact h))
  · exact .inl (.inr ⟨u, by rw [upd_ne (ne_of h hD (by intro z; cases z))]; exact h⟩)
  · exact .inr h
theorem EfS.putD {S : Addr → Prop} {K : PySem.W.Frag} {C D : Addr} {H : Hp} {a : Addr} {os : List Str} {x : Fx} {ks ks' : List (Key × V)} (hD : H D = some (.dK ks)) (ns : ¬ S D) (h : EfS S K C H a os x) : EfS S K C (upd H D (.dK ks')) a os x := by
  obtain ⟨dx, to, tl, dg, ws, h0, h1, h2, h3, h4, h5⟩ := h
  have ne : dg ≠ D := fun z => ns (z ▸ h0)
  refine ⟨dx, to, tl, dg, ws, h0, by rw [upd_ne (ne_of h1 hD (by intro z; cases z))]; exact h1, sqT_putD hD h2, sqT_putD hD h3, by rw [upd_ne ne]; exact h4, paired_imp (fun _ _ ⟨t, q1, q2⟩ => ⟨t, q1, sqT_putD hD q2⟩) h5⟩
theorem EfS.mono {S : Addr → Prop} {K : PySem.W.Frag} {C : Addr} {H H' : Hp} {a : Addr} {os : List Str} {x : Fx} (e : Ex H H') (h : EfS S K C H a os x) : EfS S K C H' a os x := by
  obtain ⟨dx, to, tl, dg, ws, h0, h1, h2, h3, h4, h5⟩ := h
  exact ⟨dx, to, tl, dg, ws, h0, e _ _ h1, ex_t e h2, ex_t e h3, e _ _ h4, paired_imp (fun _ _ q => q.mono e) h5⟩
theorem look_mem {g : Str × List Str} : ∀ {gs : Gs}, (gs.map (·.1)).Nodup → g ∈ gs → look gs g.1 = some g.2
  | h :: gs, nd, hm => by
    rw [look_cons]
    rcases List.mem_cons.mp hm with rfl | hm
    · rw [if_pos rfl]
    · rw [List.map_cons, List.nodup_cons] at nd
      rw [if_neg fun z => nd.1 (by rw [z]; exact List.mem_map.mpr ⟨g, hm, rfl⟩)]
      exact look_mem nd.2 hm
theorem deq_kvl {S S' : Addr → Prop} {K : PySem.W.Frag} {H : Hp} {gs0 : Gs} {kvs0 : List (Key × V)} (h0 : KVl S H kvs0 gs0) (nd : (gs0.map (·.1)).Nodup) (k0 : ∀ g ∈ gs0, OkT g.2) : ∀ {kvs : List (Key × V)} {gs : Gs}, KVl S' H kvs gs → (∀ g ∈ gs, g ∈ gs0) → DEq K H kvs0 kvs true
  | _, _, .nil, _ => .nil
  | kv :: kvs, g :: gs, .cons ⟨e1, t, _, e2, e3⟩ r, hm => by
    have hg := hm g List.mem_cons_self
    rcases KVl.at (o := g.1) h0 with ⟨_, q2⟩ | ⟨t', ts, q1, q2, q3⟩
    · rw [look_mem nd hg] at q2
      cases q2
    · rw [look_mem nd hg] at q2
      cases q2
      have := DEq.cons (K := K) (k := kv.1) (x := kv.2) (by rw [e1]; exact q1) (e2 ▸ Dp.lst (SqL.of e3) (dp_strs g.2)) (Dp.lst (SqL.of q3) (dp_strs g.2)) (shaped_lstS (k0 g hg)) (shaped_lstS (k0 g hg)) (deq_kvl h0 nd k0 r fun g hg => hm g (List.mem_cons_of_mem _ hg))
      rw [eqv_lstS, decide_eq_true rfl, Bool.true_and] at this
      exact this
theorem KVl.keysV {S : Addr → Prop} {H : Hp} : ∀ {kvs : List (Key × V)} {gs : Gs}, KVl S H kvs gs → kvs.map (fun kv => kV kv.1) = (gs.map (·.1)).map V.str
  | _, _, .nil => rfl
  | kv :: kvs, g :: gs, .cons ⟨h1, _⟩ t => by
    rw [List.map_cons, List.map_cons, List.map_cons, KVl.keysV t, h1]
    rfl
theorem unk_first {os ls : List Str} {z : Str} {rs : List Str} (h : ∀ y ∈ ls, y ∈ os) (hz : z ∉ os) : unk os (ls ++ z :: rs) = some z := by
  unfold unk
  rw [List.find?_append, List.find?_eq_none.mpr fun y hy => by simpa using h y hy, List.find?_cons, decide_eq_true hz]
  rfl
theorem sameB_comm {os : List Str} {x y : Fx} : sameB os os x y = sameB os os y x := by
  cases h : sameB os os y x with
  | true => exact sameB_t (sameB_iff.mp h).symm
  | false => exact Bool.eq_false_iff.mpr fun q => Bool.eq_false_iff.mp h (sameB_t (sameB_iff.mp q).symm)
/-- the values are lists that may grow -/
def Grow (S : Addr → Prop) (b : Nat) (H : Hp) (kvs : List (Key × V)) : Prop := ∀ kv ∈ kvs, ∃ t xs, kv.2 = .ref t ∧ S t ∧ H t = some (.lst xs) ∧ xs.length ≤ b
theorem KVl.grow {S : Addr → Prop} {H : Hp} {b : Nat} : ∀ {kvs : List (Key × V)} {gs : Gs}, KVl S H kvs gs → (∀ g ∈ gs, g.2.length ≤ b) → Grow S b H kvs
  | _, _, .nil, _ => fun _ h => (nomatch h)
  | kv :: kvs, g :: gs, .cons ⟨h1, t, h2, h3, h4⟩ r, hb => fun z hz => by
    rcases List.mem_cons.mp hz with rfl | hz
    · exact ⟨t, _, h3, h2, h4, by rw [List.length_map]; exact hb g List.mem_cons_self⟩
    · exact KVl.grow r (fun g hg => hb g (List.mem_cons_of_mem _ hg)) z hz
theorem valV_mem {k : Key} {v : V} : ∀ {kvs : List (Key × V)}, valV kvs k = some v → ∃ kv ∈ kvs, kv.2 = v
  | kv :: kvs, h => by
    by_cases e : kv.1 = k
    · rw [valV_pos e] at h
      cases h
      exact ⟨kv, List.mem_cons_self, rfl⟩
    · rw [valV_neg e] at h
      obtain ⟨q, h1, h2⟩ := valV_mem h
      exact ⟨q, List.mem_cons_of_mem _ h1, h2⟩
theorem KVl.has {S : Addr → Prop} {H : Hp} {z : Str} {kvs : List (Key × V)} {gs : Gs} (h : KVl S H kvs gs) (hz : z ∈ gs.map (·.1)) : ∃ v, valV kvs (Sum.inr z) = some v := by
  rcases KVl.at (o := z) h with ⟨_, q2⟩ | ⟨t, ts, q1, _, _⟩
  · obtain ⟨g, hg, rfl⟩ := List.mem_map.mp hz
    unfold look at q2
    have := List.find?_eq_none.mp (Option.map_eq_none_iff.mp q2) g hg
    simp at this
  · exact ⟨_, q1⟩
theorem Grow.app {S : Addr → Prop} {b b' : Nat} {H : Hp} {kvs : List (Key × V)} {t0 : Addr} {xs0 : List V} {v : V} (h : Grow S b H kvs) (ht : H t0 = some (.lst xs0)) (hb : b ≤ b') (hl : xs0.length + 1 ≤ b') : Grow S b' (upd H t0 (.lst (xs0 ++ [v]))) kvs := fun kv hkv => by
  obtain ⟨t, xs, e, s, h1, h2⟩ := h kv hkv
  by_cases q : t = t0
  · subst q
    exact ⟨t, xs0 ++ [v], e, s, upd_same, by rw [List.length_append]; exact hl⟩
  · exact ⟨t, xs, e, s, by rw [upd_ne q]; exact h1, by omega⟩
theorem do_eqS {K : PySem.W.Frag} {C a b : Addr} {H : Hp} {os os' : List Str} {x y : Fx} {Q : VK} (ha : EfAt K C H a os x) (hb : EfAt K C H b os' y) (o1 : OkT os) (x1 : OkT x.seen ∧ ∀ o ∈ os, OkT (x.g o)) (o2 : OkT os') (y1 : OkT y.seen ∧ ∀ o ∈ os', OkT (y.g o)) (k : Q (.bl (sameB os os' x y)) H) :
    rOwnEq K C (spEfEq K C) E0 (.ref a) (.ref b) H Q := by
  obtain ⟨dx, to, tl, dg, ws, h1, h2, h3, h4, h5⟩ := id ha
  obtain ⟨dx', to', tl', dg', ws', g1, g2, g3, g4, g5⟩ := id hb
  exact ⟨a, dx, _, rfl, h1, .inl ⟨b, dx', _, rfl, g1⟩, a, .ref b, os, x, rfl, ha, o1, x1.1, x1.2, .inl ⟨b, os', y, rfl, hb, o2, y1.1, y1.2, ⟨_, rfl⟩, k⟩⟩
theorem do_eqZ {K : PySem.W.Frag} {C a : Addr} {H : Hp} {os : List Str} {x : Fx} {Q : VK} {t : Str} (hs : PySem.W.subIn K (.type "str") (.ref C) = some false) (ha : EfAt K C H a os x) (o1 : OkT os) (x1 : OkT x.seen ∧ ∀ o ∈ os, OkT (x.g o)) (k : Q (.bl false) H) :
    rOwnEq K C (spEfEq K C) E0 (.ref a) (.str t) H Q := by
  obtain ⟨dx, to, tl, dg, ws, h1, h2, h3, h4, h5⟩ := id ha
  exact ⟨a, dx, _, rfl, h1, .inr (.inl ⟨t, rfl, hs⟩), a, .str t, os, x, rfl, ha, o1, x1.1, x1.2, .inr ⟨t, rfl, ⟨_, rfl⟩, k⟩⟩
theorem ok_empty {os : List Str} (h : OkT os) : OkT empty.seen ∧ ∀ o ∈ os, OkT (empty.g o) := by
  refine ⟨fun z hz => (nomatch (show z ∈ ([] : List Str) from hz)), fun o ho z hz => ?_⟩
  rcases mem_nrm.mp (show z ∈ nrm false [o] from hz) with ⟨rfl, _⟩ | ⟨_, _, q⟩
  · exact (by decide +kernel : PyData.strOk dd = true)
  · rw [List.mem_singleton.mp q]
    exact h o ho
theorem sameB_ne {os os' : List Str} {x y : Fx} (h : os ≠ os') : sameB os os' x y = false := by
  unfold sameB
  rw [decide_eq_false h]
  rfl
theorem KVl.sqx {K : PySem.W.Frag} {S : Addr → Prop} {H : Hp} {d : Addr} {kvs : List (Key × V)} {gs : Gs} (hd : H d = some (.dK kvs)) (h : KVl S H kvs gs) : GiveD K H (.ref d) gs := ⟨d, kvs, rfl, hd, h.kvs⟩
set_option maxHeartbeats 6400000
theorem cut_to (xs : List V) (n : Nat) : cutV xs none (some (n : Int)) = xs.take n := by
  unfold cutV
  rw [HT.sIx_none, HT.sIx_nat, List.drop_zero, Nat.sub_zero]
  by_cases h : n ≤ xs.length
  · rw [Nat.min_eq_left h]
  · rw [Nat.min_eq_right (by omega), List.take_of_length_le (by omega), List.take_of_length_le (by omega)]
theorem rot_nodup {os : List Str} (nd : os.Nodup) : (os.drop 1 ++ os.take 1).Nodup := by
  have := nd
  rw [← List.take_append_drop 1 os] at this
  exact (List.perm_append_comm.nodup_iff).mp this
theorem rot_ne {os : List Str} (nd : os.Nodup) (h : 1 < os.length) : os ≠ os.drop 1 ++ os.take 1 := by
  match os, nd, h with
  | a :: b :: r, nd, _ =>
    intro e
    have e : a :: b :: r = (b :: r) ++ [a] := e
    have : a = b := (List.cons.inj e).1
    subst this
    exact (List.nodup_cons.mp nd).1 List.mem_cons_self
def spLaw (K : PySem.W.Frag) : Sp := fun vs H Q _ => ∃ (a : Addr) (ns : List Int), vs = [.ref a] ∧ SqL K H a (ns.map V.int) ∧ ns.length ≤ 63 ∧ ∀ H', Q (.bl true) H'
theorem ok_law (T : Tx K mg A) : FnOk P w K mg base CX0 14 A.law A.d_law p_law (spLaw K) := by
  refine T.F_law.ok sc_law (fun vs H Q E h => ?_) (fun cdv Ar outer s H vs Q E hr h => ?_)
  · obtain ⟨a, ns, rfl, _⟩ := h
    rfl
  · obtain ⟨a, ns, rfl, hS, hlen, k⟩ := h
    obtain ⟨mv, kb_ef_init_1⟩ := T.F_ef_init.kbinds0 (ps := p_ef_init) 2 ["looks", "gives", "faulty"] [] (fun us _ ws => us ++ ws) (by simp) (fun q h => (nomatch h)) (fun a _ c => a.append c) (fun D doc pm an cdv ct us mv ws h1 h2 h3 => by
      match us, h1, mv, h2, ws, h3 with
      | [_, _], _, [], _, [_, _, _], _ => exact rfl)
    obtain ⟨ds, v0_ef_init_1, b0_ef_init_1⟩ := T.F_ef_init.binds0 (ps := p_ef_init) 2 (by simp) rfl (fun D doc pm an cdv ct us ks h1 h2 => by
      match us, h1, ks, h2 with
      | [_, _], _, [_, _, _], _ => exact ⟨_, _, _, _, _, _, rfl, rfl, _, _, _, _, _, _, rfl, rfl, _, _, _, _, _, _, rfl, rfl, rfl⟩)
    refine ⟨_, (pss_cons (ps_set (i := 1) sc_law.nd rfl (Or.inr rfl) (pe_call (ok_draws T) (hr.mono (by decide)) (by rfl) T.g_draws T.F_draws.kp T.b_draws .nil pass0 (pa_cons (pv 0) pa_nil)))
      (pss_cons (ps_setLc (i := 2) (own := [("_law_k", 15)]) (g := gName 15) (tt := tYes) rfl sc_law.nd rfl rfl (sw_true rfl rfl rfl (by decide +kernel)) (pi_range1 (by rfl) T.m_range (pa_cons (pe_call (ok_take T) (hr.mono (by decide)) (by rfl) T.g_take T.F_take.kp T.b_take .nil pass0 (pa_cons (pv 1) (pa_cons pe_int pa_nil))) pa_nil)) (blkOk_by (N := n_law) (sc := defScope s_law) (by decide +kernel)) (fun _ _ _ _ _ => pg_name (i := 15) sc_law.nd rfl (Or.inl rfl)) (fun _ _ _ _ _ => pts_nil) (fun _ _ _ _ _ => (pe_call (ok_name T) (hr.mono (by decide)) (by rfl) T.g_name T.F_name.kp T.b_name .nil pass0 (pa_cons (pv 1) (pa_cons (pv 15) pa_nil)))))
      (pss_cons (ps_set (i := 3) sc_law.nd rfl (Or.inl rfl) (pe_call (ok_plain T) (hr.mono (by decide)) (by rfl) T.g_plain T.F_plain.kp T.b_plain .nil pass0 (pa_cons (pv 1) (pa_cons (pv 2) pa_nil))))
      (pss_cons (ps_set (i := 4) sc_law.nd rfl (Or.inl rfl) (pe_call (ok_lnormal T) (hr.mono (by decide)) (by rfl) T.g_lnormal T.F_lnormal.kp T.b_lnormal .nil pass0 (pa_cons (pv 2) (pa_cons (pv 3) pa_nil))))
      (pss_cons (ps_set (i := 5) sc_law.nd rfl (Or.inl rfl) pe_dnewK)
      (pss_cons (ps_for PassesOwn.never rfl (pi_list (pe_callTy (call_listD rfl) (by rfl) T.m_list (by decide +kernel) (pa_cons (pe_ix ix_list (pv 3) pe_int (fun _ _ => rfl)) pa_nil))) (pg_name (i := 6) sc_law.nd rfl (Or.inl rfl)) (pss_one (ps_dput (hu_of hr) (pv 5) (pv 6) (pe_callTy call_list_of (by rfl) T.m_list (by decide +kernel) (pa_cons (pe_dget (hu_of hr) (pe_ix ix_list (pv 3) pe_int (fun _ _ => rfl)) (pv 6) (fun _ _ => rfl)) pa_nil)) rfl)))
      (pss_cons (ps_set (i := 7) sc_law.nd rfl (Or.inl rfl) (pe_callTy call_list_of (by rfl) T.m_list (by decide +kernel) (pa_cons (pe_ix ix_list (pv 3) pe_int (fun _ _ => rfl)) pa_nil)))
      (pss_cons (ps_set (i := 8) sc_law.nd rfl (Or.inl rfl) (pe_callTy call_list_of (by rfl) T.m_list (by decide +kernel) (pa_cons (pv 2) pa_nil)))
      (pss_cons (ps_set (i := 9) sc_law.nd rfl (Or.inl rfl) (pe_makeK (n := 1) T.mk_Effect (ok_ef_init T) (hr.mono (by decide)) (by rfl) T.g_Effect kb_ef_init_1 passL (pa_cons (pv 8) pa_nil) (pk_cons (pv 7) (pk_cons (pv 5) (pk_cons (pe_ix ix_list (pv 3) pe_int (fun _ _ => rfl)) pk_nil)))))
      (pss_cons (ps_if (PW.pt (pw_or (pt_cmpR (op_neD hr.units) (pv 8) (pv 2) (nomark _)) (pw_or (pt_cmpR (op_neD hr.units) (pv 7) (pe_ix ix_list (pv 3) pe_int (fun _ _ => rfl)) (nomark _)) (pw_or1 (pt_cmpR (UL.op_dne (UL.units1 hr)) (pv 5) (pe_ix ix_list (pv 3) pe_int (fun _ _ => rfl)) (nomark _)))))) (pss_one (ps_ret pe_bl)) pss_nil)
      (pss_cons (ps_expr (pe_bm PySem.F.plainAttrs_list PySem.F.slot_list_append PySem.F.type_list_append mt_append (pv 8) (pa_cons pe_str pa_nil)))
      (pss_cons (ps_expr (pe_bm PySem.F.plainAttrs_list PySem.F.slot_list_append PySem.F.type_list_append mt_append (pv 7) (pa_cons pe_str pa_nil)))
      (pss_cons (ps_for PassesOwn.never rfl (pi_list (pe_callTy (call_listD rfl) (by rfl) T.m_list (by decide +kernel) (pa_cons (pv 5) pa_nil))) (pg_name (i := 6) sc_law.nd rfl (Or.inl rfl)) (pss_one (ps_expr (pe_bm PySem.F.plainAttrs_list PySem.F.slot_list_append PySem.F.type_list_append mt_append (pe_dget (hu_of hr) (pv 5) (pv 6) (fun _ _ => rfl)) (pa_cons pe_str pa_nil)))))
      (pss_cons (ps_dput (hu_of hr) (pv 5) pe_str (pe_lst (pa_cons pe_str pa_nil)) rfl)
      (pss_cons (ps_if (PW.pt (pw_or (pt_not (pt_val (pe_call (ok_lis T) (hr.mono (by decide)) (by rfl) T.g_lis T.F_lis.kp T.b_lis .nil pass0 (pa_cons (pv 9) (pa_cons (pv 2) (pa_cons (pv 4) pa_nil)))))) (pw_or (pt_not (pt_val (pe_call (ok_lno_out T) (hr.mono (by decide)) (by rfl) T.g_lno_out T.F_lno_out.kp T.b_lno_out .nil pass0 (pa_cons (pv 9) (pa_cons pe_str pa_nil))))) (pw_or1 (pt_not (pt_val (pe_call (ok_lno_out T) (hr.mono (by decide)) (by rfl) T.g_lno_out T.F_lno_out.kp T.b_lno_out .nil pass0 (pa_cons (pv 9) (pa_cons pe_str pa_nil))))))))) (pss_one (ps_ret pe_bl)) pss_nil)
      (pss_cons (ps_if (PW.pt (pw_or (pt_not (pt_val (pe_call (ok_lno_out T) (hr.mono (by decide)) (by rfl) T.g_lno_out T.F_lno_out.kp T.b_lno_out .nil pass0 (pa_cons (pv 9) (pa_cons pe_non pa_nil))))) (pw_or (pt_not (pt_val (pe_call (ok_lno_out T) (hr.mono (by decide)) (by rfl) T.g_lno_out T.F_lno_out.kp T.b_lno_out .nil pass0 (pa_cons (pv 9) (pa_cons pe_bl pa_nil))))) (pw_or1 (pt_not (pt_val (pe_call (ok_lno_out T) (hr.mono (by decide)) (by rfl) T.g_lno_out T.F_lno_out.kp T.b_lno_out .nil pass0 (pa_cons (pv 9) (pa_cons pe_str pa_nil))))))))) (pss_one (ps_ret pe_bl)) pss_nil)
      (pss_cons (ps_set (i := 10) sc_law.nd rfl (Or.inl rfl) (pe_call (ok_lnormal T) (hr.mono (by decide)) (by rfl) T.g_lnormal T.F_lnormal.kp T.b_lnormal .nil pass0 (pa_cons (pv 2) (pa_cons (pe_lst (pa_cons (pe_lst pa_nil) (pa_cons pe_dnewK (pa_cons pe_bl pa_nil)))) pa_nil))))
      (pss_cons (ps_if (PW.pt (pw_or (pt_not (pt_val (pe_call (ok_lis T) (hr.mono (by decide)) (by rfl) T.g_lis T.F_lis.kp T.b_lis .nil pass0 (pa_cons (ClX.pe_cmeth (pe_glob (v := .ref A.Effect) (by rfl) T.g_Effect rfl) T.cr_Effect T.cm_ef_nothing ((ok_ef_nothing T).raw T.b_ef_nothing .nil) (hr.mono (by decide)) pass0 (pa_cons (pe_callTy call_list_of (by rfl) T.m_list (by decide +kernel) (pa_cons (pv 2) pa_nil)) pa_nil)) (pa_cons (pv 2) (pa_cons (pv 10) pa_nil)))))) (pw_or1 (pt_not (pt_val (pe_call (ok_lis T) (hr.mono (by decide)) (by rfl) T.g_lis T.F_lis.kp T.b_lis .nil pass0 (pa_cons (pe_make T.mk_Effect (ok_ef_init T) (hr.mono (by decide)) (by rfl) T.g_Effect b0_ef_init_1 v0_ef_init_1 passL (pa_cons (pe_callTy call_tuple_of (by rfl) T.m_tuple (by decide +kernel) (pa_cons (pv 2) pa_nil)) pa_nil)) (pa_cons (pv 2) (pa_cons (pv 10) pa_nil))))))))) (pss_one (ps_ret pe_bl)) pss_nil)
      (pss_cons (ps_set (i := 11) sc_law.nd rfl (Or.inl rfl) (pe_call (ok_plain T) (hr.mono (by decide)) (by rfl) T.g_plain T.F_plain.kp T.b_plain .nil pass0 (pa_cons (pv 1) (pa_cons (pv 2) pa_nil))))
      (pss_cons (ps_set (i := 12) sc_law.nd rfl (Or.inl rfl) (pe_makeK (n := 1) T.mk_Effect (ok_ef_init T) (hr.mono (by decide)) (by rfl) T.g_Effect kb_ef_init_1 passL (pa_cons (pe_callTy call_tuple_of (by rfl) T.m_tuple (by decide +kernel) (pa_cons (pv 2) pa_nil)) pa_nil) (pk_cons (pe_callTy call_tuple_of (by rfl) T.m_tuple (by decide +kernel) (pa_cons (pe_ix ix_list (pv 11) pe_int (fun _ _ => rfl)) pa_nil)) (pk_cons (pe_ix ix_list (pv 11) pe_int (fun _ _ => rfl)) (pk_cons (pe_ix ix_list (pv 11) pe_int (fun _ _ => rfl)) pk_nil)))))
      (pss_cons (ps_set (i := 13) sc_law.nd rfl (Or.inl rfl) (pe_cmpR (op_eqD hr.units) (pe_call (ok_lnormal T) (hr.mono (by decide)) (by rfl) T.g_lnormal T.F_lnormal.kp T.b_lnormal .nil pass0 (pa_cons (pv 2) (pa_cons (pv 11) pa_nil))) (pv 4) (nomark _)))
      (pss_cons (ps_if (PW.pt (pw_or (pt_not (pt_val (pe_callB call_isi (by rfl) T.m_isinstance (by decide +kernel) (pa_cons (pe_cmpR (UL.op_ownEq (ok_ef_eq T) (hr.mono (by decide)) T.e_ef_eq.at_ T.e_ef_eq.fn T.b_ef_eq pass0) (pv 9) (pv 12) (nomark _)) (pa_cons (pe_bltn (v := .ty "bool") (u := .type "bool") (by rfl) T.m_bool (by decide +kernel) rfl) pa_nil))))) (pw_or (pt_cmpR op_ne (pe_cmpR (UL.op_ownEq (ok_ef_eq T) (hr.mono (by decide)) T.e_ef_eq.at_ T.e_ef_eq.fn T.b_ef_eq pass0) (pv 9) (pv 12) (nomark _)) (pv 13) (nomark _)) (pw_or1 (pt_cmpR op_ne (pe_cmpR (UL.op_ownEq (ok_ef_eq T) (hr.mono (by decide)) T.e_ef_eq.at_ T.e_ef_eq.fn T.b_ef_eq pass0) (pv 9) (ClX.pe_cmeth (pe_glob (v := .ref A.Effect) (by rfl) T.g_Effect rfl) T.cr_Effect T.cm_ef_nothing ((ok_ef_nothing T).raw T.b_ef_nothing .nil) (hr.mono (by decide)) pass0 (pa_cons (pv 2) pa_nil)) (nomark _)) (pe_cmpR (op_eqD hr.units) (pv 4) (pv 10) (nomark _)) (nomark _)))))) (pss_one (ps_ret pe_bl)) pss_nil)
      (pss_cons (ps_if (PW.pt (pw_or (pt_cmpR op_isnot_bl (pe_cmpR (UL.op_ownEq (ok_ef_eq T) (hr.mono (by decide)) T.e_ef_eq.at_ T.e_ef_eq.fn T.b_ef_eq pass0) (pv 9) (ClX.pe_cmeth (pe_glob (v := .ref A.Effect) (by rfl) T.g_Effect rfl) T.cr_Effect T.cm_ef_nothing ((ok_ef_nothing T).raw T.b_ef_nothing .nil) (hr.mono (by decide)) pass0 (pa_cons (pe_op op_cat (pv 2) (pe_lst (pa_cons pe_str pa_nil))) pa_nil)) (nomark _)) pe_bl (nomark _)) (pw_or1 (pt_cmpR op_isnot_bl (pe_cmpR (UL.op_ownEq (ok_ef_eq T) (hr.mono (by decide)) T.e_ef_eq.at_ T.e_ef_eq.fn T.b_ef_eq pass0) (pv 9) pe_str (nomark _)) pe_bl (nomark _))))) (pss_one (ps_ret pe_bl)) pss_nil)
      (pss_cons (ps_if (pt_cmpR (op_neD hr.units) (pe_call (ok_lrefused T) (hr.mono (by decide)) (by rfl) T.g_lrefused T.F_lrefused.kp T.b_lrefused .nil pass0 (pa_cons (pv 2) (pa_cons (pe_op op_cat (pe_ix ix_list (pv 3) pe_int (fun _ _ => rfl)) (pe_lst (pa_cons pe_str (pa_cons pe_str pa_nil)))) (pa_cons (pe_disp (pps_cons pe_str (pe_lst pa_nil) pps_nil) (by rfl) (by rfl) (fun z => by cases z) (by decide)) (pa_cons (pe_ix ix_list (pv 3) pe_int (fun _ _ => rfl)) pa_nil))))) (pe_lst (pa_cons pe_str pa_nil)) (nomark _)) (pss_one (ps_ret pe_bl)) pss_nil)
      (pss_cons (ps_set (i := 14) sc_law.nd rfl (Or.inl rfl) (pe_callTy call_dictD (by rfl) T.m_dict (by decide +kernel) (pa_cons (pe_ix ix_list (pv 3) pe_int (fun _ _ => rfl)) pa_nil)))
      (pss_cons (ps_dput (hu_of hr) (pv 14) pe_str (pe_lst (pa_cons pe_str pa_nil)) rfl)
      (pss_cons (ps_dput (hu_of hr) (pv 14) pe_str (pe_lst pa_nil) rfl)
      (pss_one (ps_ret (pe_cmpR (op_eqD hr.units) (pe_call (ok_lrefused T) (hr.mono (by decide)) (by rfl) T.g_lrefused T.F_lrefused.kp T.b_lrefused .nil pass0 (pa_cons (pv 2) (pa_cons (pe_ix ix_list (pv 3) pe_int (fun _ _ => rfl)) (pa_cons (pv 14) (pa_cons (pe_ix ix_list (pv 3) pe_int (fun _ _ => rfl)) pa_nil))))) (pe_lst (pa_cons pe_str pa_nil)) (nomark _))))))))))))))))))))))))))))))), ?_⟩
    refine ⟨_, rfl, a, ns, rfl, hS, hlen, fun d hd0 => ?_⟩
    have hd : upd H d (DrO d) d = some (DrO d) := upd_same
    revert hd
    generalize upd H d (DrO d) = H0
    intro hd
    refine ⟨_, rfl, d, _, rfl, hd, by decide, fun m m0 m1 => ⟨m, rfl, by omega, by omega, fun o hoN => ?_⟩⟩
    refine lc_names ⟨m0, by omega⟩ hoN (fun _ => rfl) (fun i H' hi e Q' q => ⟨_, rfl, _, rfl, d, i, rfl, e _ _ hd, by omega, by omega, q⟩) (fun H1 os e1 ho hol hnm => ?_)
    have ol : os.length ≤ 5 := by omega
    have u : Uni os (uni os) := nms_uni hnm (by omega)
    have hd1 := e1 _ _ hd
    have okO := u.okO
    refine ⟨_, rfl, _, rfl, d, o, os, rfl, hd1, ho, by omega, u.nd, fun p pl H2 e2 np hp ok gn => ?_⟩
    have ho2 := e2 _ _ ho
    have hd2 := e2 _ _ hd1
    refine ⟨_, rfl, _, rfl, o, p, os, pl, _, rfl, ho2, by omega, hp, Nat.le_trans ok.sl (by decide), fun g hg => Nat.le_trans (ok.gz g hg) (by decide), fun n H3 e3 _ hn => ?_⟩
    have tx := fxOf_tame u ok
    have hn : NfAt All H3 n os (fxOf pl) := hn.weak fun _ _ => trivial
    obtain ⟨s0, d0, kv0, hS0, f1, f2, f3, f4⟩ := hp.mono e3
    have ho3 := e3 _ _ ho2
    have hd3 := e3 _ _ hd2
    have gt : ∀ g ∈ pl.gs, OkT g.2 := fun g hg z hz => u.ok z (ok.gu g hg z hz)
    have gl := ok.gl
    have sl := ok.sl
    have ol2 : os.length ≤ 1000 := by omega
    -- given: a copy
    refine fun D hD => ?_
    have n1 := Ex.new (o := .dK []) hD
    refine ⟨_, rfl, p, _, 1, .ref d0, rfl, rfl, SqL.of (n1 _ _ f1), atI_nat (j := 1) rfl, d0, kv0, rfl, .inl (n1 _ _ f3), fun L hL => ?_⟩
    rw [f4.keysV]
    have n2 := n1.trans (Ex.new (o := .lst ((pl.gs.map (·.1)).map V.str)) hL)
    have hL4 := upd_same (H := upd H3 D (.dK [])) (a := L) (o := .lst ((pl.gs.map (·.1)).map V.str))
    have hD4 := Ex.new (o := .lst ((pl.gs.map (·.1)).map V.str)) hL D _ upd_same
    revert n2 hL4 hD4
    generalize upd (upd H3 D (.dK [])) L (.lst ((pl.gs.map (·.1)).map V.str)) = H4
    intro n2 hL4 hD4
    refine ⟨L, rfl, ⟨_, SqL.of hL4⟩, for_list (xs := (pl.gs.map (·.1)).map V.str) (fun i σ' H' => (∃ v6, σ' = [some (.ref a), some (.ref d), some (.ref o), some (.ref p), some (.ref n), some (.ref D), v6, none, none, none, none, none, none, none, none, none]) ∧ Ex H3 H' ∧ H' L = some (.lst ((pl.gs.map (·.1)).map V.str)) ∧ ∃ kvs, H' D = some (.dK kvs) ∧ KVl (fun b => H3 b = none) H' kvs (pl.gs.take i))
      ⟨⟨_, rfl⟩, n2, hL4, [], hD4, .nil⟩ (fun i σ' H' _ z => SqL.of z.2.2.1) ?_ ?_⟩
    · rintro i v σ' H' hi ⟨⟨v6, rfl⟩, w, hL', kvs, hD', hk⟩
      rw [List.getElem?_map, List.getElem?_map] at hi
      cases hz : pl.gs[i]? with
      | none => rw [hz] at hi; cases hi
      | some g =>
      rw [hz] at hi
      cases hi
      have hlt := (List.getElem?_eq_some_iff.mp hz).1
      have nx : pl.gs.take (i + 1) = pl.gs.take i ++ [g] := by rw [List.take_add_one, hz]; rfl
      have no : g.1 ∉ (pl.gs.take i).map (·.1) := by
        intro hm
        have := gn
        rw [← List.take_append_drop (i + 1) pl.gs, nx, List.map_append, List.map_append] at this
        have := (List.nodup_append.mp (List.nodup_append.mp this).1).2.2 _ hm _ List.mem_cons_self
        exact this rfl
      rcases KVl.at (o := g.1) (f4.mono w) with ⟨_, q2⟩ | ⟨t', ts, q1, q2, q3⟩
      · rw [look_mem gn (List.mem_of_getElem? hz)] at q2
        cases q2
      rw [look_mem gn (List.mem_of_getElem? hz)] at q2
      cases q2
      refine ⟨_, rfl, p, _, 1, .ref d0, rfl, rfl, SqL.of (w _ _ f1), atI_nat (j := 1) rfl, _, rfl, d0, _, rfl, (by rw [← q1]; exact DGet.k (k := Sum.inr g.1) (w _ _ f3)), t', _, rfl, .inl (SqL.of q3), fun t2 ht2 => ?_⟩
      have w2 := Ex.new (o := .lst (g.2.map V.str)) ht2
      have hD2 := w2 _ _ hD'
      refine ⟨_, rfl, _, rfl, D, _, rfl, DPut.k (k := Sum.inr g.1) hD2 ?_, ⟨_, rfl⟩, (w.trans w2).mut hD, ?_, _, upd_same, ?_⟩
      · have := Paired.length hk
        rw [List.length_take] at this
        exact sz_lt (by omega)
      · have hL2 := w2 _ _ hL'
        rw [upd_ne (ne_of hL2 hD2 (by intro z; cases z))]
        exact hL2
      · rw [nx]
        exact KVl.put hD2 (KVl.snoc (hk.mono w2) no (fresh_back w ht2) upd_same)
    rintro σ' H5 ⟨⟨v6, rfl⟩, w5, _, kvs, hD5, hk5⟩
    rw [List.length_map, List.length_map, List.take_length] at hk5
    -- seen and the outs: copies
    refine ⟨_, rfl, p, _, 0, .ref s0, rfl, rfl, SqL.of (w5 _ _ f1), atI_nat (j := 0) rfl, s0, _, rfl, .inl (SqL.of (w5 _ _ f2)), fun sn hsn => ?_⟩
    have w6 := Ex.new (o := .lst (pl.seen.map V.str)) hsn
    refine ⟨_, rfl, o, _, rfl, .inl (SqL.of (w6 _ _ (w5 _ _ ho3))), fun hh hhh => ?_⟩
    have w7 := Ex.new (o := .lst (os.map V.str)) hhh
    have hsn7 := w7 _ _ (upd_same (H := H5) (a := sn) (o := .lst (pl.seen.map V.str)))
    have hhh7 := upd_same (H := upd H5 sn (.lst (pl.seen.map V.str))) (a := hh) (o := .lst (os.map V.str))
    have n35 := fresh_back w5 hsn
    have n36 := fresh_back (w5.trans w6) hhh
    have nsh : sn ≠ hh := fun z => by rw [← z, upd_same] at hhh; cases hhh
    have w57 := w6.trans w7
    revert w57 hsn7 hhh7
    clear w7 hhh
    generalize upd (upd H5 sn (.lst (pl.seen.map V.str))) hh (.lst (os.map V.str)) = H7
    intro hsn7 hhh7 w57
    have w7 := w5.trans w57
    have hD7 := w57 _ _ hD5
    have hk7 := hk5.mono w57
    refine ⟨_, rfl, _, rfl, _, rfl, _, rfl, p, _, 2, .bl pl.bad, rfl, rfl, SqL.of (w7 _ _ f1), atI_nat (j := 2) rfl, rfl, rfl, fun z dz hz hdz nz => ?_⟩
    have em := made_in (C := A.Effect) hz hdz
    refine ⟨z, dz, .ref hh, .ref sn, .ref D, pl.bad, os, pl.seen, pl.gs, rfl, upd_same, ⟨hh, rfl, .inl (SqL.of (em _ _ hhh7))⟩, ⟨sn, rfl, .inl (SqL.of (em _ _ hsn7))⟩, .inr ⟨D, kvs, rfl, em _ _ hD7, (hk7.mono em).kvs⟩, u.nd, ol2, by omega, by omega, fun g hg => Nat.le_trans (ok.gz g hg) (by decide), fun _ H8 e8 h1 => ⟨rfl, ?_⟩, fun z' hz' => ?_⟩
    case refine_2 =>
      rw [unk_none fun y hy => ?_] at hz'
      · cases hz'
      · rcases List.mem_append.mp hy with q | q
        · exact ok.so y q
        · obtain ⟨g, hg, rfl⟩ := List.mem_map.mp q
          exact ok.gk g hg
    have nSD : ¬ (fun q => upd (upd H7 dz (.own z)) z (.ins A.Effect dz []) q = none) D := fun q => by
      have := em _ _ hD7
      rw [show upd (upd H7 dz (.own z)) z (.ins A.Effect dz []) D = none from q] at this
      cases this
    revert h1 nSD
    generalize (fun q => upd (upd H7 dz (.own z)) z (.ins A.Effect dz []) q = none) = S1
    intro h1 nSD
    have w78 := made_ex hz hdz e8
    have w8 := w7.trans w78
    have hsn8 := w78 _ _ hsn7
    have hhh8 := w78 _ _ hhh7
    have hD8 := w78 _ _ hD7
    have hk8 := hk7.mono w78
    clear e8 em
    have okS : OkT pl.seen := fun z hz => okO z (ok.so z hz)
    have zo : Str.ofString "zz" ∉ os := nms_not hnm (by omega) (by decide +kernel) (by decide +kernel)
    have yo : Str.ofString "yy" ∉ os := nms_not hnm (by omega) (by decide +kernel) (by decide +kernel)
    have vo : Str.ofString "v" ∉ os := nms_not hnm (by omega) (by decide +kernel) (by decide +kernel)
    have eo : Str.ofString "" ∉ os := nms_not hnm (by omega) (by decide +kernel) (by decide +kernel)
    refine ⟨_, rfl, _, rfl, _, _, .lst (SqL.of hhh8) (dp_strs os), .lst (SqL.of (w8 _ _ ho3)) (dp_strs os), shaped_lstS okO, shaped_lstS okO, _, rfl, ?_⟩
    rw [eqv_lstS, decide_eq_true rfl]
    refine iteF ?_
    refine ⟨_, rfl, _, rfl, p, _, 0, .ref s0, rfl, rfl, SqL.of (w8 _ _ f1), atI_nat (j := 0) rfl, _, _, .lst (SqL.of hsn8) (dp_strs pl.seen), .lst (SqL.of (w8 _ _ f2)) (dp_strs pl.seen), shaped_lstS okS, shaped_lstS okS, _, rfl, ?_⟩
    rw [eqv_lstS, decide_eq_true rfl]
    refine iteF ?_
    refine ⟨_, rfl, _, rfl, p, _, 1, .ref d0, rfl, rfl, SqL.of (w8 _ _ f1), atI_nat (j := 1) rfl, D, d0, kvs, kv0, true, rfl, rfl, hD8, w8 _ _ f3, by rw [Paired.length hk8, Paired.length (f4.mono w8)], deq_kvl (f4.mono w8) gn gt hk8 (fun g hg => hg), true, rfl, _, rfl, iteF ?_⟩
    -- what was handed in is changed
    refine ⟨_, rfl, .inl ⟨rfl, _, SqL.of hhh8⟩, hh, _, _, rfl, rfl, hhh8, by rw [List.length_map]; exact sz_lt (by omega), ?_⟩
    have w9 : Ex H3 (upd H8 hh (.lst (os.map V.str ++ [.str "zz"]))) := w8.mut n36
    have g9 := (KVl.grow hk8 (b := 40) ok.gz).app hhh8 (b' := 41) (v := .str "zz") (by omega) (by rw [List.length_map]; omega)
    have h9 := h1.putL (ys := os.map V.str ++ [.str "zz"]) hhh8
    have hsn9 : upd H8 hh (.lst (os.map V.str ++ [.str "zz"])) sn = some (.lst (pl.seen.map V.str)) := by rw [upd_ne nsh]; exact hsn8
    have hD9 : upd H8 hh (.lst (os.map V.str ++ [.str "zz"])) D = some (.dK kvs) := by rw [upd_ne (ne_of hD8 hhh8 (by intro z; cases z))]; exact hD8
    revert w9 g9 h9 hsn9 hD9
    generalize upd H8 hh (.lst (os.map V.str ++ [.str "zz"])) = H9
    intro w9 g9 h9 hsn9 hD9
    refine ⟨_, rfl, .inl ⟨rfl, _, SqL.of hsn9⟩, sn, _, _, rfl, rfl, hsn9, by rw [List.length_map]; exact sz_lt (by omega), ?_⟩
    have w10 : Ex H3 (upd H9 sn (.lst (pl.seen.map V.str ++ [.str "zz"]))) := w9.mut n35
    have g10 := g9.app hsn9 (b' := 41) (v := .str "zz") (by omega) (by rw [List.length_map]; omega)
    have h10 := h9.putL (ys := pl.seen.map V.str ++ [.str "zz"]) hsn9
    have hD10 : upd H9 sn (.lst (pl.seen.map V.str ++ [.str "zz"])) D = some (.dK kvs) := by rw [upd_ne (ne_of hD9 hsn9 (by intro z; cases z))]; exact hD9
    revert w10 g10 h10 hD10
    generalize upd H9 sn (.lst (pl.seen.map V.str ++ [.str "zz"])) = H10
    intro w10 g10 h10 hD10
    refine ⟨_, rfl, D, kvs, rfl, .inl hD10, fun L2 hL2 => ?_⟩
    rw [hk5.keysV]
    have e11 := Ex.new (o := .lst ((pl.gs.map (·.1)).map V.str)) hL2
    have g11 : Grow (fun b => H3 b = none ∧ b ≠ L2) 41 (upd H10 L2 (.lst ((pl.gs.map (·.1)).map V.str))) kvs := fun kv hkv => by
      obtain ⟨t, xs, q1, q2, q3, q4⟩ := g10 kv hkv
      exact ⟨t, xs, q1, ⟨q2, ne_of_none q3 hL2⟩, e11 _ _ q3, q4⟩
    have w11 := w10.trans e11
    have h11 := h10.mono e11
    have hD11 := e11 _ _ hD10
    have hL11 := upd_same (H := H10) (a := L2) (o := .lst ((pl.gs.map (·.1)).map V.str))
    revert g11 w11 h11 hD11 hL11
    clear e11
    generalize upd H10 L2 (.lst ((pl.gs.map (·.1)).map V.str)) = H11
    intro g11 w11 h11 hD11 hL11
    refine ⟨L2, rfl, ⟨_, SqL.of hL11⟩, for_list (xs := (pl.gs.map (·.1)).map V.str) (fun i σ' H' => (∃ v6, σ' = [some (.ref a), some (.ref d), some (.ref o), some (.ref p), some (.ref n), some (.ref D), v6, some (.ref sn), some (.ref hh), some (.ref z), none, none, none, none, none, none]) ∧ Ex H3 H' ∧ H' L2 = some (.lst ((pl.gs.map (·.1)).map V.str)) ∧ H' D = some (.dK kvs) ∧ Grow (fun b => H3 b = none ∧ b ≠ L2) (41 + i) H' kvs ∧ EfS S1 K A.Effect H' z os (mkF pl.bad pl.seen (gOf pl.gs)))
      ⟨⟨_, rfl⟩, w11, hL11, hD11, g11, h11⟩ (fun i σ' H' _ y => SqL.of y.2.2.1) ?_ ?_⟩
    · rintro i v σ' H' hi ⟨⟨v6, rfl⟩, w, hL', hD', hg', h'⟩
      rw [List.getElem?_map, List.getElem?_map] at hi
      cases hzi : pl.gs[i]? with
      | none => rw [hzi] at hi; cases hi
      | some g =>
      rw [hzi] at hi
      cases hi
      have hlt := (List.getElem?_eq_some_iff.mp hzi).1
      obtain ⟨v, hv⟩ := KVl.has hk5 (z := g.1) (List.mem_map.mpr ⟨g, List.mem_of_getElem? hzi, rfl⟩)
      obtain ⟨kv, hkv, ekv⟩ := valV_mem hv
      obtain ⟨t, xs, et, ⟨q1, q2⟩, ht, hxl⟩ := hg' kv hkv
      rw [← ekv, et] at hv
      refine ⟨_, rfl, _, rfl, D, .ref t, rfl, (by rw [← hv]; exact DGet.k (k := Sum.inr g.1) hD'), .inl ⟨rfl, _, SqL.of ht⟩, t, _, _, rfl, rfl, ht, sz_lt (by omega), ⟨_, rfl⟩, w.mut q1, ?_, ?_, ?_, h'.putL ht⟩
      · rw [upd_ne (fun q => q2 q.symm)]
        exact hL'
      · rw [upd_ne (ne_of hD' ht (by intro z; cases z))]
        exact hD'
      · exact hg'.app ht (by omega) (by omega)
    rintro σ' H12 ⟨⟨v6, rfl⟩, w12, _, hD12, _, h12⟩
    refine ⟨sz_of (by show 1 ≤ 100000; decide), fun qq hqq => ⟨_, rfl, D, _, rfl, DPut.k (k := Sum.inr "zz") ((Ex.new (o := .lst [.str "zz"]) hqq) _ _ hD12) ?_, ?_⟩⟩
    · rw [Paired.length hk5]
      exact sz_lt (by omega)
    have w13 := (w12.trans (Ex.new (o := .lst [.str "zz"]) hqq)).mut (o := .dK (putK kvs (Sum.inr "zz") (.ref qq))) hD
    have h13 : EfAt K A.Effect _ z os (fxOf pl) := ((h12.mono (Ex.new (o := .lst [.str "zz"]) hqq)).putD (ks' := putK kvs (Sum.inr "zz") (.ref qq)) ((Ex.new (o := .lst [.str "zz"]) hqq) _ _ hD12) nSD).at
    revert w13 h13
    generalize upd (upd H12 qq (.lst [.str "zz"])) D (.dK (putK kvs (Sum.inr "zz") (.ref qq))) = H13
    intro w h1
    clear h12 hD12 w12 w11 g11 h11 hD11 hL11 w10 g10 h10 hD10 w9 g9 h9 hsn9 hD9 hk8 hD8 hhh8 hsn8 w8 w78
    have fz : ∀ (y : Str), y ∉ os → ∀ z', V.str y = .str z' → z' ∉ os := fun y hy z' e => V.str.inj e ▸ hy
    refine ⟨_, rfl, _, rfl, _, rfl, z, o, n, os, _, fxOf pl, _, rfl, h1, w _ _ ho3, hn.mono w, u, tx, fun K1 v1 => ⟨true, rfl, iteF ?_⟩⟩
    have w := w.trans v1
    have h1 := h1.mono v1
    refine ⟨_, rfl, z, .str "zz", os, _, rfl, h1, rfl, fz _ zo, ⟨.str "zz", fun _ => .str _, by decide +kernel, by decide +kernel⟩, fun K2 v2 => ⟨true, rfl, iteF ?_⟩⟩
    have w := w.trans v2
    have h1 := h1.mono v2
    refine ⟨_, rfl, z, .str "v", os, _, rfl, h1, rfl, fz _ vo, ⟨.str "v", fun _ => .str _, by decide +kernel, by decide +kernel⟩, fun K3 v3 => ⟨true, rfl, iteF ?_⟩⟩
    have w := w.trans v3
    have h1 := h1.mono v3
    refine ⟨_, rfl, z, .non, os, _, rfl, h1, rfl, (fun _ e => nomatch e), ⟨.none, fun _ => .non, by decide +kernel, by decide +kernel⟩, fun K4 v4 => ⟨true, rfl, iteF ?_⟩⟩
    have w := w.trans v4
    have h1 := h1.mono v4
    refine ⟨_, rfl, z, .bl true, os, _, rfl, h1, rfl, (fun _ e => nomatch e), ⟨.bool true, fun _ => .bl _, by decide +kernel, by decide +kernel⟩, fun K5 v5 => ⟨true, rfl, iteF ?_⟩⟩
    have w := w.trans v5
    have h1 := h1.mono v5
    refine ⟨_, rfl, z, .str "", os, _, rfl, h1, rfl, fz _ eo, ⟨.str "", fun _ => .str _, by decide +kernel, by decide +kernel⟩, fun K6 v6 => ⟨true, rfl, iteF ?_⟩⟩
    have w := w.trans v6
    have h1 := h1.mono v6
    -- the empty one
    have tn := tame_empty u
    refine ⟨_, rfl, by show 0 ≤ sizeLine; decide, fun se hse de hde => ⟨sz_of (by show 3 ≤ 100000; decide), fun pz hpz => ?_⟩⟩
    have x1 := Ex.new (o := .lst []) hse
    have x2 := Ex.new (o := .dK []) hde
    have x3 := Ex.new (o := .lst [.ref se, .ref de, .bl false]) hpz
    have x13 := (x1.trans x2).trans x3
    refine ⟨o, pz, os, ⟨[], [], false⟩, All, rfl, x13 _ _ (w _ _ ho3), ol2, ⟨se, de, [], ⟨trivial, trivial, trivial⟩, upd_same, x3 _ _ (x2 _ _ upd_same), x3 _ _ upd_same, .nil⟩, by show 0 ≤ 10000; decide, fun _ h => (nomatch h), fun me K7 v7 _ hme => ?_⟩
    have w := w.trans (x13.trans v7)
    have h1 := h1.mono (x13.trans v7)
    have hme : NfAt All K7 me os empty := hme.weak fun _ _ => trivial
    refine ⟨rfl, _, rfl, o, _, rfl, .inl (SqL.of (w _ _ ho3)), fun l1 hl1 => ?_⟩
    have y1 := Ex.new (o := .lst (os.map V.str)) hl1
    refine ⟨.ref l1, os, rfl, ⟨l1, rfl, .inl (SqL.of upd_same)⟩, u.nd, ol2, fun c1 K8 v8 _ hc1 => ?_⟩
    have w := w.trans (y1.trans v8)
    have h1 := h1.mono (y1.trans v8)
    have hme := hme.mono (y1.trans v8)
    refine ⟨_, rfl, _, rfl, c1, o, me, os, _, empty, _, rfl, hc1, w _ _ ho3, hme, u, tn, fun K9 v9 => ⟨true, rfl, iteF ?_⟩⟩
    have w := w.trans v9
    have h1 := h1.mono v9
    have hme := hme.mono v9
    refine ⟨_, rfl, o, _, rfl, .inl ⟨SqL.of (w _ _ ho3), fun tt htt => ?_⟩⟩
    have y2 := Ex.new (o := .tup (os.map V.str)) htt
    refine fun x dx hx hdx nz => ?_
    have em := made_in (C := A.Effect) hx hdx
    refine ⟨x, dx, .ref tt, .ref A.k_ef_init_looks, .non, false, os, [], [], rfl, upd_same, ⟨tt, rfl, .inr (SqT.of (em _ _ upd_same))⟩, ⟨_, rfl, .inr (T.q_ef_init_looks _)⟩, .inl ⟨rfl, rfl⟩, u.nd, ol2, by decide, by decide, fun _ h => (nomatch h), fun _ K10 e10 hc2 => ⟨rfl, ?_⟩, fun z h => (nomatch h)⟩
    have v10 := y2.trans (made_ex hx hdx e10)
    have hc2 : EfAt K A.Effect K10 x os empty := hc2.at
    have w := w.trans v10
    have h1 := h1.mono v10
    have hme := hme.mono v10
    clear e10 em
    refine ⟨_, rfl, _, rfl, x, o, me, os, _, empty, _, rfl, hc2, w _ _ ho3, hme, u, tn, fun K11 v11 => ⟨true, rfl, iteF ?_⟩⟩
    have w := w.trans v11
    have h1 := h1.mono v11
    have hme := hme.mono v11
    -- another
    refine ⟨_, rfl, _, rfl, d, o, os, rfl, w _ _ hd3, w _ _ ho3, by omega, u.nd, fun p2 pl2 K12 v12 _ hp2 ok2 _ => ?_⟩
    have w := w.trans v12
    have h1 := h1.mono v12
    have hme := hme.mono v12
    have ty := fxOf_tame u ok2
    obtain ⟨s2, d2, kv2, _, g1, g2, g3, g4⟩ := id hp2
    refine ⟨_, rfl, o, _, rfl, .inl ⟨SqL.of (w _ _ ho3), fun t1 ht1 => ?_⟩⟩
    have z1 := Ex.new (o := .tup (os.map V.str)) ht1
    refine ⟨_, rfl, p2, _, 0, .ref s2, rfl, rfl, SqL.of (z1 _ _ g1), atI_nat (j := 0) rfl, s2, _, rfl, .inl ⟨SqL.of (z1 _ _ g2), fun t2 ht2 => ?_⟩⟩
    have z2 := Ex.new (o := .tup (pl2.seen.map V.str)) ht2
    have z12 := z1.trans z2
    refine ⟨_, rfl, p2, _, 1, .ref d2, rfl, rfl, SqL.of (z12 _ _ g1), atI_nat (j := 1) rfl, _, rfl, p2, _, 2, .bl pl2.bad, rfl, rfl, SqL.of (z12 _ _ g1), atI_nat (j := 2) rfl, rfl, rfl, fun b dz2 hb hdz2 nz2 => ?_⟩
    have em2 := made_in (C := A.Effect) hb hdz2
    refine ⟨b, dz2, .ref t1, .ref t2, .ref d2, pl2.bad, os, pl2.seen, pl2.gs, rfl, upd_same, ⟨t1, rfl, .inr (SqT.of (em2 _ _ (z2 _ _ upd_same)))⟩, ⟨t2, rfl, .inr (SqT.of (em2 _ _ upd_same))⟩, .inr ⟨d2, kv2, rfl, em2 _ _ (z12 _ _ g3), (g4.mono (z12.trans em2)).kvs⟩, u.nd, ol2, Nat.le_trans ok2.sl (by decide), Nat.le_trans ok2.gl (by decide), fun g hg => Nat.le_trans (ok2.gz g hg) (by decide), fun _ K13 e13 hb2 => ⟨rfl, ?_⟩, fun z' hz' => ?_⟩
    case refine_2 =>
      rw [unk_none fun y hy => ?_] at hz'
      · cases hz'
      · rcases List.mem_append.mp hy with q | q
        · exact ok2.so y q
        · obtain ⟨g, hg, rfl⟩ := List.mem_map.mp q
          exact ok2.gk g hg
    have v13 := z12.trans (made_ex hb hdz2 e13)
    have hb2 : EfAt K A.Effect K13 b os (fxOf pl2) := hb2.at
    have w := w.trans v13
    have h1 := h1.mono v13
    have hme := hme.mono v13
    have hp2 := hp2.mono v13
    clear e13 em2
    refine ⟨_, rfl, _, rfl, o, p2, os, pl2, _, rfl, w _ _ ho3, ol2, hp2, Nat.le_trans ok2.sl (by decide), fun g hg => Nat.le_trans (ok2.gz g hg) (by decide), fun n2 K14 v14 _ hn2 => ?_⟩
    have w := w.trans v14
    have h1 := h1.mono v14
    have hb2 := hb2.mono v14
    have hme := hme.mono v14
    have kx := tame_ok u tx
    have ky := tame_ok u ty
    have ke := ok_empty okO
    refine ⟨_, rfl, nfD os (fxOf pl2), nfD os (fxOf pl), dp_nf hn2, dp_nf (hn.mono w), shaped_nf ky.1 ky.2, shaped_nf kx.1 kx.2, ?_⟩
    rw [eqv_nf]
    refine ⟨_, rfl, _, rfl, do_eqS h1 hb2 okO kx okO ky ⟨.bl _, _, _, _, true, rfl, .ty "bool", .base (.bl _), kit_ty (r := true) (by decide +kernel), true, rfl, iteF ?_⟩⟩
    refine ⟨_, rfl, _, rfl, do_eqS h1 hb2 okO kx okO ky ⟨_, rfl, rfl, _, rfl, ?_⟩⟩
    rw [sameB_comm (x := fxOf pl) (y := fxOf pl2), decide_eq_true rfl]
    refine iteF ⟨_, rfl, rfl, _, rfl, .ref o, os, rfl, ⟨o, rfl, .inl (SqL.of (w _ _ ho3))⟩, u.nd, ol2, fun c3 K15 v15 _ hc3 => ?_⟩
    have w := w.trans v15
    have h1 := h1.mono v15
    have hme := hme.mono v15
    refine do_eqS h1 hc3 okO kx okO ke ⟨_, rfl, _, rfl, nfD os (fxOf pl), nfD os empty, dp_nf (hn.mono w), dp_nf hme, shaped_nf kx.1 kx.2, shaped_nf ke.1 ke.2, rfl, _, rfl, ?_⟩
    rw [eqv_nf, decide_eq_true rfl]
    refine iteF ⟨_, rfl, rfl, _, rfl, sz_of (by show 1 ≤ 100000; decide), fun l3 hl3 => ?_⟩
    have a1 := Ex.new (o := .lst [.str "zz"]) hl3
    refine ⟨o, l3, _, _, rfl, rfl, a1 _ _ (w _ _ ho3), upd_same, by rw [List.length_map]; exact sz_of (by show os.length + 1 ≤ 100000; omega), fun m3 hm3 => ?_⟩
    have a2 := Ex.new (o := .lst (os.map V.str ++ [.str "zz"])) hm3
    refine ⟨.ref m3, os ++ [("zz" : Str)], rfl, ⟨m3, rfl, .inl (SqL.of (by rw [List.map_append]; exact upd_same))⟩, ?_, by rw [List.length_append]; show os.length + 1 ≤ 1000; omega, fun c4 K16 v16 _ hc4 => ?_⟩
    · exact List.nodup_append.mpr ⟨u.nd, List.pairwise_singleton _ _, fun a ha b hb e => zo (by rw [List.mem_singleton.mp hb] at e; rw [← e]; exact ha)⟩
    have v16 := (a1.trans a2).trans v16
    have w := w.trans v16
    have h1 := h1.mono v16
    have okz : OkT [Str.ofString "zz"] := by decide +kernel
    have oz : OkT (os ++ [("zz" : Str)]) := fun z hz => (List.mem_append.mp hz).elim (okO z) (okz z)
    refine do_eqS h1 hc4 okO kx oz (ok_empty oz) ⟨_, false, rfl, rfl, _, rfl, ?_⟩
    have ne : os ≠ os ++ [("zz" : Str)] := fun q => by
      have := congrArg List.length q
      rw [List.length_append] at this
      have : os.length = os.length + 1 := this
      omega
    rw [sameB_ne (os := os) (os' := os ++ [("zz" : Str)]) (x := fxOf pl) (y := empty) ne]
    refine iteF ⟨_, rfl, do_eqZ T.sb_str h1 okO kx ⟨_, false, rfl, rfl, _, rfl, iteF ?_⟩⟩
    -- refused
    refine ⟨_, rfl, _, rfl, p, _, 0, .ref s0, rfl, rfl, SqL.of (w _ _ f1), atI_nat (j := 0) rfl, sz_of (by show 2 ≤ 100000; decide), fun l4 hl4 => ?_⟩
    have b1 := Ex.new (o := .lst [.str "zz", .str "yy"]) hl4
    refine ⟨s0, l4, _, _, rfl, rfl, b1 _ _ (w _ _ f2), upd_same, by rw [List.length_map]; exact sz_of (by show pl.seen.length + 2 ≤ 100000; omega), fun m4 hm4 => ?_⟩
    have b2 := b1.trans (Ex.new (o := .lst (pl.seen.map V.str ++ [.str "zz", .str "yy"])) hm4)
    have hm44 := upd_same (H := upd K16 l4 (.lst [.str "zz", .str "yy"])) (a := m4) (o := .lst (pl.seen.map V.str ++ [.str "zz", .str "yy"]))
    revert b2 hm44
    clear b1
    generalize upd (upd K16 l4 (.lst [.str "zz", .str "yy"])) m4 (.lst (pl.seen.map V.str ++ [.str "zz", .str "yy"])) = K17
    intro b2 hm44
    have w := w.trans b2
    refine fun d4 hd4 => ?_
    have b3 := Ex.new (o := .dK []) hd4
    refine ⟨by show 0 ≤ sizeLine; decide, fun l6 hl6 => ⟨(Ex.new (o := .lst []) hl6) _ _ upd_same, [(Sum.inr "xx", .ref l6)], rfl, by show 1 ≤ 15; decide, ?_⟩⟩
    have b4 := (b3.trans (Ex.new (o := .lst []) hl6)).mut (o := .dK (mergeK [] [(Sum.inr "xx", .ref l6)])) hd4
    have hl66 : upd (upd (upd K17 d4 (.dK [])) l6 (.lst [])) d4 (.dK (mergeK [] [(Sum.inr "xx", .ref l6)])) l6 = some (.lst []) := by
      rw [upd_ne (fun q => by rw [q, upd_same] at hl6; cases hl6)]
      exact upd_same
    have hd44 : upd (upd (upd K17 d4 (.dK [])) l6 (.lst [])) d4 (.dK (mergeK [] [(Sum.inr "xx", .ref l6)])) d4 = some (.dK [(Sum.inr "xx", .ref l6)]) := upd_same
    revert b4 hl66 hd44
    clear b3
    generalize upd (upd (upd K17 d4 (.dK [])) l6 (.lst [])) d4 (.dK (mergeK [] [(Sum.inr "xx", .ref l6)])) = K18
    intro b4 hl66 hd44
    have w := w.trans b4
    refine ⟨_, rfl, p, _, 2, .bl pl.bad, rfl, rfl, SqL.of (w _ _ f1), atI_nat (j := 2) rfl, ?_⟩
    refine ⟨.ref o, .ref m4, .ref d4, pl.bad, os, pl.seen ++ [("zz" : Str), "yy"], [(("xx" : Str), [])], "zz", rfl, ⟨o, rfl, .inl (SqL.of (w _ _ ho3))⟩, ⟨m4, rfl, .inl (SqL.of (by rw [List.map_append]; exact b4 _ _ hm44))⟩, ⟨d4, _, rfl, hd44, .cons ⟨rfl, l6, rfl, .inl (SqL.of hl66)⟩ .nil⟩, u.nd, ol2, by rw [List.length_append]; show pl.seen.length + 2 ≤ 4000; omega, by decide, fun g hg => by rw [List.mem_singleton.mp hg]; decide, ?_, fun pr K19 v19 hpr => ?_⟩
    · rw [List.append_assoc]
      exact unk_first (rs := ["yy", "xx"]) ok.so zo
    have w := w.trans v19
    refine ⟨sz_of (by show 1 ≤ 100000; decide), fun l5 hl5 => ?_⟩
    have b5 := Ex.new (o := .lst [.str "zz"]) hl5
    refine ⟨.list ([("zz" : Str)].map PyData.str), .list ([("zz" : Str)].map PyData.str), .lst (SqL.of (b5 _ _ hpr)) (dp_strs [("zz" : Str)]), .lst (SqL.of upd_same) (dp_strs [("zz" : Str)]), shaped_lstS okz, shaped_lstS okz, _, rfl, ?_⟩
    rw [eqv_lstS, decide_eq_true rfl]
    refine iteF ?_
    have w := w.trans b5
    -- another wrong one
    refine ⟨_, rfl, p, _, 1, .ref d0, rfl, rfl, SqL.of (w _ _ f1), atI_nat (j := 1) rfl, d0, kv0, rfl, .inl (w _ _ f3), fun W hW => ?_⟩
    have n3W := fresh_back w hW
    have c1 := w.trans (Ex.new (o := .dK kv0) hW)
    have k1 : KVl All _ kv0 pl.gs := (f4.mono c1).weak fun _ _ => trivial
    have hW1 := upd_same (H := upd K19 l5 (.lst [.str "zz"])) (a := W) (o := .dK kv0)
    revert c1 k1 hW1
    generalize upd (upd K19 l5 (.lst [.str "zz"])) W (.dK kv0) = M1
    intro c1 k1 hW1
    have kl := Paired.length k1
    refine ⟨sz_of (by show 1 ≤ 100000; decide), fun q1 hq1 => ⟨_, rfl, W, _, rfl, DPut.k (k := Sum.inr "yy") ((Ex.new (o := .lst [.str "zz"]) hq1) _ _ hW1) (sz_lt (by omega)), ?_⟩⟩
    have hW2 := (Ex.new (o := .lst [.str "zz"]) hq1) _ _ hW1
    have ny : Str.ofString "yy" ∉ pl.gs.map (·.1) := fun hm => by
      obtain ⟨g, hg, e⟩ := List.mem_map.mp hm
      exact yo (e ▸ ok.gk g hg)
    have k2 := KVl.put (ks' := putK kv0 (Sum.inr "yy") (.ref q1)) hW2 (KVl.snoc (o := "yy") (t := q1) (ts := ["zz"]) (k1.mono (Ex.new (o := .lst [.str "zz"]) hq1)) ny trivial upd_same)
    have c2 := (c1.trans (Ex.new (o := .lst [.str "zz"]) hq1)).mut (o := .dK (putK kv0 (Sum.inr "yy") (.ref q1))) n3W
    have hW3 := upd_same (H := upd M1 q1 (.lst [.str "zz"])) (a := W) (o := .dK (putK kv0 (Sum.inr "yy") (.ref q1)))
    revert c2 k2 hW3
    generalize upd (upd M1 q1 (.lst [.str "zz"])) W (.dK (putK kv0 (Sum.inr "yy") (.ref q1))) = M2
    generalize putK kv0 (Sum.inr "yy") (.ref q1) = kv1
    intro k2 c2 hW3
    have kl2 := Paired.length k2
    rw [List.length_append] at kl2
    have kl2 : kv1.length = pl.gs.length + 1 := kl2
    refine ⟨by show 0 ≤ sizeLine; decide, fun q2 hq2 => ⟨_, rfl, W, _, rfl, DPut.k (k := Sum.inr "zz") ((Ex.new (o := .lst []) hq2) _ _ hW3) (sz_lt (by omega)), ?_⟩⟩
    have hW4 := (Ex.new (o := .lst []) hq2) _ _ hW3
    have nz : Str.ofString "zz" ∉ (pl.gs ++ [(("yy" : Str), [("zz" : Str)])]).map (·.1) := fun hm => by
      rw [List.map_append] at hm
      rcases List.mem_append.mp hm with hm | hm
      · obtain ⟨g, hg, e⟩ := List.mem_map.mp hm
        exact zo (e ▸ ok.gk g hg)
      · exact absurd (List.mem_singleton.mp hm) (by decide +kernel)
    have k3 := KVl.put (ks' := putK kv1 (Sum.inr "zz") (.ref q2)) hW4 (KVl.snoc (o := "zz") (t := q2) (ts := []) (k2.mono (Ex.new (o := .lst []) hq2)) nz trivial upd_same)
    have c3 := (c2.trans (Ex.new (o := .lst []) hq2)).mut (o := .dK (putK kv1 (Sum.inr "zz") (.ref q2))) n3W
    have hW5 := upd_same (H := upd M2 q2 (.lst [])) (a := W) (o := .dK (putK kv1 (Sum.inr "zz") (.ref q2)))
    revert c3 k3 hW5
    generalize upd (upd M2 q2 (.lst [])) W (.dK (putK kv1 (Sum.inr "zz") (.ref q2))) = M3
    intro k3 c3 hW5
    have oky : OkT [Str.ofString "yy"] := by decide +kernel
    refine ⟨_, rfl, _, rfl, p, _, 0, .ref s0, rfl, rfl, SqL.of (c3 _ _ f1), atI_nat (j := 0) rfl, _, rfl, _, rfl, p, _, 2, .bl pl.bad, rfl, rfl, SqL.of (c3 _ _ f1), atI_nat (j := 2) rfl, ?_⟩
    refine ⟨.ref o, .ref s0, .ref W, pl.bad, os, pl.seen, _, "yy", rfl, ⟨o, rfl, .inl (SqL.of (c3 _ _ ho3))⟩, ⟨s0, rfl, .inl (SqL.of (c3 _ _ f2))⟩, KVl.sqx hW5 k3, u.nd, ol2, by omega, ?_, fun g hg => ?_, ?_, fun pr M4 v hpr => ⟨sz_of (by show 1 ≤ 100000; decide), fun l7 hl7 => ?_⟩⟩
    · rw [List.length_append, List.length_append]
      show pl.gs.length + 1 + 1 ≤ 4000
      omega
    · rcases List.mem_append.mp hg with hg | hg
      · rcases List.mem_append.mp hg with hg | hg
        · exact Nat.le_trans (ok.gz g hg) (by decide)
        · rw [List.mem_singleton.mp hg]
          show 1 ≤ 4000
          decide
      · rw [List.mem_singleton.mp hg]
        show 0 ≤ 4000
        decide
    · rw [List.map_append, List.map_append, List.append_assoc, ← List.append_assoc]
      refine unk_first (rs := ["zz"]) (fun y hy => ?_) yo
      rcases List.mem_append.mp hy with hy | hy
      · exact ok.so y hy
      · obtain ⟨g, hg, rfl⟩ := List.mem_map.mp hy
        exact ok.gk g hg
    · have b7 := Ex.new (o := .lst [.str "yy"]) hl7
      refine ⟨.list ([("yy" : Str)].map PyData.str), .list ([("yy" : Str)].map PyData.str), .lst (SqL.of (b7 _ _ hpr)) (dp_strs [("yy" : Str)]), .lst (SqL.of upd_same) (dp_strs [("yy" : Str)]), shaped_lstS oky, shaped_lstS oky, ?_⟩
      rw [eqv_lstS, decide_eq_true rfl]
      exact k _

end
theorem all_mk {l : PySem.W.OpenLaw} {w : World} {K : PySem.W.Frag} {h : Heap} {mg : Str → Option Value} {fa : Addr} (X : K.In h) (G : h.Ns mainGlobals mg) (hfa : mg "law" = some (.ref fa))
    {f0 f1 f2 f3 f4 f5 f6 f7 f8 f9 f10 f11 f12 f13 f14 f15 f16 f17 f18 f19 f20 : Addr}
    {od0 an0 od1 an1 od2 an2 od3 an3 od4 an4 od5 an5 od6 an6 od7 an7 od8 an8 od9 an9 od10 an10 od11 an11 od12 an12 od13 an13 od14 an14 od15 an15 od16 an16 od17 an17 od18 an18 od19 an19 od20 an20 : Option Addr}
    {sl0 sl1 sl2 sl3 sl4 sl5 sl6 sl7 sl8 sl9 sl10 sl11 sl12 sl13 sl14 sl15 sl16 sl17 sl18 sl19 sl20 : Array (Option Value)}
    {oc0 kV0 dc0 pm0 cd0 ct0 oc1 kV1 dc1 pm1 cd1 ct1 oc2 kV2 dc2 pm2 cd2 ct2 oc3 kV3 dc3 pm3 cd3 ct3 oc4 dc4 pm4 cd4 ct4 oc5 kV5 dc5 pm5 cd5 ct5 oc6 kV6 dc6 pm6 cd6 ct6 oc7 kV7 dc7 pm7 cd7 ct7 oc8 kV8 dc8 pm8 cd8 ct8 oc9 kV9 dc9 pm9 cd9 ct9 oc10 kV10 dc10 pm10 cd10 ct10 oc11 kV11 dc11 pm11 cd11 ct11 oc12 kV12 dc12 pm12 cd12 ct12 oc13 kV13 dc13 pm13 cd13 ct13 oc14 kV14 dc14 pm14 cd14 ct14 oc15 kV15 dc15 pm15 cd15 ct15 oc16 kV16 dc16 pm16 cd16 ct16 oc17 kV17 dc17 pm17 cd17 ct17 oc18 kV18 dc18 pm18 cd18 ct18 oc19 kV19 dc19 pm19 cd19 ct19 oc20 kV20 dc20 pm20 cd20 ct20 : Value}
    {xLivesError : Addr}
    {xUnknownName : Addr}
    {xOtherOuts : Addr}
    {xEffect : Addr}
    {dT0 : Addr} {dO0 : Option Addr} {dN0 : Nat} {dS0 : Array (Option Value)} {dt0x0 : Nat}
    {kD4 : Addr}
    {kT4looks : Addr} {kO4looks : Option Addr} {kN4looks : Nat} {kS4looks : Array (Option Value)}
    {pr5 : Addr} {re5 : List Value}
    {pr7 : Addr} {re7 : List Value}
    {nmLivesError qLivesError : Str} {NLivesError : Addr} {bsLivesError bmLivesError : List Value} {snLivesError : List Str} {subLivesError : List Value} {abLivesError : Bool} {colLivesError : Option Bool} {ddLivesError : Option Addr} {m0LivesError m1LivesError m2LivesError m3LivesError m5LivesError : Option Value}
    {nmUnknownName qUnknownName : Str} {NUnknownName : Addr} {bsUnknownName bmUnknownName : List Value} {snUnknownName : List Str} {subUnknownName : List Value} {abUnknownName : Bool} {colUnknownName : Option Bool} {ddUnknownName : Option Addr} {m0UnknownName m1UnknownName m2UnknownName m3UnknownName m5UnknownName : Option Value}
    {nmOtherOuts qOtherOuts : Str} {NOtherOuts : Addr} {bsOtherOuts bmOtherOuts : List Value} {snOtherOuts : List Str} {subOtherOuts : List Value} {abOtherOuts : Bool} {colOtherOuts : Option Bool} {ddOtherOuts : Option Addr} {m0OtherOuts m1OtherOuts m2OtherOuts m3OtherOuts m5OtherOuts : Option Value}
    (aCLivesError : PySem.W.nsIn K mainGlobals "LivesError" = some (some (.ref xLivesError)))
    (aCUnknownName : PySem.W.nsIn K mainGlobals "UnknownName" = some (some (.ref xUnknownName)))
    (aCOtherOuts : PySem.W.nsIn K mainGlobals "OtherOuts" = some (some (.ref xOtherOuts)))
    (aCEffect : PySem.W.nsIn K mainGlobals "Effect" = some (some (.ref xEffect)))
    (a0 : PySem.W.nsIn K mainGlobals "copied" = some (some (.ref f0)))
    (l0 : K.lookup f0 = some ⟨oc0, od0, .func (PySem.W.fnOf "copied" "copied" (defArgs s_copied) (defBody s_copied) (defScope s_copied) (.ref dT0) kV0 dc0 pm0 an0 cd0 ct0), sl0⟩)
    (dl0 : K.lookup dT0 = some ⟨.type "tuple", dO0, .seq ([.int 4 dt0x0] : List Value).toArray dN0, dS0⟩)
    (c0 : PySem.W.codeIn K cd0 "copied" = true)
    (k0 : PySem.W.keepIn K (.ref f0) = true)
    (a1 : PySem.W.findIn K (.ref xLivesError) "__init__" = some (some (.ref f1)))
    (i1 : PySem.W.typeIn K (.ref f1) = some (.type "function"))
    (l1 : K.lookup f1 = some ⟨oc1, od1, .func (PySem.W.fnOf "__init__" "LivesError.__init__" (defArgs s_lives_init) (defBody s_lives_init) (defScope s_lives_init) .none kV1 dc1 pm1 an1 cd1 ct1), sl1⟩)
    (c1 : PySem.W.codeIn K cd1 "LivesError.__init__" = true)
    (k1 : PySem.W.keepIn K (.ref f1) = true)
    (a2 : PySem.W.nsIn K mainGlobals "ascending" = some (some (.ref f2)))
    (l2 : K.lookup f2 = some ⟨oc2, od2, .func (PySem.W.fnOf "ascending" "ascending" (defArgs s_ascending) (defBody s_ascending) (defScope s_ascending) .none kV2 dc2 pm2 an2 cd2 ct2), sl2⟩)
    (c2 : PySem.W.codeIn K cd2 "ascending" = true)
    (k2 : PySem.W.keepIn K (.ref f2) = true)
    (a3 : PySem.W.nsIn K mainGlobals "normal" = some (some (.ref f3)))
    (l3 : K.lookup f3 = some ⟨oc3, od3, .func (PySem.W.fnOf "normal" "normal" (defArgs s_normal) (defBody s_normal) (defScope s_normal) .none kV3 dc3 pm3 an3 cd3 ct3), sl3⟩)
    (c3 : PySem.W.codeIn K cd3 "normal" = true)
    (k3 : PySem.W.keepIn K (.ref f3) = true)
    (a4 : PySem.W.findIn K (.ref xEffect) "__init__" = some (some (.ref f4)))
    (i4 : PySem.W.isFn K (.ref f4) = true)
    (l4 : K.lookup f4 = some ⟨oc4, od4, .func (PySem.W.fnOf "__init__" "Effect.__init__" (defArgs s_ef_init) (defBody s_ef_init) (defScope s_ef_init) .none (.ref kD4) dc4 pm4 an4 cd4 ct4), sl4⟩)
    (c4 : PySem.W.codeIn K cd4 "Effect.__init__" = true)
    (k4 : PySem.W.keepIn K (.ref f4) = true)
    (kw4looks : PySem.W.nsIn K kD4 "looks" = some (some (.ref kT4looks)))
    (kl4looks : K.lookup kT4looks = some ⟨.type "tuple", kO4looks, .seq (([] : List Value).toArray) kN4looks, kS4looks⟩)
    (kw4gives : PySem.W.nsIn K kD4 "gives" = some (some (.none)))
    (kw4faulty : PySem.W.nsIn K kD4 "faulty" = some (some (.bool false)))
    (a5 : PySem.W.findIn K (.ref xEffect) "looks" = some (some (.ref pr5)))
    (pg5 : PySem.W.specialIn K (.ref pr5) "__get__" = some (some (.builtin "property.__get__")))
    (pt5 : PySem.W.takesIn K (.ref pr5) = some true)
    (pc5 : PySem.W.recIn K pr5 "property" = some (.ref f5 :: re5))
    (l5 : K.lookup f5 = some ⟨oc5, od5, .func (PySem.W.fnOf "looks" "Effect.looks" (defArgs s_ef_looks) (defBody s_ef_looks) (defScope s_ef_looks) .none kV5 dc5 pm5 an5 cd5 ct5), sl5⟩)
    (c5 : PySem.W.codeIn K cd5 "Effect.looks" = true)
    (k5 : PySem.W.keepIn K (.ref f5) = true)
    (a6 : PySem.W.findIn K (.ref xEffect) "gives" = some (some (.ref f6)))
    (i6 : PySem.W.isFn K (.ref f6) = true)
    (l6 : K.lookup f6 = some ⟨oc6, od6, .func (PySem.W.fnOf "gives" "Effect.gives" (defArgs s_ef_gives) (defBody s_ef_gives) (defScope s_ef_gives) .none kV6 dc6 pm6 an6 cd6 ct6), sl6⟩)
    (c6 : PySem.W.codeIn K cd6 "Effect.gives" = true)
    (k6 : PySem.W.keepIn K (.ref f6) = true)
    (a7 : PySem.W.findCls K (.ref xEffect) (.type "type") "nothing" = some (.get (.builtin "classmethod.__get__") (.ref pr7) .none (.ref xEffect)))
    (pc7 : PySem.W.recIn K pr7 "classmethod" = some (.ref f7 :: re7))
    (fi7 : PySem.W.fnIn K f7 = true)
    (l7 : K.lookup f7 = some ⟨oc7, od7, .func (PySem.W.fnOf "nothing" "Effect.nothing" (defArgs s_ef_nothing) (defBody s_ef_nothing) (defScope s_ef_nothing) .none kV7 dc7 pm7 an7 cd7 ct7), sl7⟩)
    (c7 : PySem.W.codeIn K cd7 "Effect.nothing" = true)
    (k7 : PySem.W.keepIn K (.ref f7) = true)
    (a8 : PySem.W.findIn K (.ref xEffect) "_check_outs" = some (some (.ref f8)))
    (i8 : PySem.W.isFn K (.ref f8) = true)
    (l8 : K.lookup f8 = some ⟨oc8, od8, .func (PySem.W.fnOf "_check_outs" "Effect._check_outs" (defArgs s_ef_check) (defBody s_ef_check) (defScope s_ef_check) .none kV8 dc8 pm8 an8 cd8 ct8), sl8⟩)
    (c8 : PySem.W.codeIn K cd8 "Effect._check_outs" = true)
    (k8 : PySem.W.keepIn K (.ref f8) = true)
    (a9 : PySem.W.findIn K (.ref xEffect) "__eq__" = some (some (.ref f9)))
    (i9 : PySem.W.isFn K (.ref f9) = true)
    (l9 : K.lookup f9 = some ⟨oc9, od9, .func (PySem.W.fnOf "__eq__" "Effect.__eq__" (defArgs s_ef_eq) (defBody s_ef_eq) (defScope s_ef_eq) .none kV9 dc9 pm9 an9 cd9 ct9), sl9⟩)
    (c9 : PySem.W.codeIn K cd9 "Effect.__eq__" = true)
    (k9 : PySem.W.keepIn K (.ref f9) = true)
    (a10 : PySem.W.nsIn K mainGlobals "_law_draws" = some (some (.ref f10)))
    (l10 : K.lookup f10 = some ⟨oc10, od10, .func (PySem.W.fnOf "_law_draws" "_law_draws" (defArgs s_draws) (defBody s_draws) (defScope s_draws) .none kV10 dc10 pm10 an10 cd10 ct10), sl10⟩)
    (c10 : PySem.W.codeIn K cd10 "_law_draws" = true)
    (k10 : PySem.W.keepIn K (.ref f10) = true)
    (a11 : PySem.W.nsIn K mainGlobals "_law_take" = some (some (.ref f11)))
    (l11 : K.lookup f11 = some ⟨oc11, od11, .func (PySem.W.fnOf "_law_take" "_law_take" (defArgs s_take) (defBody s_take) (defScope s_take) .none kV11 dc11 pm11 an11 cd11 ct11), sl11⟩)
    (c11 : PySem.W.codeIn K cd11 "_law_take" = true)
    (k11 : PySem.W.keepIn K (.ref f11) = true)
    (a12 : PySem.W.nsIn K mainGlobals "_law_name" = some (some (.ref f12)))
    (l12 : K.lookup f12 = some ⟨oc12, od12, .func (PySem.W.fnOf "_law_name" "_law_name" (defArgs s_name) (defBody s_name) (defScope s_name) .none kV12 dc12 pm12 an12 cd12 ct12), sl12⟩)
    (c12 : PySem.W.codeIn K cd12 "_law_name" = true)
    (k12 : PySem.W.keepIn K (.ref f12) = true)
    (a13 : PySem.W.nsIn K mainGlobals "_law_texts" = some (some (.ref f13)))
    (l13 : K.lookup f13 = some ⟨oc13, od13, .func (PySem.W.fnOf "_law_texts" "_law_texts" (defArgs s_texts) (defBody s_texts) (defScope s_texts) .none kV13 dc13 pm13 an13 cd13 ct13), sl13⟩)
    (c13 : PySem.W.codeIn K cd13 "_law_texts" = true)
    (k13 : PySem.W.keepIn K (.ref f13) = true)
    (a14 : PySem.W.nsIn K mainGlobals "_law_plain" = some (some (.ref f14)))
    (l14 : K.lookup f14 = some ⟨oc14, od14, .func (PySem.W.fnOf "_law_plain" "_law_plain" (defArgs s_plain) (defBody s_plain) (defScope s_plain) .none kV14 dc14 pm14 an14 cd14 ct14), sl14⟩)
    (c14 : PySem.W.codeIn K cd14 "_law_plain" = true)
    (k14 : PySem.W.keepIn K (.ref f14) = true)
    (a15 : PySem.W.nsIn K mainGlobals "_law_sorted" = some (some (.ref f15)))
    (l15 : K.lookup f15 = some ⟨oc15, od15, .func (PySem.W.fnOf "_law_sorted" "_law_sorted" (defArgs s_lsorted) (defBody s_lsorted) (defScope s_lsorted) .none kV15 dc15 pm15 an15 cd15 ct15), sl15⟩)
    (c15 : PySem.W.codeIn K cd15 "_law_sorted" = true)
    (k15 : PySem.W.keepIn K (.ref f15) = true)
    (a16 : PySem.W.nsIn K mainGlobals "_law_normal" = some (some (.ref f16)))
    (l16 : K.lookup f16 = some ⟨oc16, od16, .func (PySem.W.fnOf "_law_normal" "_law_normal" (defArgs s_lnormal) (defBody s_lnormal) (defScope s_lnormal) .none kV16 dc16 pm16 an16 cd16 ct16), sl16⟩)
    (c16 : PySem.W.codeIn K cd16 "_law_normal" = true)
    (k16 : PySem.W.keepIn K (.ref f16) = true)
    (a17 : PySem.W.nsIn K mainGlobals "_law_is" = some (some (.ref f17)))
    (l17 : K.lookup f17 = some ⟨oc17, od17, .func (PySem.W.fnOf "_law_is" "_law_is" (defArgs s_lis) (defBody s_lis) (defScope s_lis) .none kV17 dc17 pm17 an17 cd17 ct17), sl17⟩)
    (c17 : PySem.W.codeIn K cd17 "_law_is" = true)
    (k17 : PySem.W.keepIn K (.ref f17) = true)
    (a18 : PySem.W.nsIn K mainGlobals "_law_refused" = some (some (.ref f18)))
    (l18 : K.lookup f18 = some ⟨oc18, od18, .func (PySem.W.fnOf "_law_refused" "_law_refused" (defArgs s_lrefused) (defBody s_lrefused) (defScope s_lrefused) .none kV18 dc18 pm18 an18 cd18 ct18), sl18⟩)
    (c18 : PySem.W.codeIn K cd18 "_law_refused" = true)
    (k18 : PySem.W.keepIn K (.ref f18) = true)
    (a19 : PySem.W.nsIn K mainGlobals "_law_no_out" = some (some (.ref f19)))
    (l19 : K.lookup f19 = some ⟨oc19, od19, .func (PySem.W.fnOf "_law_no_out" "_law_no_out" (defArgs s_lno_out) (defBody s_lno_out) (defScope s_lno_out) .none kV19 dc19 pm19 an19 cd19 ct19), sl19⟩)
    (c19 : PySem.W.codeIn K cd19 "_law_no_out" = true)
    (k19 : PySem.W.keepIn K (.ref f19) = true)
    (a20 : PySem.W.nsIn K mainGlobals "law" = some (some (.ref f20)))
    (l20 : K.lookup f20 = some ⟨oc20, od20, .func (PySem.W.fnOf "law" "law" (defArgs s_law) (defBody s_law) (defScope s_law) .none kV20 dc20 pm20 an20 cd20 ct20), sl20⟩)
    (c20 : PySem.W.codeIn K cd20 "law" = true)
    (k20 : PySem.W.keepIn K (.ref f20) = true)
    (zValueError : PySem.W.nsIn K mainGlobals "ValueError" = some none)
    (zabs : PySem.W.nsIn K mainGlobals "abs" = some none)
    (zbool : PySem.W.nsIn K mainGlobals "bool" = some none)
    (zdict : PySem.W.nsIn K mainGlobals "dict" = some none)
    (zint : PySem.W.nsIn K mainGlobals "int" = some none)
    (zisinstance : PySem.W.nsIn K mainGlobals "isinstance" = some none)
    (zlen : PySem.W.nsIn K mainGlobals "len" = some none)
    (zlist : PySem.W.nsIn K mainGlobals "list" = some none)
    (zmin : PySem.W.nsIn K mainGlobals "min" = some none)
    (zrange : PySem.W.nsIn K mainGlobals "range" = some none)
    (zset : PySem.W.nsIn K mainGlobals "set" = some none)
    (zsorted : PySem.W.nsIn K mainGlobals "sorted" = some none)
    (zstr : PySem.W.nsIn K mainGlobals "str" = some none)
    (ztuple : PySem.W.nsIn K mainGlobals "tuple" = some none)
    (xL_LivesError : K.lookup xLivesError = some (excClassObj nmLivesError qLivesError xLivesError NLivesError bsLivesError bmLivesError true snLivesError subLivesError abLivesError colLivesError ddLivesError m0LivesError m1LivesError m2LivesError m3LivesError m5LivesError "ValueError.__new__"))
    (xR_LivesError : PySem.HandSPX.refsVE bmLivesError = true)
    (sa_LivesError : PySem.W.findIn K (.ref xLivesError) "__setattr__" = some (some (.builtin "object.__setattr__")))
    (eC_LivesError : PySem.W.subIn K (.ref xLivesError) (.type "BaseException") = some true)
    (tC_LivesError : PySem.W.typeIn K (.ref xLivesError) = some (.type "type"))
    (kc_LivesError : PySem.W.keepIn K (.ref xLivesError) = true)
    (nw_LivesError : PySem.W.findIn K (.ref xLivesError) "what" = some none)
    (ii_LivesError : PySem.W.findIn K (.ref xLivesError) "__init__" = some (some (.ref f1)))
    (ga_LivesError : PySem.W.findIn K (.ref xLivesError) "__getattribute__" = some (some (.builtin "BaseException.__getattribute__")))
    (gg_LivesError : PySem.W.findIn K (.ref xLivesError) "__getattr__" = some none)
    (hd_LivesError : PySem.W.hasDictIn K xLivesError = true)
    (xL_UnknownName : K.lookup xUnknownName = some (excClassObj nmUnknownName qUnknownName xUnknownName NUnknownName bsUnknownName bmUnknownName true snUnknownName subUnknownName abUnknownName colUnknownName ddUnknownName m0UnknownName m1UnknownName m2UnknownName m3UnknownName m5UnknownName "ValueError.__new__"))
    (xR_UnknownName : PySem.HandSPX.refsVE bmUnknownName = true)
    (sa_UnknownName : PySem.W.findIn K (.ref xUnknownName) "__setattr__" = some (some (.builtin "object.__setattr__")))
    (eC_UnknownName : PySem.W.subIn K (.ref xUnknownName) (.type "BaseException") = some true)
    (tC_UnknownName : PySem.W.typeIn K (.ref xUnknownName) = some (.type "type"))
    (kc_UnknownName : PySem.W.keepIn K (.ref xUnknownName) = true)
    (nw_UnknownName : PySem.W.findIn K (.ref xUnknownName) "what" = some none)
    (ii_UnknownName : PySem.W.findIn K (.ref xUnknownName) "__init__" = some (some (.ref f1)))
    (ga_UnknownName : PySem.W.findIn K (.ref xUnknownName) "__getattribute__" = some (some (.builtin "BaseException.__getattribute__")))
    (gg_UnknownName : PySem.W.findIn K (.ref xUnknownName) "__getattr__" = some none)
    (hd_UnknownName : PySem.W.hasDictIn K xUnknownName = true)
    (xL_OtherOuts : K.lookup xOtherOuts = some (excClassObj nmOtherOuts qOtherOuts xOtherOuts NOtherOuts bsOtherOuts bmOtherOuts true snOtherOuts subOtherOuts abOtherOuts colOtherOuts ddOtherOuts m0OtherOuts m1OtherOuts m2OtherOuts m3OtherOuts m5OtherOuts "ValueError.__new__"))
    (xR_OtherOuts : PySem.HandSPX.refsVE bmOtherOuts = true)
    (sa_OtherOuts : PySem.W.findIn K (.ref xOtherOuts) "__setattr__" = some (some (.builtin "object.__setattr__")))
    (eC_OtherOuts : PySem.W.subIn K (.ref xOtherOuts) (.type "BaseException") = some true)
    (tC_OtherOuts : PySem.W.typeIn K (.ref xOtherOuts) = some (.type "type"))
    (kc_OtherOuts : PySem.W.keepIn K (.ref xOtherOuts) = true)
    (nw_OtherOuts : PySem.W.findIn K (.ref xOtherOuts) "what" = some none)
    (ii_OtherOuts : PySem.W.findIn K (.ref xOtherOuts) "__init__" = some (some (.ref f1)))
    (ga_OtherOuts : PySem.W.findIn K (.ref xOtherOuts) "__getattribute__" = some (some (.builtin "BaseException.__getattribute__")))
    (gg_OtherOuts : PySem.W.findIn K (.ref xOtherOuts) "__getattr__" = some none)
    (hd_OtherOuts : PySem.W.hasDictIn K xOtherOuts = true)
    (pg_Effect : PySem.W.plainGet K xEffect Str.empty = true)
    (hd_Effect : PySem.W.hasDictIn K xEffect = true)
    (po_Effect : PySem.W.plainOver K xEffect = true)
    (sa_Effect : PySem.W.findIn K (.ref xEffect) "__setattr__" = some (some (.builtin "object.__setattr__")))
    (mk_Effect : PySem.W.makesIn K xEffect = true)
    (kc_Effect : PySem.W.keepIn K (.ref xEffect) = true)
    (ha_Effect : PySem.W.findIn K (.ref xEffect) "__class__" = some (some (.builtin "object.__class__")))
    (hm_Effect : PySem.W.mroIn K xEffect (.type "object") = some true)
    (rd_Effect : PySem.W.readsIn K xEffect (.type "type") = true)
    (rg_Effect : PySem.W.specialIn K (.ref xEffect) "__getattribute__" = some (some (.builtin "type.__getattribute__")))
    (na_Effect_outs : PySem.W.findIn K (.ref xEffect) "outs" = some none)
    (na_Effect_faulty : PySem.W.findIn K (.ref xEffect) "faulty" = some none)
    (na_Effect__looks : PySem.W.findIn K (.ref xEffect) "_looks" = some none)
    (na_Effect__gives : PySem.W.findIn K (.ref xEffect) "_gives" = some none)
    (hnO : PySem.W.specialIn K (.builtin "object.__class__") "__get__" = some (some (.builtin "getset_descriptor.__get__")))
    (htO : PySem.W.takesIn K (.builtin "object.__class__") = some true)
    (fa_sf_Effect : PySem.W.selfFirst K xEffect = true)
    (fa_si_uu : PySem.W.subIn K (.ref xUnknownName) (.ref xUnknownName) = some true)
    (fa_tyE : PySem.W.typeIn K (.ref xEffect) = some (.type "type"))
    (fa_sb_str : PySem.W.subIn K (.type "str") (.ref xEffect) = some false)
    : ∃ fd : FuncData, (∀ (s : Shared) (v : Value), BindsTo s fd ⟨[v], []⟩ [("_law_script", v)]) ∧ ∀ base : Heap, K.In base → base.Ns mainGlobals mg → FnOk l.prog w K mg base CX0 14 fa fd ["_law_script"] (spLaw K) := by
  have e := hfa.symm.trans (PySem.W.mg_of X G a20)
  cases e
  have F1 := fun_mk (st := s_lives_init) l1 c1 k1
  have b1 := F1.binds (ps := p_lives_init) fun _ _ _ _ _ _ us hl => match us, hl with | [_, _], _ => rfl
  have F2 := fun_mk (st := s_ascending) l2 c2 k2
  have b2 := F2.binds (ps := p_ascending) fun _ _ _ _ _ _ us hl => match us, hl with | [_], _ => rfl
  have F3 := fun_mk (st := s_normal) l3 c3 k3
  have b3 := F3.binds (ps := p_normal) fun _ _ _ _ _ _ us hl => match us, hl with | [_, _], _ => rfl
  have F5 := fun_mk (st := s_ef_looks) l5 c5 k5
  have b5 := F5.binds (ps := p_ef_looks) fun _ _ _ _ _ _ us hl => match us, hl with | [_], _ => rfl
  have F6 := fun_mk (st := s_ef_gives) l6 c6 k6
  have b6 := F6.binds (ps := p_ef_gives) fun _ _ _ _ _ _ us hl => match us, hl with | [_, _], _ => rfl
  have F7 := fun_mk (st := s_ef_nothing) l7 c7 k7
  have b7 := F7.binds (ps := p_ef_nothing) fun _ _ _ _ _ _ us hl => match us, hl with | [_, _], _ => rfl
  have F8 := fun_mk (st := s_ef_check) l8 c8 k8
  have b8 := F8.binds (ps := p_ef_check) fun _ _ _ _ _ _ us hl => match us, hl with | [_, _], _ => rfl
  have F9 := fun_mk (st := s_ef_eq) l9 c9 k9
  have b9 := F9.binds (ps := p_ef_eq) fun _ _ _ _ _ _ us hl => match us, hl with | [_, _], _ => rfl
  have F10 := fun_mk (st := s_draws) l10 c10 k10
  have b10 := F10.binds (ps := p_draws) fun _ _ _ _ _ _ us hl => match us, hl with | [_], _ => rfl
  have F11 := fun_mk (st := s_take) l11 c11 k11
  have b11 := F11.binds (ps := p_take) fun _ _ _ _ _ _ us hl => match us, hl with | [_, _], _ => rfl
  have F12 := fun_mk (st := s_name) l12 c12 k12
  have b12 := F12.binds (ps := p_name) fun _ _ _ _ _ _ us hl => match us, hl with | [_, _], _ => rfl
  have F13 := fun_mk (st := s_texts) l13 c13 k13
  have b13 := F13.binds (ps := p_texts) fun _ _ _ _ _ _ us hl => match us, hl with | [_, _], _ => rfl
  have F14 := fun_mk (st := s_plain) l14 c14 k14
  have b14 := F14.binds (ps := p_plain) fun _ _ _ _ _ _ us hl => match us, hl with | [_, _], _ => rfl
  have F15 := fun_mk (st := s_lsorted) l15 c15 k15
  have b15 := F15.binds (ps := p_lsorted) fun _ _ _ _ _ _ us hl => match us, hl with | [_], _ => rfl
  have F16 := fun_mk (st := s_lnormal) l16 c16 k16
  have b16 := F16.binds (ps := p_lnormal) fun _ _ _ _ _ _ us hl => match us, hl with | [_, _], _ => rfl
  have F17 := fun_mk (st := s_lis) l17 c17 k17
  have b17 := F17.binds (ps := p_lis) fun _ _ _ _ _ _ us hl => match us, hl with | [_, _, _], _ => rfl
  have F18 := fun_mk (st := s_lrefused) l18 c18 k18
  have b18 := F18.binds (ps := p_lrefused) fun _ _ _ _ _ _ us hl => match us, hl with | [_, _, _, _], _ => rfl
  have F19 := fun_mk (st := s_lno_out) l19 c19 k19
  have b19 := F19.binds (ps := p_lno_out) fun _ _ _ _ _ _ us hl => match us, hl with | [_, _], _ => rfl
  have F20 := fun_mk (st := s_law) l20 c20 k20
  have b20 := F20.binds (ps := p_law) fun _ _ _ _ _ _ us hl => match us, hl with | [_], _ => rfl
  let A : Adr := ⟨f0, (PySem.W.fnOf "copied" "copied" (defArgs s_copied) (defBody s_copied) (defScope s_copied) (.ref dT0) kV0 dc0 pm0 an0 cd0 ct0), f1, (PySem.W.fnOf "__init__" "LivesError.__init__" (defArgs s_lives_init) (defBody s_lives_init) (defScope s_lives_init) .none kV1 dc1 pm1 an1 cd1 ct1), f2, (PySem.W.fnOf "ascending" "ascending" (defArgs s_ascending) (defBody s_ascending) (defScope s_ascending) .none kV2 dc2 pm2 an2 cd2 ct2), f3, (PySem.W.fnOf "normal" "normal" (defArgs s_normal) (defBody s_normal) (defScope s_normal) .none kV3 dc3 pm3 an3 cd3 ct3), f4, (PySem.W.fnOf "__init__" "Effect.__init__" (defArgs s_ef_init) (defBody s_ef_init) (defScope s_ef_init) .none (.ref kD4) dc4 pm4 an4 cd4 ct4), f5, (PySem.W.fnOf "looks" "Effect.looks" (defArgs s_ef_looks) (defBody s_ef_looks) (defScope s_ef_looks) .none kV5 dc5 pm5 an5 cd5 ct5), f6, (PySem.W.fnOf "gives" "Effect.gives" (defArgs s_ef_gives) (defBody s_ef_gives) (defScope s_ef_gives) .none kV6 dc6 pm6 an6 cd6 ct6), f7, (PySem.W.fnOf "nothing" "Effect.nothing" (defArgs s_ef_nothing) (defBody s_ef_nothing) (defScope s_ef_nothing) .none kV7 dc7 pm7 an7 cd7 ct7), f8, (PySem.W.fnOf "_check_outs" "Effect._check_outs" (defArgs s_ef_check) (defBody s_ef_check) (defScope s_ef_check) .none kV8 dc8 pm8 an8 cd8 ct8), f9, (PySem.W.fnOf "__eq__" "Effect.__eq__" (defArgs s_ef_eq) (defBody s_ef_eq) (defScope s_ef_eq) .none kV9 dc9 pm9 an9 cd9 ct9), f10, (PySem.W.fnOf "_law_draws" "_law_draws" (defArgs s_draws) (defBody s_draws) (defScope s_draws) .none kV10 dc10 pm10 an10 cd10 ct10), f11, (PySem.W.fnOf "_law_take" "_law_take" (defArgs s_take) (defBody s_take) (defScope s_take) .none kV11 dc11 pm11 an11 cd11 ct11), f12, (PySem.W.fnOf "_law_name" "_law_name" (defArgs s_name) (defBody s_name) (defScope s_name) .none kV12 dc12 pm12 an12 cd12 ct12), f13, (PySem.W.fnOf "_law_texts" "_law_texts" (defArgs s_texts) (defBody s_texts) (defScope s_texts) .none kV13 dc13 pm13 an13 cd13 ct13), f14, (PySem.W.fnOf "_law_plain" "_law_plain" (defArgs s_plain) (defBody s_plain) (defScope s_plain) .none kV14 dc14 pm14 an14 cd14 ct14), f15, (PySem.W.fnOf "_law_sorted" "_law_sorted" (defArgs s_lsorted) (defBody s_lsorted) (defScope s_lsorted) .none kV15 dc15 pm15 an15 cd15 ct15), f16, (PySem.W.fnOf "_law_normal" "_law_normal" (defArgs s_lnormal) (defBody s_lnormal) (defScope s_lnormal) .none kV16 dc16 pm16 an16 cd16 ct16), f17, (PySem.W.fnOf "_law_is" "_law_is" (defArgs s_lis) (defBody s_lis) (defScope s_lis) .none kV17 dc17 pm17 an17 cd17 ct17), f18, (PySem.W.fnOf "_law_refused" "_law_refused" (defArgs s_lrefused) (defBody s_lrefused) (defScope s_lrefused) .none kV18 dc18 pm18 an18 cd18 ct18), f19, (PySem.W.fnOf "_law_no_out" "_law_no_out" (defArgs s_lno_out) (defBody s_lno_out) (defScope s_lno_out) .none kV19 dc19 pm19 an19 cd19 ct19), fa, (PySem.W.fnOf "law" "law" (defArgs s_law) (defBody s_law) (defScope s_law) .none kV20 dc20 pm20 an20 cd20 ct20), kT4looks, pr5, pr7, xLivesError, xUnknownName, xOtherOuts, xEffect⟩
  have T : Tx K mg A := {
    F_copied := ⟨⟨_, _, _, _, _, _, _, _, _, _, rfl, l0, c0, .inr ⟨(fun z => nomatch z), _, _, _, _, rfl, dl0, rfl, (.cons ⟨_, rfl⟩ .nil)⟩, .inl rfl⟩, k0⟩,
    g_copied := PySem.W.mg_of X G a0,
    F_lives_init := F1,
    b_lives_init := b1,
    ti_lives_init := i1,
    F_ascending := F2,
    b_ascending := b2,
    g_ascending := PySem.W.mg_of X G a2,
    F_normal := F3,
    b_normal := b3,
    g_normal := PySem.W.mg_of X G a3,
    F_ef_init := ⟨⟨_, _, _, _, _, _, _, _, _, _, rfl, l4, c4, .inl ⟨rfl, rfl⟩, .inr ⟨_, rfl, fun q hq => by
      simp only [List.mem_cons, List.not_mem_nil, or_false] at hq
      rcases hq with rfl | rfl | rfl
      · exact ⟨_, kw4looks, rfl⟩
      · exact ⟨_, kw4gives, rfl⟩
      · exact ⟨_, kw4faulty, rfl⟩⟩⟩, k4⟩,
    q_ef_init_looks := fun H => .inr ⟨_, _, _, kl4looks, rfl, rfl, by decide, .nil⟩,
    o_ef_init_looks := ⟨_, kl4looks, rfl⟩,
    e_ef_init := ⟨a4, i4, k4⟩,
    F_ef_looks := F5,
    b_ef_looks := b5,
    r_ef_looks := ⟨a5, pg5, pt5, _, pc5⟩,
    F_ef_gives := F6,
    b_ef_gives := b6,
    e_ef_gives := ⟨a6, i6, k6⟩,
    F_ef_nothing := F7,
    b_ef_nothing := b7,
    cm_ef_nothing := ⟨a7, ⟨_, pc7⟩, fi7⟩,
    F_ef_check := F8,
    b_ef_check := b8,
    e_ef_check := ⟨a8, i8, k8⟩,
    F_ef_eq := F9,
    b_ef_eq := b9,
    e_ef_eq := ⟨a9, i9, k9⟩,
    F_draws := F10,
    b_draws := b10,
    g_draws := PySem.W.mg_of X G a10,
    F_take := F11,
    b_take := b11,
    g_take := PySem.W.mg_of X G a11,
    F_name := F12,
    b_name := b12,
    g_name := PySem.W.mg_of X G a12,
    F_texts := F13,
    b_texts := b13,
    g_texts := PySem.W.mg_of X G a13,
    F_plain := F14,
    b_plain := b14,
    g_plain := PySem.W.mg_of X G a14,
    F_lsorted := F15,
    b_lsorted := b15,
    g_lsorted := PySem.W.mg_of X G a15,
    F_lnormal := F16,
    b_lnormal := b16,
    g_lnormal := PySem.W.mg_of X G a16,
    F_lis := F17,
    b_lis := b17,
    g_lis := PySem.W.mg_of X G a17,
    F_lrefused := F18,
    b_lrefused := b18,
    g_lrefused := PySem.W.mg_of X G a18,
    F_lno_out := F19,
    b_lno_out := b19,
    g_lno_out := PySem.W.mg_of X G a19,
    F_law := F20,
    b_law := b20,
    g_law := PySem.W.mg_of X G a20,
    m_ValueError := PySem.W.mg_none_of X G zValueError,
    m_abs := PySem.W.mg_none_of X G zabs,
    m_bool := PySem.W.mg_none_of X G zbool,
    m_dict := PySem.W.mg_none_of X G zdict,
    m_int := PySem.W.mg_none_of X G zint,
    m_isinstance := PySem.W.mg_none_of X G zisinstance,
    m_len := PySem.W.mg_none_of X G zlen,
    m_list := PySem.W.mg_none_of X G zlist,
    m_min := PySem.W.mg_none_of X G zmin,
    m_range := PySem.W.mg_none_of X G zrange,
    m_set := PySem.W.mg_none_of X G zset,
    m_sorted := PySem.W.mg_none_of X G zsorted,
    m_str := PySem.W.mg_none_of X G zstr,
    m_tuple := PySem.W.mg_none_of X G ztuple,
    g_LivesError := PySem.W.mg_of X G aCLivesError,
    ex_LivesError := ⟨⟨⟨_, _, _, _, _, _, _, _, _, _, _, _, _, _, _, xL_LivesError, xR_LivesError⟩, sa_LivesError, eC_LivesError, tC_LivesError, kc_LivesError⟩, ii_LivesError, nw_LivesError, ⟨ga_LivesError, gg_LivesError, eC_LivesError, hd_LivesError⟩⟩,
    g_UnknownName := PySem.W.mg_of X G aCUnknownName,
    ex_UnknownName := ⟨⟨⟨_, _, _, _, _, _, _, _, _, _, _, _, _, _, _, xL_UnknownName, xR_UnknownName⟩, sa_UnknownName, eC_UnknownName, tC_UnknownName, kc_UnknownName⟩, ii_UnknownName, nw_UnknownName, ⟨ga_UnknownName, gg_UnknownName, eC_UnknownName, hd_UnknownName⟩⟩,
    g_OtherOuts := PySem.W.mg_of X G aCOtherOuts,
    ex_OtherOuts := ⟨⟨⟨_, _, _, _, _, _, _, _, _, _, _, _, _, _, _, xL_OtherOuts, xR_OtherOuts⟩, sa_OtherOuts, eC_OtherOuts, tC_OtherOuts, kc_OtherOuts⟩, ii_OtherOuts, nw_OtherOuts, ⟨ga_OtherOuts, gg_OtherOuts, eC_OtherOuts, hd_OtherOuts⟩⟩,
    g_Effect := PySem.W.mg_of X G aCEffect,
    cl_Effect := ⟨pg_Effect, hd_Effect, po_Effect, sa_Effect⟩,
    ty_Effect := ⟨ha_Effect, hnO, htO, hm_Effect⟩,
    mk_Effect := ⟨mk_Effect, a4, i4, kc_Effect⟩,
    cr_Effect := ⟨rd_Effect, rg_Effect⟩,
    na_Effect_outs := na_Effect_outs,
    na_Effect_faulty := na_Effect_faulty,
    na_Effect__looks := na_Effect__looks,
    na_Effect__gives := na_Effect__gives,
    ke_own := UL.kit_own,
    te_uu := UL.exm_cls eC_UnknownName hd_UnknownName tC_UnknownName fa_si_uu,
    ks_str := UL.kit_type_ref hd_Effect fa_tyE fa_sb_str,
    sf_Effect := fa_sf_Effect,
    si_uu := fa_si_uu,
    tyE := fa_tyE,
    sb_str := fa_sb_str }
  exact ⟨_, fun s v => .of_eq rfl, fun base _ _ => ok_law T⟩
end K61
open PySem PySem.W PyProof.Rows
set_option maxHeartbeats 0 in
theorem PySem.Challenge.cw_unnamedlives_k61_effect_parts_holds : PySem.Challenge.rw_unnamedlives_k61_effect_parts.Holds := by
  w_on; o_law; k_head; (case hw => w_witness2)
  k_fill
  refine L2.walk_of (l := PySem.Challenge.rw_unnamedlives_k61_effect_parts) (n := 63) (k := 14) (x := "_law_script") (CX := fun _ => L2.CX0) (sp := fun w => K61.spLaw _) rfl (by decide) rfl ⟨rfl, by decide, by decide⟩ (fun w h Y => PySem.W.kIn_of Y) ?F (fun _ _ a ns hl _ hS => ⟨a, ns, rfl, hS, hl, fun _ => rfl⟩) (fun _ _ _ _ _ h => h)
  case F =>
    intro w mg fa h KX G hmg
    refine' K61.all_mk KX G hmg ?aCLivesError ?aCUnknownName ?aCOtherOuts ?aCEffect ?a0 ?l0 ?dl0 ?c0 ?k0 ?a1 ?i1 ?l1 ?c1 ?k1 ?a2 ?l2 ?c2 ?k2 ?a3 ?l3 ?c3 ?k3 ?a4 ?i4 ?l4 ?c4 ?k4 ?kw4looks ?kl4looks ?kw4gives ?kw4faulty ?a5 ?pg5 ?pt5 ?pc5 ?l5 ?c5 ?k5 ?a6 ?i6 ?l6 ?c6 ?k6 ?a7 ?pc7 ?fi7 ?l7 ?c7 ?k7 ?a8 ?i8 ?l8 ?c8 ?k8 ?a9 ?i9 ?l9 ?c9 ?k9 ?a10 ?l10 ?c10 ?k10 ?a11 ?l11 ?c11 ?k11 ?a12 ?l12 ?c12 ?k12 ?a13 ?l13 ?c13 ?k13 ?a14 ?l14 ?c14 ?k14 ?a15 ?l15 ?c15 ?k15 ?a16 ?l16 ?c16 ?k16 ?a17 ?l17 ?c17 ?k17 ?a18 ?l18 ?c18 ?k18 ?a19 ?l19 ?c19 ?k19 ?a20 ?l20 ?c20 ?k20 ?zValueError ?zabs ?zbool ?zdict ?zint ?zisinstance ?zlen ?zlist ?zmin ?zrange ?zset ?zsorted ?zstr ?ztuple ?xL_LivesError ?xR_LivesError ?sa_LivesError ?eC_LivesError ?tC_LivesError ?kc_LivesError ?nw_LivesError ?ii_LivesError ?ga_LivesError ?gg_LivesError ?hd_LivesError ?xL_UnknownName ?xR_UnknownName ?sa_UnknownName ?eC_UnknownName ?tC_UnknownName ?kc_UnknownName ?nw_UnknownName ?ii_UnknownName ?ga_UnknownName ?gg_UnknownName ?hd_UnknownName ?xL_OtherOuts ?xR_OtherOuts ?sa_OtherOuts ?eC_OtherOuts ?tC_OtherOuts ?kc_OtherOuts ?nw_OtherOuts ?ii_OtherOuts ?ga_OtherOuts ?gg_OtherOuts ?hd_OtherOuts ?pg_Effect ?hd_Effect ?po_Effect ?sa_Effect ?mk_Effect ?kc_Effect ?ha_Effect ?hm_Effect ?rd_Effect ?rg_Effect ?na_Effect_outs ?na_Effect_faulty ?na_Effect__looks ?na_Effect__gives ?hnO ?htO ?fa_sf_Effect ?fa_si_uu ?fa_tyE ?fa_sb_str
    (case aCLivesError => k_is)
    (case aCUnknownName => k_is)
    (case aCOtherOuts => k_is)
    (case aCEffect => k_is)
    (case a0 => k_is)
    (case l0 => k_is)
    (case dl0 => k_is)
    (case c0 => k_is)
    (case k0 => k_is)
    (case a1 => k_is)
    (case i1 => k_is)
    (case l1 => k_is)
    (case c1 => k_is)
    (case k1 => k_is)
    (case a2 => k_is)
    (case l2 => k_is)
    (case c2 => k_is)
    (case k2 => k_is)
    (case a3 => k_is)
    (case l3 => k_is)
    (case c3 => k_is)
    (case k3 => k_is)
    (case a4 => k_is)
    (case i4 => k_is)
    (case l4 => k_is)
    (case c4 => k_is)
    (case k4 => k_is)
    (case kw4looks => k_is)
    (case kl4looks => k_is)
    (case kw4gives => k_is)
    (case kw4faulty => k_is)
    (case a5 => k_is)
    (case pg5 => k_is)
    (case pt5 => k_is)
    (case pc5 => k_is)
    (case l5 => k_is)
    (case c5 => k_is)
    (case k5 => k_is)
    (case a6 => k_is)
    (case i6 => k_is)
    (case l6 => k_is)
    (case c6 => k_is)
    (case k6 => k_is)
    (case a7 => k_is)
    (case pc7 => k_is)
    (case fi7 => k_is)
    (case l7 => k_is)
    (case c7 => k_is)
    (case k7 => k_is)
    (case a8 => k_is)
    (case i8 => k_is)
    (case l8 => k_is)
    (case c8 => k_is)
    (case k8 => k_is)
    (case a9 => k_is)
    (case i9 => k_is)
    (case l9 => k_is)
    (case c9 => k_is)
    (case k9 => k_is)
    (case a10 => k_is)
    (case l10 => k_is)
    (case c10 => k_is)
    (case k10 => k_is)
    (case a11 => k_is)
    (case l11 => k_is)
    (case c11 => k_is)
    (case k11 => k_is)
    (case a12 => k_is)
    (case l12 => k_is)
    (case c12 => k_is)
    (case k12 => k_is)
    (case a13 => k_is)
    (case l13 => k_is)
    (case c13 => k_is)
    (case k13 => k_is)
    (case a14 => k_is)
    (case l14 => k_is)
    (case c14 => k_is)
    (case k14 => k_is)
    (case a15 => k_is)
    (case l15 => k_is)
    (case c15 => k_is)
    (case k15 => k_is)
    (case a16 => k_is)
    (case l16 => k_is)
    (case c16 => k_is)
    (case k16 => k_is)
    (case a17 => k_is)
    (case l17 => k_is)
    (case c17 => k_is)
    (case k17 => k_is)
    (case a18 => k_is)
    (case l18 => k_is)
    (case c18 => k_is)
    (case k18 => k_is)
    (case a19 => k_is)
    (case l19 => k_is)
    (case c19 => k_is)
    (case k19 => k_is)
    (case a20 => k_is)
    (case l20 => k_is)
    (case c20 => k_is)
    (case k20 => k_is)
    (case zValueError => k_is)
    (case zabs => k_is)
    (case zbool => k_is)
    (case zdict => k_is)
    (case zint => k_is)
    (case zisinstance => k_is)
    (case zlen => k_is)
    (case zlist => k_is)
    (case zmin => k_is)
    (case zrange => k_is)
    (case zset => k_is)
    (case zsorted => k_is)
    (case zstr => k_is)
    (case ztuple => k_is)
    (case xL_LivesError => k_is)
    (case xR_LivesError => decide +kernel)
    (case sa_LivesError => k_is)
    (case eC_LivesError => k_is)
    (case tC_LivesError => k_is)
    (case kc_LivesError => k_is)
    (case nw_LivesError => k_is)
    (case ii_LivesError => k_is)
    (case ga_LivesError => k_is)
    (case gg_LivesError => k_is)
    (case hd_LivesError => k_is)
    (case xL_UnknownName => k_is)
    (case xR_UnknownName => decide +kernel)
    (case sa_UnknownName => k_is)
    (case eC_UnknownName => k_is)
    (case tC_UnknownName => k_is)
    (case kc_UnknownName => k_is)
    (case nw_UnknownName => k_is)
    (case ii_UnknownName => k_is)
    (case ga_UnknownName => k_is)
    (case gg_UnknownName => k_is)
    (case hd_UnknownName => k_is)
    (case xL_OtherOuts => k_is)
    (case xR_OtherOuts => decide +kernel)
    (case sa_OtherOuts => k_is)
    (case eC_OtherOuts => k_is)
    (case tC_OtherOuts => k_is)
    (case kc_OtherOuts => k_is)
    (case nw_OtherOuts => k_is)
    (case ii_OtherOuts => k_is)
    (case ga_OtherOuts => k_is)
    (case gg_OtherOuts => k_is)
    (case hd_OtherOuts => k_is)
    (case pg_Effect => k_is)
    (case hd_Effect => k_is)
    (case po_Effect => k_is)
    (case sa_Effect => k_is)
    (case mk_Effect => k_is)
    (case kc_Effect => k_is)
    (case ha_Effect => k_is)
    (case hm_Effect => k_is)
    (case rd_Effect => k_is)
    (case rg_Effect => k_is)
    (case na_Effect_outs => k_is)
    (case na_Effect_faulty => k_is)
    (case na_Effect__looks => k_is)
    (case na_Effect__gives => k_is)
    (case hnO => k_is)
    (case htO => k_is)
    (case fa_sf_Effect => k_is)
    (case fa_si_uu => k_is)
    (case fa_tyE => k_is)
    (case fa_sb_str => k_is)
