import PyProof.Rows.All
import Wide.All
import OpenK.AllK
import Wide.FinOn
import HandS.ForMost
import HandS.Walk
import HandS.Evl
import HandS.IsInst
import HandS.Exc
import HandS.TryOnly
import HandS.ExcOwn
import HandS.ExcInit
import HandS.ExcField
import HandS.WordsExc
import HandS.Defaults
import HandS.MakeKw
import HandS.MakeKwOnly
import HandS.Property
import KE.KExcIs
import HandS.ClsMeth
import HandS.Star
import OpenK.KMeth
import OpenK.KOps
import HandS.IterVal
import HandS.OwnIter
import HandS.ExcValue
import HandS.Iter
import HandS.More
import HandS.CallLocal
import PyProof.Draws
import PyProof.EnumMake
import HandS.FStr
import HandS.DictComp
import HandS.RevRange
import HandS.Conv
import PySem.Challenge.RW_unnamedlives_k11_part_text
set_option Elab.async false
set_option linter.all false
set_option maxRecDepth 100000
/-! own: a list of draws as ONE unchanging thing of the abstract heap; small words -/
namespace UL
open PySem PySem.Spec PyProof.Rows L2 Evl TL

/-! ### draws -/
def Good (ns : List Int) : Prop := (∀ m ∈ ns, 0 ≤ m ∧ m < 1000003) ∧ ns.length ≤ 4000
def drObj (d : Addr) (h : Heap) : Prop := ∃ (ns : List Int) (its : List Value) (n : Nat), Good ns ∧ Vals (ns.map V.int) its ∧ h.get? d = some { cls := .type "list", data := .seq its.toArray n }
def DrO (d : Addr) : HO := .ext (drObj d)
theorem good_sz {ns : List Int} (g : Good ns) : (ns.map V.int).length ≤ sizeLine := by
  rw [List.length_map]
  exact Nat.le_trans g.2 (by decide)
section
variable {X : Cx} {pins : List (Addr × Obj)} {σ : L2.St} {H : Hp} {s : Shared} {d : Addr}
theorem inv_open (I : Inv X pins σ H s) (h : H d = some (DrO d)) : ∃ ns, Good ns ∧ Inv X pins σ (upd H d (.lst (ns.map V.int))) s := by
  obtain ⟨⟨ns, its, n, g, r, e⟩, _, _⟩ := I.hok d _ h
  exact ⟨ns, g, I.write (x := d) (e := d) (h' := s.heap) (t' := s.toks) (by rw [h]; trivial) (.inl rfl) (fun _ _ _ q => q) ⟨_, e⟩ ⟨good_sz g, its, n, r, e⟩⟩
theorem inv_close {ns : List Int} (I : Inv X pins σ H s) (h : H d = some (.lst (ns.map V.int))) (g : Good ns) : Inv X pins σ (upd H d (DrO d)) s := by
  obtain ⟨z, its, n, r, e⟩ := I.hok d _ h
  exact I.write (x := d) (e := d) (h' := s.heap) (t' := s.toks) (by rw [h]; trivial) (.inl rfl) (fun _ _ _ q => q) ⟨_, e⟩
    ⟨⟨ns, its, n, g, r, e⟩, ⟨_, e⟩, fun h1 h2 ⟨ns', its', n', g', r', e'⟩ k => ⟨ns', its', n', g', r', k _ e'⟩⟩
/-- the list of draws in slot i is opened ahead of the statements -/
def tOpen (i : Nat) (t : TS) : TS := fun D σ H => ∃ d, σ[i]? = some (some (.ref d)) ∧ H d = some (DrO d) ∧ ∀ ns, Good ns → t D σ (upd H d (.lst (ns.map V.int)))
theorem pss_open (i : Nat) {sts : List Stmt} {t : TS} (h : PSs X sts t) : PSs X sts (tOpen i t) := by
  refine ⟨fun pins s σ H D I q => ?_⟩
  obtain ⟨d, _, hd, k⟩ := q
  obtain ⟨ns, g, J⟩ := inv_open I hd
  exact h.run pins s σ _ D J (k ns g)
/-- .. and closed behind an expression -/
def tClose (t : TE) : TE := fun σ H Q => t σ H fun v H1 => ∃ d ns, H1 d = some (.lst (ns.map V.int)) ∧ Good ns ∧ Q v (upd H1 d (DrO d))
theorem pe_close {e : Expr} {t : TE} (h : PE X e t) : PE X e (tClose t) := by
  refine ⟨fun pins s σ H Q I q => ?_⟩
  refine thn (h.run pins s σ H _ I q) fun u s1 ⟨v, H1, I1, r, d, ns, hd, g, k⟩ => ?_
  exact ⟨v, _, inv_close I1 hd g, r, k⟩
end
theorem upd_back {H : Hp} {d : Addr} {o u : HO} (h : H d = some o) : upd (upd H d u) d o = H := by
  funext b
  unfold upd
  by_cases e : b = d
  · rw [if_pos e, e, h]
  · rw [if_neg e, if_neg e]
theorem upd_id {H : Hp} {d : Addr} {o : HO} (h : H d = some o) : upd H d o = H := by
  funext b
  unfold upd
  by_cases e : b = d
  · rw [if_pos e, e, h]
  · rw [if_neg e]
theorem same_upd {H : Hp} {p : Addr} {o : HO} (h : H p = none) : Same H (upd H p o) := fun b x e => by
  rw [upd_ne (ne_of_none e h)]
  exact e
theorem _root_.Evl.Ex.free' {H H' : Hp} {p : Addr} (e : Ex H H') (h : H' p = none) : H p = none := fresh_back e h
theorem good_tail {n : Int} {ns : List Int} (g : Good (n :: ns)) : 0 ≤ n ∧ n < 1000003 ∧ Good ns :=
  ⟨(g.1 n List.mem_cons_self).1, (g.1 n List.mem_cons_self).2, fun m hm => g.1 m (List.mem_cons_of_mem _ hm), Nat.le_trans (Nat.le_succ _) g.2⟩
theorem good_nil : Good [] := ⟨fun _ h => (nomatch h), by decide⟩
theorem good_add {ns : List Int} {n : Int} (g : ∀ m ∈ ns, 0 ≤ m ∧ m < 1000003) (h : 0 ≤ n ∧ n < 1000003) : ∀ m ∈ ns ++ [n], 0 ≤ m ∧ m < 1000003 := fun m hm => by
  rcases List.mem_append.mp hm with h1 | h1
  · exact g m h1
  · rw [List.mem_singleton.mp h1]
    exact h

/-! ### text * int -/
theorem op_mul_str {X : Cx} : OpR X (binaryOp .Mult) (fun x y H Q => ∃ (z : Str) (n : Int), x = .str z ∧ y = .int n ∧ MulOk z n ∧ Q (.str (Txt.mul z n)) H) := by
  intro pins s σ H x y v u Q I rx ry h
  obtain ⟨i, j, rfl, rfl, hz, q⟩ := h
  obtain ⟨t, rfl⟩ := rx
  obtain ⟨t', rfl⟩ := ry
  exact SB.mul hz (fun t' tk => ⟨.str (Txt.mul i j), H, I.tok _, ⟨_, rfl⟩, q⟩)
theorem mulOk_small {z : Str} {n : Int} (hz : z.length ≤ 64) (h0 : 0 ≤ n) (h1 : n ≤ 64) : MulOk z n := by
  refine ⟨?_, fun h2 _ => ?_, fun _ _ => ?_⟩
  · rw [decide_eq_false (by omega), decide_eq_false (by omega)]
    rfl
  · intro h
    have h3 : (64 : Int) ≤ (2 ^ 63 - 1) / n := (Int.le_ediv_iff_mul_le (by omega)).mpr (by omega)
    omega
  · unfold PySem.Builtin.Str.tooLong
    refine decide_eq_false ?_
    have h3 : z.length * n.toNat ≤ 64 * 64 := Nat.mul_le_mul hz (by omega)
    have h4 : (64 * 64 : Nat) ≤ sizeLine := by decide
    omega
theorem tl_reps (x : Array Nat) : ∀ (k : Nat) (a : Array Nat), ((List.replicate k x).foldl (· ++ ·) a).toList = a.toList ++ (List.replicate k x.toList).flatten
  | 0, a => by simp
  | k + 1, a => by
    rw [List.replicate_succ, List.foldl_cons, tl_reps x k (a ++ x), List.replicate_succ, List.flatten_cons, Array.toList_append, List.append_assoc]
theorem tl_mul (z : Str) (n : Int) : tl (Txt.mul z n) = (List.replicate n.toNat (tl z)).flatten := by
  unfold Txt.mul
  by_cases h1 : n < 1
  · rw [if_pos h1, show n.toNat = 0 by omega]
    rfl
  · rw [if_neg h1]
    by_cases h2 : (n == 1 || z.length == 0) = true
    · rw [if_pos h2]
      rcases Bool.or_eq_true _ _ ▸ h2 with h3 | h3
      · have : n = 1 := by simpa using h3
        subst this
        show tl z = (List.replicate 1 (tl z)).flatten
        simp
      · have h4 : (tl z) = [] := by
          have : z.length = 0 := by simpa using h3
          rw [len_tl] at this
          exact List.eq_nil_of_length_eq_zero this
        rw [h4]
        simp
    · rw [if_neg h2]
      show ((List.replicate n.toNat z.cps).foldl (· ++ ·) #[]).toList = _
      rw [tl_reps]
      rfl

theorem rel_of {x : V} {u : Value} (h : absV u = some x) : RelV x u := by
  cases u <;> first | (cases h; done) | (cases h; exact rfl) | (cases h; exact ⟨_, rfl⟩)
theorem vals_of : ∀ {xs : List V} {us : List Value}, us.map absV = xs.map some → Vals xs us
  | [], [], _ => .nil
  | [], _ :: _, h => (nomatch h)
  | _ :: _, [], h => (nomatch h)
  | x :: xs, u :: us, h => by
    rw [List.map_cons, List.map_cons] at h
    exact .cons (rel_of (List.cons.inj h).1) (vals_of (List.cons.inj h).2)
theorem dp_strs {K : PySem.W.Frag} {H : Hp} : ∀ zs : List Str, DpAll K H (zs.map V.str) (zs.map PyData.str)
  | [] => .nil
  | z :: r => .cons (.str z) (dp_strs r)
/-! ### loops -/
section
variable {D : Ends} {tb : TS} {j : Nat} {σ : L2.St} {H : Hp}
theorem forR1 {n : Int} (hn : -(2 ^ 62) ≤ n ∧ n < 2 ^ 62) (Pv : Nat → L2.St → Hp → Prop) (h0 : Pv 0 σ H)
    (hs : ∀ (i : Nat) σ' H', (i : Int) < n → Pv i σ' H' → tb { D with nx := Pv (i + 1), ct := Pv (i + 1), bk := D.nx } (σ'.set j (some (.int (i : Int)))) H') (hd : ∀ σ' H', Pv n.toNat σ' H' → D.nx σ' H') :
    -(2 ^ 62) ≤ n ∧ n < 2 ^ 62 ∧ ∃ W : Nat → Nat → L2.St → Hp → Prop, (∃ m, W 0 m σ H) ∧ ∀ i m σ H, W i m σ H →
      ((Itr 0 n.toNat).stop i H ∧ D.nx σ H) ∨ ((Itr 0 n.toNat).go i H ∧ ∃ N : L2.St → Hp → Prop, (∀ σ' H', N σ' H' → ∃ m', m' < m ∧ W (i + 1) m' σ' H') ∧ ∀ x H', (Itr 0 n.toNat).yld i H x H' → gName j x σ H' fun σ2 H2 => tb { D with nx := N, ct := N, bk := D.nx } σ2 H2) :=
  ⟨hn.1, hn.2, for_range (lo := 0) (n := n.toNat) Pv h0 (fun i σ' H' hi p => by
    have e0 : (0 : Int) + (i : Int) = (i : Int) := Int.zero_add _
    show tb { D with nx := Pv (i + 1), ct := Pv (i + 1), bk := D.nx } (σ'.set j (some (.int ((0 : Int) + (i : Int))))) H'
    rw [e0]
    exact hs i σ' H' (by omega) p) hd⟩
end
theorem seq0 (n : Nat) : seqIndex? 0 (n + 1) = some 0 := by
  unfold seqIndex?
  have h : (0 : Int) < ((n + 1 : Nat) : Int) := by omega
  have h2 : (0 ≤ (0 : Int) && decide ((0 : Int) < ((n + 1 : Nat) : Int))) = true := by
    rw [decide_eq_true h]
    rfl
  show (if (0 ≤ (0 : Int) && decide ((0 : Int) < ((n + 1 : Nat) : Int))) = true then some (0 : Int).toNat else none) = some 0
  rw [if_pos h2]
  rfl
theorem at_lt {α : Type} {xs : List α} {n : Int} (h0 : 0 ≤ n) (h1 : n < (xs.length : Int)) : ∃ c, atI xs n = some c := by
  obtain ⟨m, rfl⟩ := Int.eq_ofNat_of_zero_le h0
  have hm : m < xs.length := by omega
  exact ⟨xs[m], atI_nat (List.getElem?_eq_getElem hm)⟩
theorem at_in {α : Type} {xs : List α} {n : Int} (h0 : 0 ≤ n) (h1 : n < (xs.length : Int)) : ∃ c, atI xs n = some c ∧ c ∈ xs := by
  obtain ⟨m, rfl⟩ := Int.eq_ofNat_of_zero_le h0
  have hm : m < xs.length := by omega
  exact ⟨xs[m], atI_nat (List.getElem?_eq_getElem hm), List.getElem_mem hm⟩
theorem emod_in {a : Int} : 0 ≤ a % 1000003 ∧ a % 1000003 < 1000003 := ⟨Int.emod_nonneg _ (by decide), Int.emod_lt_of_pos _ (by decide)⟩
theorem int_get {ns : List Int} {i : Nat} (h : i < ns.length) : (ns.map V.int)[i]? = some (.int ns[i]) := by
  rw [List.getElem?_map, List.getElem?_eq_getElem h]
  rfl
/-! ### comprehensions over a text -/
theorem lc_str {z : Str} {f : Nat → V} {j : Nat} {te : TE} {vs : List Nat} {σ : L2.St} {H1 : Hp} {D : Addr} {Qd : Hp → Prop} (hz : z.length ≤ 100000) (hD : H1 D = none) (hw : ∀ x, wipe ((wipe σ vs).set j (some x)) vs = wipe σ vs)
    (he : ∀ (c : Nat) H', Ex H1 H' → ∀ Q : VK, Q (f c) H' → te ((wipe σ vs).set j (some (.str ⟨#[c]⟩))) H' Q) (hd : Qd (upd H1 D (.lst ((tl z).map f)))) :
    ∃ W : Nat → Nat → Hp → Prop, (∃ m, W 0 m (upd H1 D (.lst []))) ∧ ∀ i m H, W i m H →
      ((Its z).stop i H ∧ Qd H) ∨ ((Its z).go i H ∧ ∃ Nx : Hp → Prop, (∀ H', Nx H' → ∃ m', m' < m ∧ W (i + 1) m' H') ∧ ∀ x H', (Its z).yld i H x H' → gName j x (wipe σ vs) H' fun σ2 H2 => wipe σ2 vs = wipe σ vs ∧ tYes σ2 H2 fun b H3 =>
        if b = true then te σ2 H3 fun y H4 => ∃ acc, H4 D = some (.lst acc) ∧ acc.length < sizeLine ∧ Nx (upd H4 D (.lst (acc ++ [y]))) else Nx H3) := by
  refine lc_it walk_str (fun i H' => H' = upd H1 D (.lst (((tl z).take i).map f))) rfl (fun _ _ _ _ => trivial) ?_ ?_
  · rintro i x H H' hi rfl ⟨rfl, c, hc, rfl⟩
    refine ⟨hw _, ?_⟩
    show te _ _ _
    refine he c _ (Ex.new hD) _ ?_
    have hc' : (tl z)[i]? = some c := by rw [← hc]; exact Array.getElem?_toList
    refine ⟨_, upd_same, ?_, ?_⟩
    · rw [List.length_map, List.length_take]
      exact sz_lt (by have := len_tl z; have hs : i < z.length := hi; omega)
    · rw [upd_upd, List.take_add_one, hc', List.map_append]
      rfl
  · rintro H rfl
    have e : (tl z).take z.cps.size = tl z := List.take_of_length_le (by rw [← len_tl]; exact Nat.le_refl _)
    rw [e]
    exact hd
theorem for_str {z : Str} {j : Nat} {tb : TS} {D : Ends} {σ : L2.St} {H : Hp} (Pv : Nat → L2.St → Hp → Prop) (h0 : Pv 0 σ H)
    (hs : ∀ i c σ' H', (tl z)[i]? = some c → Pv i σ' H' → tb { D with nx := Pv (i + 1), ct := Pv (i + 1), bk := D.nx } (σ'.set j (some (.str ⟨#[c]⟩))) H') (hd : ∀ σ' H', Pv (tl z).length σ' H' → D.nx σ' H') :
    ∃ W : Nat → Nat → L2.St → Hp → Prop, (∃ m, W 0 m σ H) ∧ ∀ i m σ H, W i m σ H →
      ((Its z).stop i H ∧ D.nx σ H) ∨ ((Its z).go i H ∧ ∃ N : L2.St → Hp → Prop, (∀ σ' H', N σ' H' → ∃ m', m' < m ∧ W (i + 1) m' σ' H') ∧ ∀ x H', (Its z).yld i H x H' → gName j x σ H' fun σ2 H2 => tb { D with nx := N, ct := N, bk := D.nx } σ2 H2) := by
  refine for_it walk_str Pv h0 (fun _ _ _ _ _ => trivial) ?_ ?_
  · rintro i x σ' H1 H2 hi p ⟨rfl, c, hc, rfl⟩
    exact hs i c σ' _ (by rw [← hc]; exact Array.getElem?_toList) p
  · intro σ' H' p
    exact hd σ' H' p
/-- [te for _ in range(n)]: things of a kind that stays true, also when a list is written -/
theorem lc_n {G : Hp → V → Prop} {n : Int} {j : Nat} {te : TE} {vs : List Nat} {σ : L2.St} {H1 : Hp} {D : Addr} {Qd : Hp → Prop} (hn : 0 ≤ n ∧ n ≤ 100000) (hD : H1 D = none) (hG : ∀ H H' v, Ex H H' → G H v → G H' v)
    (hG2 : ∀ H xs ys v, H D = some (.lst xs) → G H v → G (upd H D (.lst ys)) v) (hw : ∀ x, wipe ((wipe σ vs).set j (some x)) vs = wipe σ vs)
    (he : ∀ (i : Nat) H', (i : Int) < n → Ex H1 H' → ∀ Q : VK, (∀ v H2, Ex H' H2 → G H2 v → Q v H2) → te ((wipe σ vs).set j (some (.int (i : Int)))) H' Q) (hd : ∀ H' xs, Ex H1 H' → H' D = some (.lst xs) → (xs.length : Int) = n → (∀ x ∈ xs, G H' x) → Qd H') :
    ∃ W : Nat → Nat → Hp → Prop, (∃ m, W 0 m (upd H1 D (.lst []))) ∧ ∀ i m H, W i m H →
      ((Itr 0 n.toNat).stop i H ∧ Qd H) ∨ ((Itr 0 n.toNat).go i H ∧ ∃ Nx : Hp → Prop, (∀ H', Nx H' → ∃ m', m' < m ∧ W (i + 1) m' H') ∧ ∀ x H', (Itr 0 n.toNat).yld i H x H' → gName j x (wipe σ vs) H' fun σ2 H2 => wipe σ2 vs = wipe σ vs ∧ tYes σ2 H2 fun b H3 =>
        if b = true then te σ2 H3 fun y H4 => ∃ acc, H4 D = some (.lst acc) ∧ acc.length < sizeLine ∧ Nx (upd H4 D (.lst (acc ++ [y]))) else Nx H3) := by
  refine lc_range (lo := 0) (n := n.toNat) (fun i H' => ∃ xs : List V, Ex H1 H' ∧ H' D = some (.lst xs) ∧ xs.length = i ∧ ∀ x ∈ xs, G H' x) ⟨[], Ex.new hD, upd_same, rfl, fun _ h => (nomatch h)⟩ ?_ ?_
  · rintro i H' hi ⟨xs, e1, hL, hl, hx⟩
    have e0 : (0 : Int) + (i : Int) = (i : Int) := Int.zero_add _
    show wipe ((wipe σ vs).set j (some (.int ((0 : Int) + (i : Int))))) vs = wipe σ vs ∧ _
    refine ⟨hw _, ?_⟩
    show te ((wipe σ vs).set j (some (.int ((0 : Int) + (i : Int))))) _ _
    rw [e0]
    refine he i H' (by omega) e1 _ fun v H2 e2 g => ⟨xs, e2 _ _ hL, sz_lt (by omega), xs ++ [v], (e1.trans e2).mut hD, upd_same, by rw [List.length_append, hl]; rfl, fun x hm => ?_⟩
    rcases List.mem_append.mp hm with h | h
    · exact hG2 _ _ _ _ (e2 _ _ hL) (hG _ _ _ e2 (hx x h))
    · rw [List.mem_singleton.mp h]
      exact hG2 _ _ _ _ (e2 _ _ hL) g
  · rintro H' ⟨xs, e1, hL, hl, hx⟩
    exact hd H' xs e1 hL (by omega) hx
end UL

set_option Elab.async false
set_option linter.all false
set_option maxRecDepth 100000
/-! own: one of two readings; objects made with keywords where an error may leave; own ==; isinstance of an error that has a dict -/
namespace UL
open PySem PySem.Spec PyProof.Rows L2 Evl TL

/-! ### one of two readings -/
section
variable {X : Cx} {e : Expr} {t1 t2 : TE} {op : CmpOp} {tg iter : Expr} {w1 w2 : TI}
def tAlt (t1 t2 : TE) : TE := fun σ H Q => t1 σ H Q ∨ t2 σ H Q
theorem pe_alt (h1 : PE X e t1) (h2 : PE X e t2) : PE X e (tAlt t1 t2) :=
  ⟨fun pins s σ H Q I h => h.elim (fun q => h1.run pins s σ H Q I q) (fun q => h2.run pins s σ H Q I q)⟩
def iAlt (w1 w2 : TI) : TI := fun σ H R => w1 σ H R ∨ w2 σ H R
theorem pi_alt (h1 : PI X tg iter w1) (h2 : PI X tg iter w2) : PI X tg iter (iAlt w1 w2) :=
  ⟨fun pins s σ H R I h => h.elim (fun q => h1.run pins s σ H R I q) (fun q => h2.run pins s σ H R I q)⟩
def rAlt (r1 r2 : R2) : R2 := fun x y H Q => r1 x y H Q ∨ r2 x y H Q
theorem op_alt {f : Value → Value → Sem Value} {r1 r2 : R2} (h1 : OpR X f r1) (h2 : OpR X f r2) : OpR X f (rAlt r1 r2) :=
  fun pins s σ H x y v u Q I rx ry h => h.elim (fun q => h1 pins s σ H x y v u Q I rx ry q) (fun q => h2 pins s σ H x y v u Q I rx ry q)
def cAlt (r1 r2 : List V → Hp → VK → Prop) : List V → Hp → VK → Prop := fun xs H Q => r1 xs H Q ∨ r2 xs H Q
theorem call_alt {f : Value} {r1 r2 : List V → Hp → VK → Prop} (h1 : CallR X f r1) (h2 : CallR X f r2) : CallR X f (cAlt r1 r2) :=
  fun pins s σ H xs us Q I r h => h.elim (fun q => h1 pins s σ H xs us Q I r q) (fun q => h2 pins s σ H xs us Q I r q)
end

/-! ### C(e, .., k = v, ..) where what is raised is wished for at the caller's slots -/
def tMakeS (C : Addr) (n m : Nat) (sp : Sp) (gV : List V → List V → List V) (E : L2.St → XK) (t tk : TA) : TE := fun σ H Q => t σ H fun vs H1 => tk σ H1 fun zs H2 => vs.length = n ∧ zs.length = m ∧
  ∀ x dx, H2 x = none → H2 dx = none → dx ≠ x → sp (gV (.ref x :: vs) zs) (upd (upd H2 dx (.own x)) x (.ins C dx [])) (fun v H3 => v = .non ∧ Q (.ref x) H3) (E σ)
section
variable {X : Cx} {CX : CXT} {k n : Nat} {f C : Addr} {fd : FuncData} {ps ks : List Str} {sp : Sp} {E : L2.St → XK} {x : Str} {p pos : Pos} {e : Expr} {es : List Expr} {kws : List Keyword} {t tk : TA} {g : List Value → List Value → List Value} {gV : List V → List V → List V}
theorem mk_run {pins : List (Addr × Obj)} {σ : L2.St} {H : Hp} {s : Shared} {Q : VK} {us ws : List Value} {vs zs : List V} (M : Mk X.K C f) (F : FnOk X.prog X.w X.K X.mg X.base CX k f fd ps sp) (hr : Room (k + 1) X.A)
    (hb : KBn X.K fd ps (n + 1) ks g gV) (hx : PassesAt CX X σ (E σ)) (I : Inv X pins σ H s) (r : Vals vs us) (rz : Vals zs ws) (l1 : vs.length = n) (l2 : zs.length = ks.length)
    (h : ∀ x dx, H x = none → H dx = none → dx ≠ x → sp (gV (.ref x :: vs) zs) (upd (upd H dx (.own x)) x (.ins C dx [])) (fun v H2 => v = .non ∧ Q (.ref x) H2) (E σ)) :
    wpAny (model X.prog X.w) X.A (call (.ref C) us (ks.zip ws)) (EP X pins σ Q) X.xe s := by
  let sz := s.heap.objs.size
  have J := Inv.made (C := C) I
  have q0 := h (sz + 1) sz (I.hok.fresh (Nat.le_succ _)) (I.hok.fresh (Nat.le_refl _)) (Nat.ne_of_lt (Nat.lt_succ_self _))
  have ra : Vals (V.ref (sz + 1) :: vs) (Value.ref (sz + 1) :: us) := .cons rfl r
  have na : (Value.ref (sz + 1) :: us).length = n + 1 := by rw [← ra.length, List.length_cons, l1]
  have run := F.run _ X.stack _ _ ⟨Value.ref (sz + 1) :: us, ks.zip ws⟩ (g (Value.ref (sz + 1) :: us) ws) _ _ (E σ) (hr.make C us (ks.zip ws)) (J.env0.make C us (ks.zip ws)) (hb.to _ (Value.ref (sz + 1) :: us) ws J.kIn na (rz.length.symm.trans l2)) (hb.rel ra rz) q0
  refine wpAny_call (make_map (f := f) I.kIn M.makes M.init (beq_iff_eq.mp M.fn) (codeAny_mono run fun rr s' z => ?_))
  match rr, z with
  | .error er, z => exact hx pins _ _ er s' J z
  | .ok (.ret u), z =>
    obtain ⟨v, H', J', rv, ev, q⟩ := J.after z
    subst ev
    exact ⟨rv, ⟨V.ref (sz + 1), H', J', rfl, q⟩⟩
  | .ok .next, z => exact False.elim z
  | .ok .brk, z => exact False.elim z
  | .ok .cont, z => exact False.elim z
theorem pe_makeS (M : Mk X.K C f) (F : FnOk X.prog X.w X.K X.mg X.base CX k f fd ps sp) (hr : Room (k + 1) X.A) (hg : Gl X x) (hm : X.mg x = some (.ref C)) (hb : KBn X.K fd ps (n + 1) ks g gV) (hx : ∀ σ, PassesAt CX X σ (E σ)) (ha : PA X (e :: es) t) (hkw : PK X kws tk)
    (a1 : (backToKw pos (keywordEach kws X.env)).all (·.1.isSome) = true := by rfl) (a2 : (backToKw pos (keywordEach kws X.env)).filterMap (·.1) = ks := by rfl) (a3 : (x == ("__debug__" : Str)) = false := by decide)
    (a4 : starEach (e :: es) X.env = (false, eval e X.env) :: starEach es X.env := by rfl) (a5 : ((backTo pos (starEach (e :: es) X.env)).any (·.1) || (backToKw pos (keywordEach kws X.env)).any (·.1.isNone)) = false := by rfl) :
    PE X (.Call (.Name x p) (e :: es) kws pos) (tMakeS C n ks.length sp gV E t tk) := by
  refine ⟨fun pins s σ H Q I h => wpAny_Call_Name_kw (ld_glob I hg hm ?_ a3)⟩
  refine PySem.W.callWith_KW (h₀ := X.base) I.ok.mod.kin M.kp a1 (thn (ha.run pos pins s σ H _ I h) fun us s1 hh => ?_) a5 a4
  obtain ⟨vs, H1, I1, r, q⟩ := hh
  refine thn (hkw.run pos pins s1 σ H1 _ I1 q) fun ws s2 hh => ?_
  obtain ⟨zs, H2, I2, rz, l1, l2, q2⟩ := hh
  exact ⟨I2.kIn, by rw [a2]; exact mk_run M F hr hb (hx σ) I2 r rz l1 l2 q2⟩
end
/-- what leaves a call is wished for wherever the slots stand -/
theorem passAny {X : Cx} {W : WX} (tk : Takes X W) : ∀ σ, PassesAt (L2.CX X.prog X.w) X σ (WE W σ) := fun σ => passAt tk σ
/-- .. in a def that lets it out: the wish E is the caller's -/
theorem passOut {X : Cx} {E : XK} (tk : Takes X fun cls d _ H => E cls d H) : ∀ σ, PassesAt (L2.CX X.prog X.w) X σ E := fun σ => passAt tk σ

/-! ### own == -/
/-- what may stand on the right of an own ==: of its class, or of a type beside it -/
def RSide (K : PySem.W.Frag) (C : Addr) (y : V) (H : Hp) : Prop := (∃ b dy gs, y = .ref b ∧ H b = some (.ins C dy gs)) ∨ (∃ z, y = .str z ∧ PySem.W.subIn K (.type "str") (.ref C) = some false) ∨ ∃ b ys, y = .ref b ∧ H b = some (.tup ys) ∧ PySem.W.subIn K (.type "tuple") (.ref C) = some false
def rOwnEq (K : PySem.W.Frag) (C : Addr) (sp : Sp) (E : XK) : R2 := fun x y H Q => ∃ a dx fs, x = .ref a ∧ H a = some (.ins C dx fs) ∧ RSide K C y H ∧ sp [.ref a, y] H (fun v H' => (∃ b, v = .bl b) ∧ Q v H') E
section
variable {X : Cx} {CX : CXT} {k : Nat} {f C : Addr} {fd : FuncData} {ps : List Str} {sp : Sp} {E : XK}
theorem op_ownEq (F : FnOk X.prog X.w X.K X.mg X.base CX k f fd ps sp) (hr : Room k X.A) (hs : PySem.W.findIn X.K (.ref C) "__eq__" = some (some (.ref f))) (hf : PySem.W.isFn X.K (.ref f) = true) (hb : L2.Binds X.K fd ps []) (hx : Passes CX X E) :
    OpR X (compareOp .Eq) (rOwnEq X.K C sp E) := by
  intro pins s σ H x y v u Q I rx ry h
  obtain ⟨a, dx, fs, rfl, ha, hy, q⟩ := h
  cases rx
  obtain ⟨mA, J, _⟩ := ins_get I.hok ha
  obtain ⟨od, J, _⟩ := J.look
  obtain ⟨m, hF⟩ := I.fr
  have side : ∃ tb, PySem.W.Looks (model X.prog X.w) s.heap (typeOf u) tb ∧ PySem.W.notFirst X.K C tb = true := by
    rcases hy with ⟨b, dy, gs, rfl, hb2⟩ | ⟨z, rfl, hn⟩ | ⟨b, ys, rfl, hb2, hn⟩
    · cases ry
      obtain ⟨mB, J', _⟩ := ins_get I.hok hb2
      obtain ⟨od', J', _⟩ := J'.look
      exact ⟨_, J'.type, by simp [PySem.W.notFirst]⟩
    · obtain ⟨t, rfl⟩ := ry
      exact ⟨.type "str", .now, by simp [PySem.W.notFirst, hn]⟩
    · cases ry
      obtain ⟨z, its, r, o, hg, hc, n, hd⟩ := I.hok b _ hb2
      exact ⟨.type "tuple", hc ▸ (PySem.W.Looks.ld hg).andThen .now, by simp [PySem.W.notFirst, hn]⟩
  obtain ⟨tb, ty, nf⟩ := side
  show wpAny _ _ (richCompare .Eq (.ref a) u) _ _ _
  refine PySem.W.cmp_K (op := .Eq) (tb := tb) hr.units0 hF I.ok.mod.kin J ty nf hs hf ?_
  have r2 : Vals [V.ref a, y] [Value.ref a, u] := .cons rfl (.cons ry .nil)
  have hl : [Value.ref a, u].length = ps.length := by rw [← r2.length]; exact F.len _ _ _ _ q
  have bd := hb s [Value.ref a, u] I.kIn (by rw [List.append_nil]; exact hl)
  rw [List.append_nil] at bd
  refine wpAny_call (codeAny_mono (F.run X.A X.stack s H ⟨[.ref a, u], []⟩ [.ref a, u] [.ref a, y] _ E hr I.env0 bd r2 q) fun rr s' z => ?_)
  match rr, z with
  | .error er, z => exact hx pins σ H s er s' I z
  | .ok (.ret w), z =>
    obtain ⟨v, H', I', rv, ⟨b, rfl⟩, q'⟩ := I.after z
    cases rv
    exact ⟨V.bl b, H', I', rfl, q'⟩
  | .ok .next, z => exact False.elim z
  | .ok .brk, z => exact False.elim z
  | .ok .cont, z => exact False.elim z
end

/-! ### isinstance of a caught error that has a dict -/
def rIsX (K : PySem.W.Frag) (D a : Addr) (cls : Value) (d : Option Addr) : List V → Hp → VK → Prop := fun xs H Q => ∃ (c : V) (cv : Value) (b : Bool) (dd : Addr) (fs : List (Str × V)), xs = [.ref a, c] ∧ cls = .ref D ∧ (∀ u, RelV c u → u = cv) ∧ d = some dd ∧ H dd = some (.xd fs) ∧ PySem.W.kitOne K (.ref D) cv = some b ∧ Q (.bl b) H
structure ExI (K : PySem.W.Frag) (D : Addr) : Prop where
  c1 : (PySem.W.clsIn K D).isSome = true
  c2 : PySem.W.findIn K (.ref D) "__getattribute__" = some (some (.builtin "BaseException.__getattribute__"))
  c3 : PySem.W.findIn K (.ref D) "__getattr__" = some none
  c4 : PySem.W.subIn K (.ref D) (.type "BaseException") = some true
  c5 : PySem.W.findIn K (.ref D) "__class__" = some (some (.builtin "object.__class__"))
  c6 : PySem.W.specialIn K (.builtin "object.__class__") "__get__" = some (some (.builtin "getset_descriptor.__get__"))
  c7 : PySem.W.takesIn K (.builtin "object.__class__") = some true
  c8 : PySem.W.mroIn K D (.type "object") = some true
theorem call_isX {X : Cx} {a D : Addr} {cls : Value} {d : Option Addr} {oe : Obj} {pn : List (Addr × Obj)} (T : ExI X.K D) (hz : Zc cls d oe) (hf : ∃ vs, oe.data = .fields vs) : CallR (X.suite a ((a, oe) :: pn)) (.builtin "isinstance") (rIsX X.K D a cls d) := by
  intro pins s σ H xs us Q I r h
  obtain ⟨c, cv, b, dd, fs, rfl, rfl, hcv, rfl, hd, ek, q⟩ := h
  obtain ⟨u1, w1, e1, r1, rr1⟩ : ∃ u1 w1, us = [u1, w1] ∧ RelV (.ref a) u1 ∧ RelV c w1 := by
    cases r with
    | cons q1 q2 =>
      cases q2 with
      | cons q3 q4 =>
        cases q4
        exact ⟨_, _, rfl, q1, q3⟩
  subst e1
  cases r1
  have e2 := hcv _ rr1
  subst e2
  obtain ⟨hget, _⟩ := I.pin (a, oe) (List.mem_append.mpr (.inl List.mem_cons_self))
  obtain ⟨vs, hv⟩ := hf
  have hx : ObjOk X.prog X.w H s.heap dd (.xd fs) := I.hok dd _ hd
  obtain ⟨mA, hns, _⟩ := hx
  obtain ⟨od, ho, _⟩ := lookIn_ns hns
  have J : PySem.W.InstAt s.heap a oe D (some od) := ⟨hget, hz.1, by unfold PySem.W.notCls; rw [hv] <;> rfl, by rw [hz.2]; exact ho⟩
  exact PySem.W.kia_one (PySem.W.kitx_exc T.c1 T.c2 T.c3 T.c4 T.c5 T.c6 T.c7 T.c8) I.kIn J ek (fun z => nomatch z) fun tk => ⟨.bl b, H, I.kept (t' := tk) fun _ _ z => z, rfl, q⟩
/-! ### what the written part says of a class -/
structure TyF (K : PySem.W.Frag) (C : Addr) : Prop where
  ha : PySem.W.findIn K (.ref C) "__class__" = some (some (.builtin "object.__class__"))
  hn : PySem.W.specialIn K (.builtin "object.__class__") "__get__" = some (some (.builtin "getset_descriptor.__get__"))
  ht : PySem.W.takesIn K (.builtin "object.__class__") = some true
  hm : PySem.W.mroIn K C (.type "object") = some true
theorem tyx_ins {K : PySem.W.Frag} {H : Hp} {a C dx : Addr} {fs : List (Str × V)} (e : H a = some (.ins C dx fs)) (c : Cls K C) (t : TyF K C) : TyX K H (.ref a) (.ref C) := .base (.ins e c t.ha t.hn t.ht t.hm)
structure ExF (K : PySem.W.Frag) (C I : Addr) : Prop where
  ox : OexC K C
  ii : PySem.W.findIn K (.ref C) "__init__" = some (some (.ref I))
  nw : PySem.W.findIn K (.ref C) "what" = some none
  xf : XfC K C

/-! ### errors that keep what they are made with -/
/-- the promise of the base class's __init__: self.what = what -/
def spWhat (K : PySem.W.Frag) : Sp := fun vs H Q _ => ∃ (a C : Addr) (v : V), vs = [.ref a, v] ∧ flatV v = true ∧ H a = some (exo a C none) ∧ OexC K C ∧ PySem.W.findIn K (.ref C) "what" = some none ∧
  ∀ dx, H dx = none → dx ≠ a → Q .non (upd (upd H dx (exd dx [("what", v)])) a (exo a C (some dx)))
theorem raise_what {K : PySem.W.Frag} {C I : Addr} {H : Hp} {v : V} {Q : XK} (F : ExF K C I) (hv : flatV v = true) (k : ∀ d H', Ex H H' → H' d = some (.xd [("what", v)]) → Q (.ref C) (some d) H') :
    ∀ a, H a = none → spWhat K [.ref a, v] (upd H a (exo a C none)) (fun u H2 => u = .non ∧ ∃ (d : Addr) (fs : List (Str × V)), H2 a = some (exo a C (some d)) ∧ H2 d = some (exd d fs) ∧ H d = none ∧ Q (.ref C) (some d) (upd (L2.del H2 a) d (.xd fs))) (fun _ _ _ => False) := by
  intro a ha
  refine ⟨a, C, v, rfl, hv, upd_same, F.ox, F.nw, fun dx hd hne => ⟨rfl, dx, [("what", v)], upd_same, ?_, ?_, ?_⟩⟩
  · rw [upd_ne hne, upd_same]
  · rw [upd_ne hne] at hd
    exact hd
  · have hd0 : H dx = none := by
      rw [upd_ne hne] at hd
      exact hd
    refine k dx _ (fun b o hb => ?_) upd_same
    have b1 : b ≠ a := ne_of_none hb ha
    have b2 : b ≠ dx := ne_of_none hb hd0
    rw [upd_ne b2]
    show (if b = a then none else _) = _
    rw [if_neg b1, upd_ne b1, upd_ne b2, upd_ne b1]
    exact hb
theorem flat_ty {K : PySem.W.Frag} {H : Hp} {v : V} (h : flatV v = true) : ∃ t, TyX K H v t ∧ PySem.W.kitOne K t (.type "list") = some false ∧ PySem.W.kitOne K t (.type "tuple") = some false ∧ PySem.W.kitOne K t (.type "dict") = some false := by
  cases v with
  | non => exact ⟨_, .base .non, kit_ty (r := false) (by decide +kernel), kit_ty (r := false) (by decide +kernel), kit_ty (r := false) (by decide +kernel)⟩
  | bl b => exact ⟨_, .base (.bl b), kit_ty (r := false) (by decide +kernel), kit_ty (r := false) (by decide +kernel), kit_ty (r := false) (by decide +kernel)⟩
  | int i => exact ⟨_, .base (.int i), kit_ty (r := false) (by decide +kernel), kit_ty (r := false) (by decide +kernel), kit_ty (r := false) (by decide +kernel)⟩
  | str z => exact ⟨_, .base (.str z), kit_ty (r := false) (by decide +kernel), kit_ty (r := false) (by decide +kernel), kit_ty (r := false) (by decide +kernel)⟩
  | _ => cases h

/-! ### sequences: a list or a tuple -/
section
variable {K : PySem.W.Frag} {H H' : Hp} {v : V} {xs : List V}
def SeqV (K : PySem.W.Frag) (H : Hp) (v : V) (xs : List V) : Prop := ∃ a, v = .ref a ∧ (H a = some (.lst xs) ∨ H a = some (.tup xs) ∨ (SqT K H a xs ∧ ∃ o, K.lookup a = some o ∧ o.cls = .type "tuple"))
theorem SeqV.mono (e : Ex H H') (h : SeqV K H v xs) : SeqV K H' v xs := by
  obtain ⟨a, rfl, h | h | ⟨h, o⟩⟩ := h
  · exact ⟨a, rfl, .inl (e _ _ h)⟩
  · exact ⟨a, rfl, .inr (.inl (e _ _ h))⟩
  · exact ⟨a, rfl, .inr (.inr ⟨ex_t e h, o⟩)⟩
theorem SeqV.ty (h : SeqV K H v xs) : ∃ t, TyX K H v t ∧ PySem.W.kitAny K t [.type "list", .type "tuple"] = some true := by
  obtain ⟨a, rfl, h | h | ⟨_, o, ho, hc⟩⟩ := h
  · exact ⟨_, .base (.lst h), rfl⟩
  · exact ⟨_, .base (.tup h), rfl⟩
  · exact ⟨_, .kTuple ho hc, rfl⟩
theorem SeqV.two (h : SeqV K H v xs) : ∃ a, v = .ref a ∧ (SqL K H a xs ∨ SqT K H a xs) := by
  obtain ⟨a, rfl, h | h | ⟨h, o⟩⟩ := h
  · exact ⟨a, rfl, .inl (SqL.of h)⟩
  · exact ⟨a, rfl, .inr (SqT.of h)⟩
  · exact ⟨a, rfl, .inr h⟩
def NSeq (H : Hp) (v : V) : Prop := v = .non ∨ (∃ b, v = .bl b) ∨ (∃ i, v = .int i) ∨ (∃ z, v = .str z) ∨ ∃ a kvs, v = .ref a ∧ H a = some (.dK kvs)
theorem NSeq.mono (e : Ex H H') (h : NSeq H v) : NSeq H' v := by
  rcases h with h | h | h | h | ⟨a, kvs, h, h1⟩
  · exact .inl h
  · exact .inr (.inl h)
  · exact .inr (.inr (.inl h))
  · exact .inr (.inr (.inr (.inl h)))
  · exact .inr (.inr (.inr (.inr ⟨a, kvs, h, e _ _ h1⟩)))
theorem NSeq.ty (h : NSeq H v) : ∃ t, TyX K H v t ∧ PySem.W.kitAny K t [.type "list", .type "tuple"] = some false := by
  rcases h with rfl | ⟨b, rfl⟩ | ⟨i, rfl⟩ | ⟨z, rfl⟩ | ⟨a, kvs, rfl, h⟩
  · exact ⟨_, .base .non, rfl⟩
  · exact ⟨_, .base (.bl b), rfl⟩
  · exact ⟨_, .base (.int i), rfl⟩
  · exact ⟨_, .base (.str z), rfl⟩
  · exact ⟨_, .base (.dK h), rfl⟩
theorem for_seq {a : Addr} {tl : TE} {g : TG} {tb : TS} {D : Ends} {σ : L2.St} (htl : ∀ Q : VK, Q (.ref a) H → tl σ H Q) (hx : SqL K H a xs ∨ SqT K H a xs) (Pv : Nat → L2.St → Hp → Prop) (h0 : Pv 0 σ H) (stay : ∀ i σ' H', Pv i σ' H' → Ex H H')
    (hs : ∀ i x σ' H', xs[i]? = some x → Pv i σ' H' → g x σ' H' fun σ2 H2 => tb { D with nx := Pv (i + 1), ct := Pv (i + 1), bk := D.nx } σ2 H2) (hd : ∀ σ' H', Pv xs.length σ' H' → D.nx σ' H') : tFor (iAlt (iList K tl) (iTup K tl)) g tb D σ H := by
  rcases hx with hx | hx
  · exact .inl (htl _ ⟨a, rfl, ⟨_, hx⟩, for_list Pv h0 (fun i σ' H' _ p => ex_l (stay i σ' H' p) hx) hs hd⟩)
  · exact .inr (htl _ ⟨a, rfl, ⟨_, hx⟩, for_tup Pv h0 (fun i σ' H' _ p => ex_t (stay i σ' H' p) hx) hs hd⟩)
end

theorem del_at {H : Hp} {x b : Addr} {o : HO} (h : H b = some o) (n : b ≠ x) : L2.del H x b = some o := by
  show (if b = x then none else H b) = _
  rw [if_neg n]
  exact h
theorem sqT_del {K : PySem.W.Frag} {H : Hp} {x a C dx : Addr} {fs : List (Str × V)} {xs : List V} (hx : H x = some (.ins C dx fs)) (h : SqT K H a xs) : SqT K (L2.del H x) a xs := by
  rcases h with (h | ⟨o, h⟩) | h
  · exact .inl (.inl (del_at h (ne_of h hx (by intro z; cases z))))
  · exact .inl (.inr ⟨o, del_at h (ne_of h hx (by intro z; cases z))⟩)
  · exact .inr h
/-- all but the object at x stands -/
theorem ex_del {H H1 H' : Hp} {x : Addr} (e : Ex H H1) (k : ∀ b o, b ≠ x → H1 b = some o → H' b = some o) : Ex (L2.del H x) H' := fun b o hb => by
  by_cases n : b = x
  · rw [show L2.del H x b = none from if_pos n] at hb
    cases hb
  · rw [show L2.del H x b = H b from if_neg n] at hb
    exact k b o n (e b o hb)

def rLen (K : PySem.W.Frag) : List V → Hp → VK → Prop := fun xs H Q => ∃ p ys, xs = [.ref p] ∧ (SqL K H p ys ∨ SqT K H p ys) ∧ Q (.int ys.length) H
theorem cutV_mem {xs : List V} {lo hi : Option Int} : (∀ x ∈ cutV xs lo hi, x ∈ xs) ∧ (cutV xs lo hi).length ≤ xs.length := by
  unfold cutV
  refine ⟨fun x hx => List.mem_of_mem_drop (List.mem_of_mem_take hx), ?_⟩
  rw [List.length_take, List.length_drop]
  omega

theorem made_in {H : Hp} {x dx C : Addr} (hx : H x = none) (hd : H dx = none) : Ex H (upd (upd H dx (.own x)) x (.ins C dx [])) := fun b o hb => by
  rw [upd_ne (ne_of_none hb hx), upd_ne (ne_of_none hb hd)]
  exact hb
theorem made_ex {H H' : Hp} {x dx C : Addr} (hx : H x = none) (hd : H dx = none) (e : Ex (L2.del (upd (upd H dx (.own x)) x (.ins C dx [])) x) H') : Ex H H' := fun b o hb =>
  e b o (del_at (made_in hx hd b o hb) (ne_of_none hb hx))
theorem sqT_ty {K : PySem.W.Frag} {H : Hp} {t : Addr} {xs : List V} (h : SqT K H t xs) : TyX K H (.ref t) (.type "tuple") := by
  rcases h with (h | ⟨o, h⟩) | ⟨o, its, n, ho, hc, _⟩
  · exact .base (.tup h)
  · exact .fTuple h
  · exact .kTuple ho hc

theorem SeqV.isl {K : PySem.W.Frag} {H : Hp} {v : V} {xs : List V} (h : SeqV K H v xs) : (∃ a, v = .ref a ∧ H a = some (.lst xs) ∧ TyX K H v (.type "list")) ∨ (∃ a, v = .ref a ∧ SqT K H a xs ∧ TyX K H v (.type "tuple")) := by
  obtain ⟨a, rfl, h | h | ⟨h, o, ho, hc⟩⟩ := h
  · exact .inl ⟨a, rfl, h, .base (.lst h)⟩
  · exact .inr ⟨a, rfl, SqT.of h, .base (.tup h)⟩
  · exact .inr ⟨a, rfl, h, .kTuple ho hc⟩

theorem cut_one (xs : List V) : cutV xs (some 1) none = xs.drop 1 := by
  unfold cutV
  rw [show HT.sIx xs.length 0 (some 1) = min 1 xs.length from HT.sIx_nat xs.length 0 1, HT.sIx_none]
  cases xs with
  | nil => rfl
  | cons x r =>
    rw [show min 1 (x :: r).length = 1 by rw [List.length_cons]; omega]
    exact List.take_of_length_le (by rw [List.length_drop]; omega)

section
variable {K : PySem.W.Frag} {C D : Addr} {T : String} {b : Bool}
theorem cls_some (h : PySem.W.hasDictIn K C = true) : (PySem.W.clsIn K C).isSome = true := by
  obtain ⟨cd, hc, _⟩ := PySem.W.any_some h
  rw [hc]
  rfl
theorem kit_own : PySem.W.kitOne K (.ref C) (.ref C) = some true := by
  unfold PySem.W.kitOne
  rw [if_pos (beq_self_eq_true _)]
theorem both_cls (h1 : PySem.W.hasDictIn K C = true) (h2 : PySem.W.typeIn K (.ref C) = some (.type "type")) : ((PySem.W.clsIn K C).isSome && PySem.W.typeIn K (.ref C) == some (.type "type")) = true := by
  rw [cls_some h1, h2] <;> rfl
theorem kit_type_ref (h1 : PySem.W.hasDictIn K C = true) (h2 : PySem.W.typeIn K (.ref C) = some (.type "type")) (h3 : PySem.W.subIn K (.type T) (.ref C) = some b) : PySem.W.kitOne K (.type T) (.ref C) = some b := by
  unfold PySem.W.kitOne
  rw [if_neg (by intro z; cases (beq_iff_eq.mp z))]
  exact (show PySem.W.kitCls K (.type T) (.ref C) = PySem.W.subIn K (.type T) (.ref C) from if_pos (both_cls h1 h2)).trans h3
theorem kit_ref_type (hm : PySem.W.kitMeta T = true) (h : PySem.W.subIn K (.ref D) (.type T) = some b) : PySem.W.kitOne K (.ref D) (.type T) = some b := by
  unfold PySem.W.kitOne
  rw [if_neg (by intro z; cases (beq_iff_eq.mp z))]
  exact (show PySem.W.kitCls K (.ref D) (.type T) = PySem.W.subIn K (.ref D) (.type T) from if_pos hm).trans h
theorem kit_ref_ref (ne : D ≠ C) (h1 : PySem.W.hasDictIn K C = true) (h2 : PySem.W.typeIn K (.ref C) = some (.type "type")) (h3 : PySem.W.subIn K (.ref D) (.ref C) = some b) : PySem.W.kitOne K (.ref D) (.ref C) = some b := by
  unfold PySem.W.kitOne
  rw [if_neg (by intro z; exact ne (Value.ref.inj (beq_iff_eq.mp z)))]
  exact (show PySem.W.kitCls K (.ref D) (.ref C) = PySem.W.subIn K (.ref D) (.ref C) from if_pos (both_cls h1 h2)).trans h3
theorem exm_cls (h0 : PySem.W.subIn K (.ref C) (.type "BaseException") = some true) (h1 : PySem.W.hasDictIn K C = true) (h2 : PySem.W.typeIn K (.ref C) = some (.type "type")) (h3 : PySem.W.subIn K (.ref D) (.ref C) = some b) : PySem.W.exmOne K (.ref D) (.ref C) = some b := by
  have e1 : (PySem.W.subIn K (.ref C) (.type "BaseException") == some true) = true := by rw [h0] <;> rfl
  show (if (PySem.W.subIn K (.ref C) (.type "BaseException") == some true) = true then (if ((PySem.W.clsIn K C).isSome && PySem.W.typeIn K (.ref C) == some (.type "type")) = true then PySem.W.subIn K (.ref D) (.ref C) else none) else none) = some b
  rw [if_pos e1, if_pos (both_cls h1 h2)]
  exact h3
end

theorem cut_from (xs : List V) (k : Nat) : cutV xs (some (k : Int)) none = xs.drop k := by
  unfold cutV
  rw [HT.sIx_nat, HT.sIx_none]
  by_cases h : k ≤ xs.length
  · rw [Nat.min_eq_left h]
    exact List.take_of_length_le (by rw [List.length_drop]; omega)
  · rw [Nat.min_eq_right (by omega), List.drop_length, List.drop_eq_nil_of_le (by omega), List.take_nil]
end UL

set_option Elab.async false
set_option linter.all false
set_option maxRecDepth 100000
/-! own: a static method called off its class -/
namespace UL
open PySem PySem.Spec PyProof.Rows L2 Evl TL

/-- C.m is a staticmethod: its record at p, its def at g -/
structure SMet (K : PySem.W.Frag) (C : Addr) (mc : Value) (m : Str) (p g : Addr) : Prop where
  rd : PySem.W.readsIn K C mc = true
  ga : PySem.W.specialIn K (.ref C) "__getattribute__" = some (some (.builtin "type.__getattribute__"))
  fc : PySem.W.findCls K (.ref C) mc m = some (.get (.builtin "staticmethod.__get__") (.ref p) .none (.ref C))
  rc : ∃ rest, PySem.W.recIn K p "staticmethod" = some (.ref g :: rest)
  kg : PySem.W.keepIn K (.ref g) = true
def tSm (C : Addr) (sp : Sp) (E : L2.St → XK) (ta : TE) (t : TA) : TE := fun σ H Q => ta σ H fun x H1 => x = .ref C ∧ t σ H1 fun vs H2 => sp vs H2 Q (E σ)
section
variable {X : Cx} {CX : CXT} {k : Nat} {C p g : Addr} {mc : Value} {fd : FuncData} {ps : List Str} {sp : Sp} {E : L2.St → XK} {o e : Expr} {es : List Expr} {m : Str} {pos apos : Pos} {ta : TE} {t : TA} {pl : Sem Bool}
theorem pe_smS (he : PE X o ta) (c : SMet X.K C mc m p g) (F : FnOk X.prog X.w X.K X.mg X.base CX k g fd ps sp) (hr : Room k X.A) (hb : L2.Binds X.K fd ps []) (hx : ∀ σ, PassesAt CX X σ (E σ)) (ha : PA X (e :: es) t)
    (h1 : starEach (e :: es) X.env = (false, eval e X.env) :: starEach es X.env := by rfl) (h2 : (backTo pos (starEach es X.env)).any (·.1) = false := by rfl)
    (h3 : eval (.Call (.Attribute o m apos) (e :: es) [] pos) X.env = (do
      let who ← eval o X.env
      standAt apos.atName
      let (fn, fst) ← holding [who] (getMethod who m pl)
      callWith pos fn fst (backTo pos (starEach (e :: es) X.env)) (backToKw pos (keywordEach [] X.env))) := by rfl) :
    PE X (.Call (.Attribute o m apos) (e :: es) [] pos) (tSm C sp E ta t) := by
  refine ⟨fun pins s σ H Q I h => PySem.W.methodCall_KW (pl := pl) (thn (he.run pins s σ H _ I h) fun u s1 hh => ?_) h3⟩
  obtain ⟨x, H1, I1, rx, rfl, q⟩ := hh
  obtain rfl : u = Value.ref C := rx
  obtain ⟨rest, hrc⟩ := c.rc
  refine PySem.W.method_cls I1.kIn c.ga (PySem.W.cls_bind I1.kIn c.rd c.fc (wpAny_call (PySem.W.sm_get (s := { s1 with toks := s1.toks + 1 }) I1.kIn hrc (PySem.W.handed_on rfl ?_))))
  have I2 : Inv X pins σ H1 { s1 with toks := s1.toks + 1 } := I1.tok _
  refine PySem.W.callWith_K (h₀ := X.base) I1.ok.mod.kin c.kg (thn (ha.run pos pins _ σ H1 _ I2 q) fun us s3 hh => ?_) h1 h2
  obtain ⟨vs, H2, I3, rv, q2⟩ := hh
  exact ⟨I3.kIn, run_fnS F hr hb (hx σ) I3 rv q2⟩
end

/-- [f x for x in a sequence]: any walk over fixed items, an element each, nothing else changed -/
theorem lc_map {K : PySem.W.Frag} {J : It} {xs : List V} {G : Hp → Prop} {f : V → V} {j : Nat} {te : TE} {vs : List Nat} {σ : L2.St} {H1 : Hp} {D : Addr} {Qd : Hp → Prop} (w : L2.Walk J xs.length G (YAt xs)) (hz : xs.length ≤ 100000) (hD : H1 D = none)
    (hG : ∀ H', Ex H1 H' → G H') (hw : ∀ x, wipe ((wipe σ vs).set j (some x)) vs = wipe σ vs) (he : ∀ x H', x ∈ xs → Ex H1 H' → ∀ Q : VK, Q (f x) H' → te ((wipe σ vs).set j (some x)) H' Q) (hd : Qd (upd H1 D (.lst (xs.map f)))) :
    ∃ W : Nat → Nat → Hp → Prop, (∃ m, W 0 m (upd H1 D (.lst []))) ∧ ∀ i m H, W i m H →
      (J.stop i H ∧ Qd H) ∨ (J.go i H ∧ ∃ Nx : Hp → Prop, (∀ H', Nx H' → ∃ m', m' < m ∧ W (i + 1) m' H') ∧ ∀ x H', J.yld i H x H' → gName j x (wipe σ vs) H' fun σ2 H2 => wipe σ2 vs = wipe σ vs ∧ tYes σ2 H2 fun b H3 =>
        if b = true then te σ2 H3 fun y H4 => ∃ acc, H4 D = some (.lst acc) ∧ acc.length < sizeLine ∧ Nx (upd H4 D (.lst (acc ++ [y]))) else Nx H3) := by
  refine lc_it w (fun i H' => H' = upd H1 D (.lst ((xs.take i).map f))) rfl (fun i H' _ h => by rw [h]; exact hG _ (Ex.new hD)) ?_ ?_
  · rintro i x H H' hi rfl ⟨rfl, hx⟩
    refine ⟨hw _, ?_⟩
    show te _ _ _
    refine he x _ (List.mem_of_getElem? hx) (Ex.new hD) _ ⟨_, upd_same, ?_, ?_⟩
    · rw [List.length_map, List.length_take]
      exact sz_lt (by omega)
    · rw [upd_upd, List.take_add_one, hx, List.map_append]
      rfl
  · rintro H rfl
    rw [List.take_length]
    exact hd
/-- [f x for x in a sequence if p x] -/
theorem lc_filter {K : PySem.W.Frag} {J : It} {xs : List V} {G : Hp → Prop} {p : V → Bool} {f : V → V} {j : Nat} {tt : TT} {te : TE} {vs : List Nat} {σ : L2.St} {H1 : Hp} {D : Addr} {Qd : Hp → Prop} (w : L2.Walk J xs.length G (YAt xs)) (hz : xs.length ≤ 100000) (hD : H1 D = none)
    (hG : ∀ H', Ex H1 H' → G H') (hw : ∀ x, wipe ((wipe σ vs).set j (some x)) vs = wipe σ vs) (ht : ∀ x H', x ∈ xs → Ex H1 H' → ∀ Q : Bool → Hp → Prop, Q (p x) H' → tt ((wipe σ vs).set j (some x)) H' Q)
    (he : ∀ x H', x ∈ xs → p x = true → Ex H1 H' → ∀ Q : VK, Q (f x) H' → te ((wipe σ vs).set j (some x)) H' Q) (hd : Qd (upd H1 D (.lst ((xs.filter p).map f)))) :
    ∃ W : Nat → Nat → Hp → Prop, (∃ m, W 0 m (upd H1 D (.lst []))) ∧ ∀ i m H, W i m H →
      (J.stop i H ∧ Qd H) ∨ (J.go i H ∧ ∃ Nx : Hp → Prop, (∀ H', Nx H' → ∃ m', m' < m ∧ W (i + 1) m' H') ∧ ∀ x H', J.yld i H x H' → gName j x (wipe σ vs) H' fun σ2 H2 => wipe σ2 vs = wipe σ vs ∧ tt σ2 H2 fun b H3 =>
        if b = true then te σ2 H3 fun y H4 => ∃ acc, H4 D = some (.lst acc) ∧ acc.length < sizeLine ∧ Nx (upd H4 D (.lst (acc ++ [y]))) else Nx H3) := by
  refine lc_it w (fun i H' => H' = upd H1 D (.lst (((xs.take i).filter p).map f))) rfl (fun i H' _ h => by rw [h]; exact hG _ (Ex.new hD)) ?_ ?_
  · rintro i x H H' hi rfl ⟨rfl, hx⟩
    refine ⟨hw _, ?_⟩
    refine ht x _ (List.mem_of_getElem? hx) (Ex.new hD) _ ?_
    have e1 : (xs.take (i + 1)).filter p = (xs.take i).filter p ++ [x].filter p := by
      rw [List.take_add_one, hx, List.filter_append]
      rfl
    cases hp : p x with
    | true =>
      refine iteT (he x _ (List.mem_of_getElem? hx) hp (Ex.new hD) _ ⟨_, upd_same, ?_, ?_⟩)
      · rw [List.length_map]
        refine sz_lt (Nat.lt_of_le_of_lt (List.length_filter_le _ _) ?_)
        rw [List.length_take]
        omega
      · rw [upd_upd, e1, List.map_append]
        simp [hp]
    | false =>
      refine iteF ?_
      rw [e1]
      simp [hp]
  · rintro H rfl
    rw [List.take_length]
    exact hd
end UL

set_option Elab.async false
set_option linter.all false
set_option maxRecDepth 100000
/-! own module: `in`, an index and len of an object of an own class -/
namespace UL
open PySem PySem.Spec PyProof.Rows L2 Evl TL
section
variable {X : Cx} {CX : CXT} {k : Nat} {f C : Addr} {fd : FuncData} {ps : List Str} {sp : Sp} {E : XK}
/-- x in y, y of an own class; the answer is a truth -/
def rOwnIn (C : Addr) (neg : Bool) (sp : Sp) (E : XK) : R2 := fun x y H Q => ∃ a dx fs, y = .ref a ∧ H a = some (.ins C dx fs) ∧ sp [.ref a, x] H (fun v H' => ∃ b, v = .bl b ∧ Q (.bl (if neg then !b else b)) H') E
theorem op_ownIn (F : FnOk X.prog X.w X.K X.mg X.base CX k f fd ps sp) (hr : Room k X.A) (hs : PySem.W.findIn X.K (.ref C) "__contains__" = some (some (.ref f))) (hf : PySem.W.isFn X.K (.ref f) = true) (hb : L2.Binds X.K fd ps []) (hx : Passes CX X E) :
    OpR X (compareOp .In) (rOwnIn C false sp E) := by
  intro pins s σ H x y v u Q I rx ry h
  obtain ⟨a, dx, fs, rfl, ha, q⟩ := h
  cases ry
  obtain ⟨mA, J, _⟩ := ins_get I.hok ha
  obtain ⟨od, J, _⟩ := J.look
  obtain ⟨m, hF⟩ := I.fr
  refine PySem.W.in_K hF I.ok.mod.kin J hs hf ?_
  have r2 : Vals [V.ref a, x] [Value.ref a, v] := .cons rfl (.cons rx .nil)
  have hl : [Value.ref a, v].length = ps.length := by rw [← r2.length]; exact F.len _ _ _ _ q
  have bd := hb s [Value.ref a, v] I.kIn (by rw [List.append_nil]; exact hl)
  rw [List.append_nil] at bd
  refine wpAny_call (codeAny_mono (F.run X.A X.stack s H ⟨[.ref a, v], []⟩ [.ref a, v] [.ref a, x] _ E hr I.env0 bd r2 q) fun rr s' z => ?_)
  match rr, z with
  | .error er, z => exact hx pins σ H s er s' I z
  | .ok (.ret w), z =>
    obtain ⟨v, H', I', rv, b, rfl, q'⟩ := I.after z
    cases rv
    exact wpAny_pure ⟨V.bl b, H', I', rfl, q'⟩
  | .ok .next, z => exact False.elim z
  | .ok .brk, z => exact False.elim z
  | .ok .cont, z => exact False.elim z
theorem op_ownNotIn (F : FnOk X.prog X.w X.K X.mg X.base CX k f fd ps sp) (hr : Room k X.A) (hs : PySem.W.findIn X.K (.ref C) "__contains__" = some (some (.ref f))) (hf : PySem.W.isFn X.K (.ref f) = true) (hb : L2.Binds X.K fd ps []) (hx : Passes CX X E) :
    OpR X (compareOp .NotIn) (rOwnIn C true sp E) := by
  intro pins s σ H x y v u Q I rx ry h
  obtain ⟨a, dx, fs, rfl, ha, q⟩ := h
  cases ry
  obtain ⟨mA, J, _⟩ := ins_get I.hok ha
  obtain ⟨od, J, _⟩ := J.look
  obtain ⟨m, hF⟩ := I.fr
  refine PySem.W.notIn_K hF I.ok.mod.kin J hs hf ?_
  have r2 : Vals [V.ref a, x] [Value.ref a, v] := .cons rfl (.cons rx .nil)
  have hl : [Value.ref a, v].length = ps.length := by rw [← r2.length]; exact F.len _ _ _ _ q
  have bd := hb s [Value.ref a, v] I.kIn (by rw [List.append_nil]; exact hl)
  rw [List.append_nil] at bd
  refine wpAny_call (codeAny_mono (F.run X.A X.stack s H ⟨[.ref a, v], []⟩ [.ref a, v] [.ref a, x] _ E hr I.env0 bd r2 q) fun rr s' z => ?_)
  match rr, z with
  | .error er, z => exact hx pins σ H s er s' I z
  | .ok (.ret w), z =>
    obtain ⟨v, H', I', rv, b, rfl, q'⟩ := I.after z
    cases rv
    exact wpAny_pure ⟨V.bl (!b), H', I', rfl, q'⟩
  | .ok .next, z => exact False.elim z
  | .ok .brk, z => exact False.elim z
  | .ok .cont, z => exact False.elim z
/-- a[b], a of an own class -/
def rOwnIx (C : Addr) (sp : Sp) (E : XK) : R2 := fun x y H Q => ∃ a dx fs, x = .ref a ∧ H a = some (.ins C dx fs) ∧ sp [.ref a, y] H Q E
theorem pe_ixOwn {a b : Expr} {ta tb : TE} {pos : Pos} (F : FnOk X.prog X.w X.K X.mg X.base CX k f fd ps sp) (hr : Room (k + 1) X.A) (hs : PySem.W.findIn X.K (.ref C) "__getitem__" = some (some (.ref f))) (hi : PySem.W.fnIn X.K f = true) (hf : PySem.W.isFn X.K (.ref f) = true) (hb0 : L2.Binds X.K fd ps []) (hx : Passes CX X E)
    (ha : PE X a ta) (hb : PE X b tb) (hsl : ∀ x i, subscripted b true (.ref x) i = runValue (.builtin "lifetime.subscript" ⟨[.ref x, i], []⟩) := by intros; with_unfolding_all rfl) : PE X (.Subscript a b pos) (tOp (rOwnIx C sp E) ta tb) := by
  refine ⟨fun pins s0 σ H0 Q I h => ?_⟩
  refine Subscript_ (binT ha hb I h fun v u s x y H I rx ry q => ?_)
  obtain ⟨p, dx, fs, rfl, hp, q⟩ := q
  cases rx
  obtain ⟨mA, J, _⟩ := ins_get I.hok hp
  obtain ⟨od, J, _⟩ := J.look
  obtain ⟨m, hF⟩ := I.fr
  refine PySem.W.sub_K hF I.ok.mod.kin J hs hi hf ?_ (hsl _ _)
  have r2 : Vals [V.ref p, y] [Value.ref p, u] := .cons rfl (.cons ry .nil)
  have hl : [Value.ref p, u].length = ps.length := by rw [← r2.length]; exact F.len _ _ _ _ q
  have bd := hb0 s [Value.ref p, u] I.kIn (by rw [List.append_nil]; exact hl)
  rw [List.append_nil] at bd
  refine wpAny_call (codeAny_mono (F.run X.A.in1 X.stack s H ⟨[.ref p, u], []⟩ [.ref p, u] [.ref p, y] Q E hr.in1 I.env0.in1 bd r2 q) fun rr s' z => ?_)
  match rr, z with
  | .error er, z => exact hx pins σ H s er s' I z
  | .ok (.ret w), z => exact I.after z
  | .ok .next, z => exact False.elim z
  | .ok .brk, z => exact False.elim z
  | .ok .cont, z => exact False.elim z
/-- len of an object of an own class -/
theorem call_lenOwn (F : FnOk X.prog X.w X.K X.mg X.base CX k f fd ps sp) (hr : Room (k + 1) X.A) (hs : PySem.W.findIn X.K (.ref C) "__len__" = some (some (.ref f))) (hf : PySem.W.isFn X.K (.ref f) = true) (hb : L2.Binds X.K fd ps []) (hx : Passes CX X E) :
    CallR X (.builtin "len") (fun xs H Q => ∃ a dx fs, xs = [.ref a] ∧ H a = some (.ins C dx fs) ∧ sp [.ref a] H (fun v H' => ∃ n : Int, v = .int n ∧ 0 ≤ n ∧ n < 2 ^ 63 ∧ Q (.int n) H') E) := by
  intro pins s σ H xs us Q I r h
  obtain ⟨a, dx, fs, rfl, ha, q⟩ := h
  obtain ⟨u, rfl, ru⟩ := vals1 r
  obtain rfl : u = Value.ref a := ru
  obtain ⟨mA, J, _⟩ := ins_get I.hok ha
  obtain ⟨od, J, _⟩ := J.look
  obtain ⟨m, hF⟩ := I.fr
  refine PySem.W.len_K hF I.ok.mod.kin J hs hf ?_
  have r2 : Vals [V.ref a] [Value.ref a] := .cons rfl .nil
  have hl : [Value.ref a].length = ps.length := by rw [← r2.length]; exact F.len _ _ _ _ q
  have bd := hb s [Value.ref a] I.kIn (by rw [List.append_nil]; exact hl)
  rw [List.append_nil] at bd
  refine wpAny_call (codeAny_mono (F.run X.A.in1 X.stack s H ⟨[.ref a], []⟩ [.ref a] [.ref a] _ E hr.in1 I.env0.in1 bd r2 q) fun rr s' z => ?_)
  match rr, z with
  | .error er, z => exact hx pins σ H s er s' I z
  | .ok (.ret w), z =>
    obtain ⟨v, H', I', rv, n, rfl, n0, n1, q'⟩ := I.after z
    obtain ⟨t, rfl⟩ := rv
    exact ⟨⟨n0, n1⟩, V.int n, H', I'.tok _, ⟨_, rfl⟩, q'⟩
  | .ok .next, z => exact False.elim z
  | .ok .brk, z => exact False.elim z
  | .ok .cont, z => exact False.elim z
end
end UL

set_option Elab.async false
set_option linter.all false
set_option maxRecDepth 100000
/-! own: defs with a star, C() of such a class, an index in a try, iter of a tuple, list of an object whose __iter__ hands out such an iterator and that has a length -/
namespace UL
open PySem PySem.Spec PyProof.Rows L2 Evl TL

/-! ### a def with one parameter and a star -/
section
variable {P : Program} {w : World} {K : PySem.W.Frag} {mg : Str → Option Value} {base : Heap} {x qual : Str} {st : Stmt} {f : Addr} {fd : FuncData} {N : List Str} {a b : Str} {k : Nat} {sp : Sp}
/-- what the caller promises, from what the body wants -/
def spStar (sp : Sp) : Sp := fun vs H Q E => ∃ v rest, vs = v :: rest ∧ rest.length ≤ 1000 ∧ ∀ p, H p = none → sp [v, .ref p] (upd H p (.tup rest)) Q E
theorem starFn (F : L2.Fun K x qual st f fd) (S : FnScope N [a, b] (defScope st))
    (h0 : ∀ (kV doc pm : Value) (an : Option Addr) (cdv ct : Value) (v : Value), bindArgs (PySem.W.fnOf x qual (defArgs st) (defBody st) (defScope st) .none kV doc pm an cdv ct) ⟨[v], []⟩ = (newTuple [] >>= fun t => pure [(a, v), (b, t)]))
    (h1 : ∀ (kV doc pm : Value) (an : Option Addr) (cdv ct : Value) (v r : Value) (rs : List Value), bindArgs (PySem.W.fnOf x qual (defArgs st) (defBody st) (defScope st) .none kV doc pm an cdv ct) ⟨v :: r :: rs, []⟩ = (newTuple (r :: rs) >>= fun t => pure [(a, v), (b, t)]))
    (body : ∀ (cdv : Value) (A : Around) (outer : List Env) (s : Shared) (H : Hp) (vs : List V) (Q : VK) (E : XK), Room k (A.deeper (envOfC qual (defScope st) s.heap.objs.size f cdv)) → sp vs H Q E →
      ∃ t, PSs (cxOf (L2.CX P w) P w K mg base N qual (defScope st) f cdv A outer s H E) (defBody st) t ∧ t { nx := fun _ H' => Q .non H', rt := Q } (start N vs) H) : FnR P w K mg base (L2.CX P w) (k + 1) f (spStar sp) := by
  obtain ⟨oc, od, kV, doc, pm, an, cdv, ct, osl, rfl, lk, code⟩ := F.ex
  have R := StX.fn_star (ps := [a]) (pv := b) lk code S StX.cxUp (fun us rest hl => StX.bind_star1 (B := fun zs => bindArgs (PySem.W.fnOf x qual (defArgs st) (defBody st) (defScope st) .none kV doc pm an cdv ct) ⟨zs, []⟩) (h0 kV doc pm an cdv ct) (h1 kV doc pm an cdv ct) us rest hl) fun A outer s H vs Q E hr h => body cdv A outer s H vs Q E hr h
  refine R.imp fun vs H Q E h => ?_
  obtain ⟨v, rest, rfl, hz, q⟩ := h
  exact ⟨[v], rest, rfl, rfl, Nat.le_trans hz (by decide), q⟩
end
section
variable {X : Cx} {CX : CXT} {k : Nat} {f C : Addr} {sp : Sp} {E : XK} {x : Str} {p pos : Pos}
/-- C() -/
theorem pe_makeR0 (M : Mk X.K C f) (F : FnR X.prog X.w X.K X.mg X.base CX k f sp) (room : Room (k + 1) X.A) (g1 : Gl X x) (g2 : X.mg x = some (.ref C)) (out : Passes CX X E) (g3 : (x == ("__debug__" : Str)) = false := by decide) :
    PE X (.Call (.Name x p) [] [] pos) (StX.tMakeR C sp E tNil) :=
  ⟨fun pins s σ H Q I h => wpAny_Call_Name_kw (ld_glob I g1 g2 (PySem.W.callWith_K0 I.kIn M.kp (StX.run_makeR M F room out I .nil h)) g3)⟩
end

/-! ### a[b] of an own class where what is raised is wished for at the slots -/
def tIxOwnS (C : Addr) (sp : Sp) (E : L2.St → XK) (ta tb : TE) : TE := fun σ H Q => ta σ H fun x H1 => tb σ H1 fun y H2 => rOwnIx C sp (E σ) x y H2 Q
section
variable {X : Cx} {CX : CXT} {k : Nat} {f C : Addr} {fd : FuncData} {ps : List Str} {sp : Sp} {E : L2.St → XK}
theorem pe_ixOwnS {a b : Expr} {ta tb : TE} {pos : Pos} (F : FnOk X.prog X.w X.K X.mg X.base CX k f fd ps sp) (hr : Room (k + 1) X.A) (hs : PySem.W.findIn X.K (.ref C) "__getitem__" = some (some (.ref f))) (hi : PySem.W.fnIn X.K f = true) (hf : PySem.W.isFn X.K (.ref f) = true) (hb0 : L2.Binds X.K fd ps []) (out : ∀ σ, PassesAt CX X σ (E σ))
    (ha : PE X a ta) (hb : PE X b tb) (hsl : ∀ x i, subscripted b true (.ref x) i = runValue (.builtin "lifetime.subscript" ⟨[.ref x, i], []⟩) := by intros; with_unfolding_all rfl) : PE X (.Subscript a b pos) (tIxOwnS C sp E ta tb) := by
  refine ⟨fun pins s0 σ H0 Q I h => ?_⟩
  have h' : tOp (rOwnIx C sp (E σ)) ta tb σ H0 Q := h
  refine Subscript_ (binT ha hb I h' fun v u s x y H I rx ry q => ?_)
  obtain ⟨p, dx, fs, rfl, hp, q⟩ := q
  cases rx
  obtain ⟨_, J, _⟩ := ins_get I.hok hp
  obtain ⟨_, J, _⟩ := J.look
  obtain ⟨m, fr⟩ := I.fr
  refine PySem.W.sub_K fr I.ok.mod.kin J hs hi hf ?_ (hsl _ _)
  have r2 : Vals [V.ref p, y] [Value.ref p, u] := .cons rfl (.cons ry .nil)
  have n2 : [Value.ref p, u].length = ps.length := r2.length.symm.trans (F.len _ _ _ _ q)
  have bd := hb0 s [Value.ref p, u] I.kIn (by rw [List.append_nil]; exact n2)
  rw [List.append_nil] at bd
  refine wpAny_call (codeAny_mono (F.run X.A.in1 X.stack s H ⟨[.ref p, u], []⟩ [.ref p, u] [.ref p, y] Q (E σ) hr.in1 I.env0.in1 bd r2 q) fun rr s' z => ?_)
  match rr, z with
  | .error er, z => exact out σ pins H s er s' I z
  | .ok (.ret w), z => exact I.after z
  | .ok .next, z => exact False.elim z
  | .ok .brk, z => exact False.elim z
  | .ok .cont, z => exact False.elim z
end

/-- what leaves a call leaves the def, too -/
theorem passX {X : Cx} {E : XK} (tk : Takes X fun cls d _ H => E cls d H) : Passes (L2.CX X.prog X.w) X E := fun pins σ H s e s' I c => passAt (W := fun cls d _ H => E cls d H) tk σ pins H s e s' I c

/-! ### iter of a tuple -/
def ItTup (t it : Addr) (i : Nat) : HO := .ext fun h => h.IsTupleIter it t i
theorem itTup_ok {P : Program} {w : World} {H : Hp} {h : Heap} {t it : Addr} {i : Nat} (e : h.IsTupleIter it t i) : ObjOk P w H h it (ItTup t it i) :=
  ⟨e, let ⟨o, ho, _⟩ := e; ⟨o, ho⟩, fun _ _ ⟨o, ho, r⟩ k => ⟨o, k _ ho, r⟩⟩
section
variable {X : Cx}
def rIterT (K : PySem.W.Frag) : List V → Hp → VK → Prop := fun xs H Q => ∃ t zs, xs = [.ref t] ∧ SqT K H t zs ∧ ∀ it, H it = none → Q (.ref it) (upd H it (ItTup t it 0))
theorem call_iterT : CallR X (.builtin "iter") (rIterT X.K) := by
  intro pins s σ H xs us Q I r h
  obtain ⟨t, zs, rfl, hq, q⟩ := h
  obtain ⟨u, rfl, ru⟩ := vals1 r
  cases ru
  obtain ⟨its, rv, pl, hz⟩ := I.tuple hq
  refine Calls.call_function_entry (by decide +kernel) (by decide +kernel) PySem.W.kdk_entry_iter (PySem.W.kdk_args_iter _) ?_
  unfold Builtin.«iter»
  refine wpAny_bind (m := someArgs "iter" 1 2 _) (wpAny_of_eq (a := [Value.ref t]) (by first | rfl | kernel_rfl!) ?_)
  show wpAny _ _ (pyIter (.ref t) >>= _) _ _ s
  refine wpAny_bind (wpAny_pyIter_tuple pl (wpAny_pure ⟨_, rfl, ?_⟩))
  exact ⟨.ref s.heap.objs.size, _, I.laid (t' := s.toks) (fun _ _ e => Heap.get?_push_of_some _ e) (Nat.le_refl _) (itTup_ok ⟨_, Heap.get?_push_size _ rfl, rfl, rfl⟩), rfl, q _ (I.hok.fresh (Nat.le_refl _))⟩
end

/-! ### list of such an object -/
structure ItL (K : PySem.W.Frag) (C fi fl : Addr) : Prop where
  it : PySem.W.findIn K (.ref C) "__iter__" = some (some (.ref fi))
  itF : PySem.W.isFn K (.ref fi) = true
  ln : PySem.W.findIn K (.ref C) "__len__" = some (some (.ref fl))
  lnF : PySem.W.isFn K (.ref fl) = true
section
variable {X : Cx} {pins : List (Addr × Obj)} {σ : L2.St} {H : Hp} {s : Shared} {A1 : Around} {t it q : Addr} {zs : List V}
/-- the turns: the iterator hands out what is left, the list grows -/
theorem itT_loop {R : Result → Shared → Prop} (calm : A1.in1.handled = none) (ex0 : X.ex = []) (hz : zs.length ≤ sizeLine) (nq : it ≠ q) (old : Fr0 X.H_0 it)
    (fin : ∀ (H' : Hp) s', Inv X pins σ (delH H' it) s' → H' q = some (.lst zs) → (∀ b, b ≠ it → b ≠ q → H' b = H b) → R (.ok (.ret .none)) s') :
    ∀ (n i : Nat) (H' : Hp) (s' : Shared), zs.length - i = n → i ≤ zs.length → Inv X pins σ H' s' → H' it = some (ItTup t it i) → H' q = some (.lst (zs.take i)) → SqT X.K H' t zs → t ≠ it → t ≠ q → (∀ b, b ≠ it → b ≠ q → H' b = H b) →
      codeAny (model X.prog X.w) A1 (.builtin "list.extend.loop" ⟨[.ref q, .ref it, .none], []⟩) R s' := by
  intro n
  induction n with
  | zero =>
    intro i H' s' hn hi I hit hq ht n1 n2 same
    obtain rfl : i = zs.length := by omega
    refine codeAny_builtin PySem.F.entry_extend_loop ?_
    rw [Around.under_plainId PySem.F.plain_extend_loop _]
    show wpAny _ A1.in1 (pyNext (.ref it) >>= _) _ _ s'
    obtain ⟨its, rv, pl, _⟩ := I.tuple ht
    refine wpAny_bind (wpAny_pyNext_tuple_end calm (I.hok it _ hit).1 pl (by rw [List.getElem?_toArray]; exact rv.none_of (List.getElem?_eq_none (Nat.le_refl _))) fun h' eb => ?_)
    obtain ⟨G, g1, g2, J⟩ := I.untrack hit old ex0
    have J2 : Inv X pins σ (delH H' it) { s' with heap := h' } := J.kept (h' := h') (t' := s'.toks) fun b o e => eb b o (fun z => by rw [z, g2] at e; cases e) (g1 b o e)
    exact wpAny_pure (fin H' _ J2 (by rw [hq, List.take_length]) same)
  | succ n ih =>
    intro i H' s' hn hi I hit hq ht n1 n2 same
    have hlt : i < zs.length := by omega
    refine codeAny_builtin PySem.F.entry_extend_loop ?_
    rw [Around.under_plainId PySem.F.plain_extend_loop _]
    show wpAny _ A1.in1 (pyNext (.ref it) >>= _) _ _ s'
    obtain ⟨its, rv, pl, _⟩ := I.tuple ht
    obtain ⟨u, hu, ru⟩ := rv.get (List.getElem?_eq_getElem hlt)
    refine wpAny_bind (wpAny_pyNext_tuple_item (I.hok it _ hit).1 pl (by rw [List.getElem?_toArray]; exact hu) fun h' e' sb => ?_)
    have J : Inv X pins σ (upd H' it (ItTup t it (i + 1))) { s' with heap := h' } := I.write (x := it) (e := it) (t' := s'.toks) (by rw [hit]; exact True.intro) (.inl rfl) (fun b o nb z => (sb.2 b nb).trans z) (let ⟨o, ho, _⟩ := e'; ⟨o, ho⟩) (itTup_ok e')
    have hq2 : upd H' it (ItTup t it (i + 1)) q = some (.lst (zs.take i)) := by rw [upd_ne (Ne.symm nq)]; exact hq
    obtain ⟨z, ls, k, r2, hl, e⟩ := J.lstM hq2
    have len : zs.take i = zs.take i := rfl
    have hl2 : (zs.take i).length = i := by rw [List.length_take]; omega
    have nx : zs.take i ++ [zs[i]] = zs.take (i + 1) := by rw [List.take_add_one, List.getElem?_eq_getElem hlt]; rfl
    show wpAny _ A1.in1 (updateSeq q (·.push u) >>= _) _ _ _
    refine wpAny_bind (wpAny_updateSeq e rfl (wpAny_pure ⟨plainId_quiet PySem.F.plain_extend_loop _, ?_⟩) (by rw [List.size_toArray]; omega) (by show (ls.toArray.push u).size ≤ sizeLine + 1; rw [Array.size_push, List.size_toArray]; omega))
    have J2 := J.lset (f := (·.push u)) (its' := ls ++ [u]) (ys := zs.take (i + 1)) (t' := s'.toks) hq2 e (by simp) (by rw [← nx]; exact r2.append (.cons ru .nil)) (by rw [List.length_take]; omega)
    refine ih (i + 1) _ _ (by omega) (by omega) J2 ?_ upd_same ?_ n1 n2 ?_
    · rw [upd_ne nq, upd_same]
    · rcases ht with (h | ⟨o, h⟩) | h
      · exact .inl (.inl (by rw [upd_ne n2, upd_ne n1]; exact h))
      · exact .inl (.inr ⟨o, by rw [upd_ne n2, upd_ne n1]; exact h⟩)
      · exact .inr h
    · intro b b1 b2
      rw [upd_ne b2, upd_ne b1]
      exact same b b1 b2
end
section
variable {X : Cx} {pins : List (Addr × Obj)} {σ : L2.St} {H : Hp} {s : Shared} {CI : CXT} {C fi fl a : Addr} {fdI fdL : FuncData} {psI psL : List Str} {spI spL : Sp} {EI EL : XK} {n : Nat} {A1 : Around}
/-- below the running body: the environment of a call -/
theorem env0_sub (sb : Sub X n A1) (I : Inv X pins σ H s) : Env0 X.prog X.w X.K X.mg X.base A1 X.stack s H := by
  have e := I.env0
  exact ⟨sb.fr.trans e.frames, e.mod, e.bs, e.bsz, e.funs, e.frf, e.hok, e.bare⟩
/-- the length is asked for: whatever is said of it -/
theorem lenHint {Q : Bool → Shared → Prop} {dx : Addr} {fs : List (Str × V)} {m : Int} (sb : Sub X n A1.in1) (hc : ItL X.K C fi fl) (FL : FnOk X.prog X.w X.K X.mg X.base CX0 n fl fdL psL spL) (bL : L2.Binds X.K fdL psL []) 
    (I : Inv X pins σ H s) (ha : H a = some (.ins C dx fs)) (hm : 0 ≤ m ∧ m ≤ 1000) (hsp : spL [.ref a] H (fun v H' => v = .int m ∧ H' = H) EL) (k : ∀ b s', Inv X pins σ H s' → Q b s') :
    wpAny (model X.prog X.w) A1 (Builtin.List.listLengthHint (.ref a)) Q X.xe s := by
  obtain ⟨_, J, _⟩ := ins_get I.hok ha
  obtain ⟨_, J, _⟩ := J.look
  obtain ⟨_, fr⟩ := I.fr
  unfold Builtin.List.listLengthHint
  refine wpAny_bind (wpAny_bind (J.type.here ((PySem.W.looks_findIn I.kIn hc.ln).here ?_)))
  refine PySem.W.KFB.if_not rfl ?_
  refine wpAny_ite_split (fun _ => ?_) (fun z => absurd rfl z)
  refine wpAny_bind (wpAny_rule (wpAny_bind (wpAny_attempt (PySem.W.len_K fr I.ok.mod.kin J hc.ln hc.lnF ?_))))
  have r2 : Vals [V.ref a] [Value.ref a] := .cons rfl .nil
  have n2 : [Value.ref a].length = psL.length := r2.length.symm.trans (FL.len _ _ _ _ hsp)
  have bd := bL s [Value.ref a] I.kIn (by rw [List.append_nil]; exact n2)
  rw [List.append_nil] at bd
  refine wpAny_call (codeAny_mono (FL.run A1.in1 X.stack s H ⟨[.ref a], []⟩ [.ref a] [.ref a] _ EL sb.room (env0_sub sb I) bd r2 hsp) fun rr s' z => ?_)
  match rr, z with
  | .error er, z => exact False.elim z
  | .ok (.ret w), z =>
    obtain ⟨v, H', I', rv, rfl, rfl⟩ := I.after z
    obtain ⟨t, rfl⟩ := rv
    refine ⟨⟨hm.1, by omega⟩, ?_⟩
    refine wpAny_bind (wpAny_pure ?_)
    refine wpAny_ite_split (fun z => ?_) (fun _ => wpAny_pure (k _ _ (I'.tok _)))
    rw [notLongL (Nat.le_trans (by omega : m.toNat ≤ 1000) (by decide))] at z
    cases z
  | .ok .next, z => exact False.elim z
  | .ok .brk, z => exact False.elim z
  | .ok .cont, z => exact False.elim z
/-- what list(o) asks: the two methods' promises, at any heap that has all that stands now -/
def rListOwnT (K : PySem.W.Frag) (H0 : Hp) (C : Addr) (spI spL : Sp) (EI EL : XK) : List V → Hp → VK → Prop := fun xs H Q => ∃ a dx fs t zs, xs = [.ref a] ∧ H a = some (.ins C dx fs) ∧ H t = some (.tup zs) ∧ zs.length ≤ 1000 ∧
  (∀ H', Ex H H' → spI [.ref a] H' (fun v H2 => ∃ it, v = .ref it ∧ H' it = none ∧ Fr0 H0 it ∧ H2 = upd H' it (ItTup t it 0)) EI) ∧ (∀ H', Ex H H' → spL [.ref a] H' (fun v H2 => v = .int (zs.length : Int) ∧ H2 = H') EL) ∧ ∀ q, H q = none → Q (.ref q) (upd H q (.lst zs))
theorem call_listOwnT (calm : X.calm = true) (ex0 : X.ex = []) (hc : ItL X.K C fi fl) (FI : FnOk X.prog X.w X.K X.mg X.base CX0 n fi fdI psI spI) (bI : L2.Binds X.K fdI psI []) (FL : FnOk X.prog X.w X.K X.mg X.base CX0 n fl fdL psL spL) (bL : L2.Binds X.K fdL psL []) (room : Room (n + 3) X.A) :
    CallR X (.type "list") (rListOwnT X.K X.H_0 C spI spL EI EL) := by
  intro pins s σ H xs us Q I rv h
  obtain ⟨a, dx, fs, t, zs, rfl, ha, ht, hz, hI, hL, hq⟩ := h
  obtain ⟨u, rfl, ru⟩ := rv.one
  cases ru
  have sb3 : Sub X (n + 3) X.A := ⟨room, rfl⟩
  have sb1 : Sub X (n + 1) X.A.in1.in1 := sb3.in1.in1
  have sb0 : Sub X n X.A.in1.in1.in1 := sb1.in1
  have fr : H s.heap.objs.size = none := I.hok.fresh (Nat.le_refl _)
  generalize eq : s.heap.objs.size = q at fr
  refine callType_codes (Q₁ := fun ob s1 => ob = .ref s.heap.objs.size ∧ s1 = { s with heap := s.heap.push { cls := .type "list", data := .seq #[] } }) PySem.F.called_list (PySem.F.typeCall_list_1 _) PySem.F.entry_list_init (code_list_new _ ⟨rfl, rfl⟩) fun ob s1 e1 => ?_
  obtain ⟨rfl, rfl⟩ := e1
  have g0 : (s.heap.push { cls := .type "list", data := .seq #[] }).get? s.heap.objs.size = some { cls := .type "list", data := .seq #[] } := Heap.get?_push_size _ rfl
  refine ⟨⟨_, g0, rfl⟩, PySem.F.args_list_init_2 _ _, ?_⟩
  have I1 : Inv X pins σ (upd H s.heap.objs.size (.lst [])) { s with heap := s.heap.push { cls := .type "list", data := .seq #[] } } := I.lnew (its := []) (t' := s.toks) .nil (Nat.zero_le _)
  show wpAny _ _ (do let old ← Builtin.List.listItems (.ref s.heap.objs.size); Builtin.List.listUpdate (.ref s.heap.objs.size) (fun _ => #[]); letGo old.toList.reverse; Builtin.List.listExtendWith (.ref s.heap.objs.size) (.ref a) .none) _ _ _
  unfold Builtin.List.listItems
  refine wpAny_bind (wpAny_bind (wpAny_seqItems g0 rfl (wpAny_pure ?_)))
  have I2 := I1.lset (f := fun _ => #[]) (its := []) (its' := []) (ys := []) (t' := s.toks) upd_same g0 rfl .nil (Nat.zero_le _)
  rw [upd_upd] at I2
  show wpAny _ _ (updateSeq s.heap.objs.size (fun _ => #[]) >>= fun _ => letGo (#[] : Array Value).toList.reverse >>= fun _ => Builtin.List.listExtendWith (.ref s.heap.objs.size) (.ref a) .none) _ _ _
  refine wpAny_bind (wpAny_updateSeq g0 rfl (wpAny_bind (wpAny_letGo ?_)))
  rw [eq] at I2 ⊢
  have ex : Ex H (upd H q (.lst [])) := Ex.new fr
  have ha2 := ex _ _ ha
  have nqa : q ≠ a := fun z => by rw [← z, fr] at ha; cases ha
  obtain ⟨_, J, _⟩ := ins_get I2.hok ha2
  obtain ⟨_, J, _⟩ := J.look
  obtain ⟨_, frm⟩ := I2.fr
  unfold Builtin.List.listExtendWith
  refine wpAny_bind (J.type.here ?_)
  have b1 : Builtin.List.listSameRef (.ref q) (.ref a) = false := by simp [Builtin.List.listSameRef, nqa]
  have b2 : (Value.ref C == Value.type "list") = false := rfl
  have b3 : (Value.ref C == Value.type "tuple") = false := rfl
  simp only [b1, b2, b3, Bool.or_false, Bool.false_eq_true, if_false]
  refine wpAny_bind (PySem.W.owit_iter frm I2.ok.mod.kin J hc.it hc.itF ?_)
  have q1 := hI _ ex
  have r2 : Vals [V.ref a] [Value.ref a] := .cons rfl .nil
  have n2 : [Value.ref a].length = psI.length := r2.length.symm.trans (FI.len _ _ _ _ q1)
  have bd := bI _ [Value.ref a] I2.kIn (by rw [List.append_nil]; exact n2)
  rw [List.append_nil] at bd
  refine wpAny_call (codeAny_mono (FI.run X.A.in1.in1 X.stack _ _ ⟨[.ref a], []⟩ [.ref a] [.ref a] _ EI (sb1.mono (Nat.le_succ n)).room (env0_sub (sb1.mono (Nat.le_succ n)) I2) bd r2 q1) fun rr s' z => ?_)
  match rr, z with
  | .error er, z => exact False.elim z
  | .ok .next, z => exact False.elim z
  | .ok .brk, z => exact False.elim z
  | .ok .cont, z => exact False.elim z
  | .ok (.ret w), z =>
    obtain ⟨v, H', I3, rv, it, rfl, hit, old, rfl⟩ := I2.after z
    cases rv
    have nit : it ≠ q := fun z => by rw [z, upd_same] at hit; cases hit
    have hitH : H it = none := by rw [upd_ne nit] at hit; exact hit
    have ex3 : Ex (upd H q (.lst [])) (upd (upd H q (.lst [])) it (ItTup t it 0)) := Ex.new hit
    have hT : s'.TypeIs (.ref it) "tuple_iterator" := by
      obtain ⟨o, ho, hc, _⟩ := (I3.hok it _ upd_same).1
      exact ⟨o, ho, hc⟩
    unfold PySem.W.OwitIt
    refine wpAny_specialOf hT PySem.F.slot_tuple_iterator_next.lookup ?_
    refine wpAny_bind (wpAny_holding (lenHint (m := (zs.length : Int)) sb0 hc FL bL I3 (ex3 _ _ ha2) ⟨by omega, by omega⟩ (hL _ (ex.trans ex3)) fun b s4 I4 => ?_))
    have nta : t ≠ it ∧ t ≠ q := ⟨ne_of_none ht hitH, ne_of_none ht fr⟩
    have go : ∀ s5, Inv X pins σ (upd (upd H q (.lst [])) it (ItTup t it 0)) s5 → codeAny (model X.prog X.w) X.A.in1 (.builtin "list.extend.loop" ⟨[.ref q, .ref it, .none], []⟩) (wants (fun r s₂ => r = .none ∧ EP X pins σ Q (.ref q) s₂) X.xe) s5 := fun s5 I5 => by
      refine itT_loop (A1 := X.A.in1) (R := wants (fun r s₂ => r = .none ∧ EP X pins σ Q (.ref q) s₂) X.xe) (H := upd H q (.lst [])) (show X.A.in1.in1.handled = none from I.ok.hd calm) ex0 (by rw [sizeLine_eq]; omega) nit old (fun H6 s6 I6 e6 k6 => ⟨rfl, .ref q, _, I6, rfl, ?_⟩) zs.length 0 _ s5 rfl (Nat.zero_le _) I5 upd_same ?_ ?_ nta.1 nta.2 (fun b b1 b2 => by rw [upd_ne b1])
      · have e : delH H6 it = upd H q (.lst zs) := by
          funext b
          by_cases h1 : b = it
          · rw [h1, upd_ne nit, hitH]
            exact if_pos rfl
          · rw [show delH H6 it b = H6 b from if_neg h1]
            by_cases h2 : b = q
            · rw [h2, upd_same, e6]
            · rw [k6 b h1 h2, upd_ne h2, upd_ne h2]
        rw [e]
        exact hq q fr
      · rw [upd_ne (Ne.symm nit), upd_same]
        rfl
      · exact SqT.of ((ex.trans ex3) _ _ ht)
    have h4q : upd (upd H q (.lst [])) it (ItTup t it 0) q = some (.lst []) := by rw [upd_ne (Ne.symm nit), upd_same]
    refine wpAny_ite_split (fun _ => ?_) (fun _ => wpAny_pure ⟨plainId_quiet PySem.F.plain_extend_loop _, go s4 I4⟩)
    refine wpAny_bind (wpAny_rule (wpAny_bind ?_))
    show wpAny _ _ (updateSeq q (·.push .none) >>= fun _ => updateSeq q (·.pop)) _ _ _
    obtain ⟨_, ls, k, r5, _, g5⟩ := I4.lstM h4q
    cases r5
    refine wpAny_bind (wpAny_updateSeq g5 rfl ?_)
    have I6 := I4.lset (f := (·.push Value.none)) (its' := [Value.none]) (ys := [.non]) (t' := s4.toks) h4q g5 (by simp) (.cons rfl .nil) (by rw [List.length_singleton, sizeLine_eq]; decide)
    obtain ⟨_, ls6, k6, r6, _, g6⟩ := I6.lstM upd_same
    obtain ⟨u6, rfl, _⟩ := r6.one
    refine wpAny_updateSeq g6 rfl ?_ (by show 1 ≤ sizeLine; rw [sizeLine_eq]; decide) (by show 0 ≤ sizeLine + 1; exact Nat.zero_le _)
    have I7 := I6.lset (f := (·.pop)) (its := [u6]) (its' := []) (ys := []) (t' := s4.toks) upd_same g6 (by rfl) .nil (Nat.zero_le _)
    rw [upd_upd, upd_id h4q] at I7
    exact wpAny_pure ⟨plainId_quiet PySem.F.plain_extend_loop _, go _ I7⟩
end
/-! ### lists by their length -/
theorem len1 {α : Type} {xs : List α} (h : xs.length = 1) : ∃ a0, xs = [a0] := by
  obtain ⟨a0, t0, rfl⟩ := List.exists_cons_of_length_eq_add_one h; have h1 := Nat.succ.inj h
  obtain rfl := List.eq_nil_of_length_eq_zero h1
  exact ⟨_, rfl⟩
theorem len2 {α : Type} {xs : List α} (h : xs.length = 2) : ∃ a0 a1, xs = [a0, a1] := by
  obtain ⟨a0, t0, rfl⟩ := List.exists_cons_of_length_eq_add_one h; have h1 := Nat.succ.inj h; obtain ⟨a1, t1, rfl⟩ := List.exists_cons_of_length_eq_add_one h1; have h2 := Nat.succ.inj h1
  obtain rfl := List.eq_nil_of_length_eq_zero h2
  exact ⟨_, _, rfl⟩
theorem len3 {α : Type} {xs : List α} (h : xs.length = 3) : ∃ a0 a1 a2, xs = [a0, a1, a2] := by
  obtain ⟨a0, t0, rfl⟩ := List.exists_cons_of_length_eq_add_one h; have h1 := Nat.succ.inj h; obtain ⟨a1, t1, rfl⟩ := List.exists_cons_of_length_eq_add_one h1; have h2 := Nat.succ.inj h1; obtain ⟨a2, t2, rfl⟩ := List.exists_cons_of_length_eq_add_one h2; have h3 := Nat.succ.inj h2
  obtain rfl := List.eq_nil_of_length_eq_zero h3
  exact ⟨_, _, _, rfl⟩
theorem len4 {α : Type} {xs : List α} (h : xs.length = 4) : ∃ a0 a1 a2 a3, xs = [a0, a1, a2, a3] := by
  obtain ⟨a0, t0, rfl⟩ := List.exists_cons_of_length_eq_add_one h; have h1 := Nat.succ.inj h; obtain ⟨a1, t1, rfl⟩ := List.exists_cons_of_length_eq_add_one h1; have h2 := Nat.succ.inj h1; obtain ⟨a2, t2, rfl⟩ := List.exists_cons_of_length_eq_add_one h2; have h3 := Nat.succ.inj h2; obtain ⟨a3, t3, rfl⟩ := List.exists_cons_of_length_eq_add_one h3; have h4 := Nat.succ.inj h3
  obtain rfl := List.eq_nil_of_length_eq_zero h4
  exact ⟨_, _, _, _, rfl⟩
theorem len5 {α : Type} {xs : List α} (h : xs.length = 5) : ∃ a0 a1 a2 a3 a4, xs = [a0, a1, a2, a3, a4] := by
  obtain ⟨a0, t0, rfl⟩ := List.exists_cons_of_length_eq_add_one h; have h1 := Nat.succ.inj h; obtain ⟨a1, t1, rfl⟩ := List.exists_cons_of_length_eq_add_one h1; have h2 := Nat.succ.inj h1; obtain ⟨a2, t2, rfl⟩ := List.exists_cons_of_length_eq_add_one h2; have h3 := Nat.succ.inj h2; obtain ⟨a3, t3, rfl⟩ := List.exists_cons_of_length_eq_add_one h3; have h4 := Nat.succ.inj h3; obtain ⟨a4, t4, rfl⟩ := List.exists_cons_of_length_eq_add_one h4; have h5 := Nat.succ.inj h4
  obtain rfl := List.eq_nil_of_length_eq_zero h5
  exact ⟨_, _, _, _, _, rfl⟩
theorem len12 {α : Type} {xs : List α} (h : xs.length = 12) : ∃ a0 a1 a2 a3 a4 a5 a6 a7 a8 a9 a10 a11, xs = [a0, a1, a2, a3, a4, a5, a6, a7, a8, a9, a10, a11] := by
  obtain ⟨a0, t0, rfl⟩ := List.exists_cons_of_length_eq_add_one h; have h1 := Nat.succ.inj h; obtain ⟨a1, t1, rfl⟩ := List.exists_cons_of_length_eq_add_one h1; have h2 := Nat.succ.inj h1; obtain ⟨a2, t2, rfl⟩ := List.exists_cons_of_length_eq_add_one h2; have h3 := Nat.succ.inj h2; obtain ⟨a3, t3, rfl⟩ := List.exists_cons_of_length_eq_add_one h3; have h4 := Nat.succ.inj h3; obtain ⟨a4, t4, rfl⟩ := List.exists_cons_of_length_eq_add_one h4; have h5 := Nat.succ.inj h4; obtain ⟨a5, t5, rfl⟩ := List.exists_cons_of_length_eq_add_one h5; have h6 := Nat.succ.inj h5; obtain ⟨a6, t6, rfl⟩ := List.exists_cons_of_length_eq_add_one h6; have h7 := Nat.succ.inj h6; obtain ⟨a7, t7, rfl⟩ := List.exists_cons_of_length_eq_add_one h7; have h8 := Nat.succ.inj h7; obtain ⟨a8, t8, rfl⟩ := List.exists_cons_of_length_eq_add_one h8; have h9 := Nat.succ.inj h8; obtain ⟨a9, t9, rfl⟩ := List.exists_cons_of_length_eq_add_one h9; have h10 := Nat.succ.inj h9; obtain ⟨a10, t10, rfl⟩ := List.exists_cons_of_length_eq_add_one h10; have h11 := Nat.succ.inj h10; obtain ⟨a11, t11, rfl⟩ := List.exists_cons_of_length_eq_add_one h11; have h12 := Nat.succ.inj h11
  obtain rfl := List.eq_nil_of_length_eq_zero h12
  exact ⟨_, _, _, _, _, _, _, _, _, _, _, _, rfl⟩
theorem len13 {α : Type} {xs : List α} (h : xs.length = 13) : ∃ a0 a1 a2 a3 a4 a5 a6 a7 a8 a9 a10 a11 a12, xs = [a0, a1, a2, a3, a4, a5, a6, a7, a8, a9, a10, a11, a12] := by
  obtain ⟨a0, t0, rfl⟩ := List.exists_cons_of_length_eq_add_one h; have h1 := Nat.succ.inj h; obtain ⟨a1, t1, rfl⟩ := List.exists_cons_of_length_eq_add_one h1; have h2 := Nat.succ.inj h1; obtain ⟨a2, t2, rfl⟩ := List.exists_cons_of_length_eq_add_one h2; have h3 := Nat.succ.inj h2; obtain ⟨a3, t3, rfl⟩ := List.exists_cons_of_length_eq_add_one h3; have h4 := Nat.succ.inj h3; obtain ⟨a4, t4, rfl⟩ := List.exists_cons_of_length_eq_add_one h4; have h5 := Nat.succ.inj h4; obtain ⟨a5, t5, rfl⟩ := List.exists_cons_of_length_eq_add_one h5; have h6 := Nat.succ.inj h5; obtain ⟨a6, t6, rfl⟩ := List.exists_cons_of_length_eq_add_one h6; have h7 := Nat.succ.inj h6; obtain ⟨a7, t7, rfl⟩ := List.exists_cons_of_length_eq_add_one h7; have h8 := Nat.succ.inj h7; obtain ⟨a8, t8, rfl⟩ := List.exists_cons_of_length_eq_add_one h8; have h9 := Nat.succ.inj h8; obtain ⟨a9, t9, rfl⟩ := List.exists_cons_of_length_eq_add_one h9; have h10 := Nat.succ.inj h9; obtain ⟨a10, t10, rfl⟩ := List.exists_cons_of_length_eq_add_one h10; have h11 := Nat.succ.inj h10; obtain ⟨a11, t11, rfl⟩ := List.exists_cons_of_length_eq_add_one h11; have h12 := Nat.succ.inj h11; obtain ⟨a12, t12, rfl⟩ := List.exists_cons_of_length_eq_add_one h12; have h13 := Nat.succ.inj h12
  obtain rfl := List.eq_nil_of_length_eq_zero h13
  exact ⟨_, _, _, _, _, _, _, _, _, _, _, _, _, rfl⟩
end UL

set_option Elab.async false
set_option linter.all false
set_option maxRecDepth 100000
/-! own: enumerate of a text, C(e) with C in a local name, a written dict of numbers by text -/
namespace UL
open PySem PySem.Spec PyProof.Rows L2 Evl TL

/-! ### enumerate(text) -/
def Ites (x : Str) : It :=
  ⟨fun i _ => i < x.cps.size, fun i H v H' => ∃ T c, v = .ref T ∧ H T = none ∧ H' = upd H T (.tup [.int (i : Nat), .str ⟨#[c]⟩]) ∧ x.cps[i]? = some c, fun i _ => i = x.cps.size⟩
theorem turn_enumS {P : Program} {w : World} {K : PySem.W.Frag} {elts : List Expr} {kk : Nat} {tpos : Pos} (x : Str) (t : Tok) (ty : String) (hty : ty = "str_ascii_iterator" ∨ ty = "str_iterator") (e it : Addr) :
    Turn P w K (.Tuple elts kk tpos) (Ites x) [e, it] e (fun i h => (∃ old, IsEnum h e it ((i : Nat) : Int) old) ∧ h.IsStrIter it ty x t i ∧ e ≠ it) where
  mem := by simp
  obj := fun i h st b hb => by
    obtain ⟨⟨old, he⟩, ⟨o, ho, hc, hd⟩, _⟩ := st
    have e' : b = e ∨ b = it := by simpa using hb
    rcases e' with z | z
    · rw [z]; exact ⟨_, he, fun v q => nomatch q⟩
    · rw [z]; exact ⟨o, ho, fun v q => by rw [hd] at q; cases q⟩
  keep := fun i h h' st k => let ⟨⟨old, he⟩, ⟨o, ho, r⟩, hne⟩ := st; ⟨⟨old, k e (by simp) _ he⟩, ⟨o, k it (by simp) o ho, r⟩, hne⟩
  item := by
    intro X hP hw hK hc i pins s σ H E I hf st hg
    subst hP hw hK
    obtain ⟨⟨old, he⟩, hit, hne⟩ := st
    have hel : e < s.heap.objs.size := Heap.lt_size he
    have hil : it < s.heap.objs.size := by obtain ⟨_, q, _⟩ := hit; exact Heap.lt_size q
    have D : Draws X.prog X.w X.A.in1 it [it] x.cps.size (fun i v => ∃ c u, x.cps[i]? = some c ∧ v = .str ⟨#[c]⟩ u) (fun i h => h.IsStrIter it ty x t i) := by
      rcases hty with q | q
      · rw [q]; exact Draws.strAscii (A := X.A.in1) (I.ok.hd hc) it x t
      · rw [q]; exact Draws.strWide (A := X.A.in1) (I.ok.hd hc) it x t
    refine wpAny_pyNext_enum_itemD D he hit hg hne (fun q => hne (by simpa using q)) fun u h' tk hP ho hit' hT hsz hk => ?_
    obtain ⟨c, tu, hcx, rfl⟩ := hP
    refine ⟨_, rfl, wpAny_letOwnedTupleGo_enum (s := { s with heap := h', toks := tk + 1 }) ho fun h'' he' sb => ?_⟩
    have hT2 : h''.get? s.heap.objs.size = some { cls := .type "tuple", data := .seq #[.int i tk, .str ⟨#[c]⟩ tu] } := (sb.2 _ (Nat.ne_of_gt hel)).trans hT
    have new : ObjOk X.prog X.w (upd H s.heap.objs.size (.tup [.int (i : Nat), .str ⟨#[c]⟩])) h'' s.heap.objs.size (.tup [.int (i : Nat), .str ⟨#[c]⟩]) :=
      ⟨by show 2 ≤ sizeLine; decide, [.int i tk, .str ⟨#[c]⟩ tu], .cons ⟨_, rfl⟩ (.cons ⟨_, rfl⟩ .nil), ⟨_, hT2, rfl, _, rfl⟩⟩
    have I1 : Inv X pins σ (upd H s.heap.objs.size (.tup [.int (i : Nat), .str ⟨#[c]⟩])) { s with heap := h'', toks := tk + 1 } :=
      I.turnedNew (ch := [e, it]) (fun b ob hb q => (sb.2 b (fun z => hb (by simp [z]))).trans (hk b ob (fun z => hb (by simp [z])) (fun z => hb (by simp [z])) q)) hf (Nat.le_refl _) new
    refine ⟨.ref s.heap.objs.size, _, I1, rfl, ⟨_, c, rfl, I.hok.fresh (Nat.le_refl _), rfl, hcx⟩, ⟨⟨.str ⟨#[c]⟩ tu, ?_⟩, ?_, hne⟩, fun b hb => ?_⟩
    · have e1 : ((i + 1 : Nat) : Int) = (i : Int) + 1 := by omega
      rw [e1]; exact he'
    · obtain ⟨o, ho2, r⟩ := hit'
      exact ⟨o, (sb.2 it (Ne.symm hne)).trans ho2, r⟩
    · have hb' : b < s.heap.objs.size := by
        have e' : b = e ∨ b = it := by simpa using hb
        rcases e' with z | z
        · rw [z]; exact hel
        · rw [z]; exact hil
      rw [upd_ne (Nat.ne_of_lt hb')]
      exact (hf b hb).1
  done := by
    intro X hP hw hK hc i pins s σ H E I hf st hg
    subst hP hw hK
    obtain ⟨⟨old, he⟩, hit, hne⟩ := st
    obtain ⟨f0, f1, f2, f3, f4, f5⟩ := hf it (by simp)
    have D : Draws X.prog X.w X.A.in1 it [it] x.cps.size (fun i v => ∃ c u, x.cps[i]? = some c ∧ v = .str ⟨#[c]⟩ u) (fun i h => h.IsStrIter it ty x t i) := by
      rcases hty with q | q
      · rw [q]; exact Draws.strAscii (A := X.A.in1) (I.ok.hd hc) it x t
      · rw [q]; exact Draws.strWide (A := X.A.in1) (I.ok.hd hc) it x t
    obtain rfl : i = x.cps.size := hg
    exact wpAny_pyNext_enum_endD D he hit fun h' eb => ⟨rfl, I.turned (t' := s.toks) (fun b o hb q => eb b o hb q) f0 f1 f3 f4 f5⟩
  self := fun A i s Q E st h => let ⟨⟨_, he⟩, _⟩ := st; wpAny_pyIter_enum he h
def iEnumS (ta : TA) : TI := fun σ H R => ta σ H fun vs H1 => ∃ x, vs = [.str x] ∧ R (Ites x) H1
theorem pi_enumS {X : Cx} {e : Expr} {ta : TA} {p pos tpos : Pos} {elts : List Expr} {kk : Nat} (hg : Gl X "enumerate") (hm : X.mg "enumerate" = none) (ha : PA X [e] ta) (hs : starEach [e] X.env = [(false, eval e X.env)] := by rfl) :
    PI X (.Tuple elts kk tpos) (.Call (.Name "enumerate" p) [e] [] pos) (iEnumS ta) := by
  refine ⟨fun pins s σ H R I h => ?_⟩
  refine Call_ (ld_blt I hg hm boot_enumerate (PyProof.Rows.callWith_type1 (thn (ha.run pos pins s σ H _ I h) fun us s1 ⟨vs, H1, I1, r1, q1⟩ => ?_) hs rfl))
  obtain ⟨x, ex, q⟩ := q1
  subst ex
  cases r1 with
  | cons r rr =>
    cases rr
    obtain ⟨t, rfl⟩ := r
    refine call_enumerate_str fun h' he hit hsz hk => wpAny_pyIter_enum he ?_
    have I2 : Inv X pins σ H1 { s1 with heap := h' } := I1.kept (t' := s1.toks) hk
    have fp : ∀ b ∈ [s1.heap.objs.size + 1, s1.heap.objs.size], FpOk X pins H1 b := fun b hb => by
      have e' : b = s1.heap.objs.size + 1 ∨ b = s1.heap.objs.size := by simpa using hb
      have hle : s1.heap.objs.size ≤ b := by
        rcases e' with z | z
        · rw [z]; exact Nat.le_add_right _ _
        · rw [z]; exact Nat.le_refl _
      exact I1.fpOk hle (I1.hok.fresh hle)
    cases hasc : x.cps.all (· < 128)
    · have hit' : h'.IsStrIter s1.heap.objs.size "str_iterator" x t 0 := by simpa [strIterType, hasc] using hit
      exact ⟨s1.heap.objs.size + 1, [s1.heap.objs.size + 1, s1.heap.objs.size], _, _, H1, rfl, I2, turn_enumS x t "str_iterator" (.inr rfl) (s1.heap.objs.size + 1) s1.heap.objs.size, ⟨⟨.none, he⟩, hit', Nat.succ_ne_self _⟩, fp, q⟩
    · have hit' : h'.IsStrIter s1.heap.objs.size "str_ascii_iterator" x t 0 := by simpa [strIterType, hasc] using hit
      exact ⟨s1.heap.objs.size + 1, [s1.heap.objs.size + 1, s1.heap.objs.size], _, _, H1, rfl, I2, turn_enumS x t "str_ascii_iterator" (.inl rfl) (s1.heap.objs.size + 1) s1.heap.objs.size, ⟨⟨.none, he⟩, hit', Nat.succ_ne_self _⟩, fp, q⟩
theorem walk_enumS {z : Str} : L2.Walk (Ites z) z.cps.size (fun _ => True) (fun i H v H' => ∃ T c, v = .ref T ∧ H T = none ∧ H' = upd H T (.tup [.int (i : Nat), .str ⟨#[c]⟩]) ∧ z.cps[i]? = some c) :=
  ⟨fun _ _ hi _ => hi, fun _ _ => rfl, fun _ _ _ _ _ _ y => y⟩

/-! ### C(e, ..) with C in a local name -/
def tMakeL (i : Nat) (C : Addr) (sp : Sp) (dvs : List V) (E : XK) (t : TA) : TE := fun σ H Q => σ[i]? = some (some (.ref C)) ∧ t σ H fun vs H1 => ∀ x dx, H1 x = none → H1 dx = none → dx ≠ x → sp (.ref x :: (vs ++ dvs)) (upd (upd H1 dx (.own x)) x (.ins C dx [])) (fun v H2 => v = .non ∧ Q (.ref x) H2) E
section
variable {X : Cx} {CX : CXT} {x : Str} {i : Nat} {C f : Addr} {k : Nat} {fd : FuncData} {ps : List Str} {sp : Sp} {ds : List Value} {dvs : List V} {E : XK} {e : Expr} {es : List Expr} {t : TA} {p pos : Pos}
theorem pe_makeL (M : Mk X.K C f) (F : FnOk X.prog X.w X.K X.mg X.base CX k f fd ps sp) (hr : Room (k + 1) X.A) (hN : X.N[i]? = some x) (hv : Vis X.env.scope x) (hb : L2.Binds X.K fd ps ds) (hd : Vals dvs ds) (hx : Passes CX X E)
    (ha : PA X (e :: es) t) (hdb : (x == ("__debug__" : Str)) = false := by decide) (hcd : (x == ("__classdict__" : Str)) = false := by decide) (he : starEach (e :: es) X.env = (false, eval e X.env) :: starEach es X.env := by rfl) (hpl : (backTo pos (starEach es X.env)).any (·.1) = false := by rfl) :
    PE X (.Call (.Name x p) (e :: es) [] pos) (tMakeL i C sp dvs E t) := by
  refine ⟨fun pins s σ H Q I h => ?_⟩
  obtain ⟨hs, ht⟩ := h
  refine wpAny_Call_Name_kw (thn ((pe_var (pos := p) hN hv hdb hcd).run pins s σ H (fun v H1 => v = .ref C ∧ H1 = H) I ⟨.ref C, hs, rfl, rfl⟩) fun u s1 ⟨v, H1, I1, r1, q1⟩ => ?_)
  obtain ⟨rfl, rfl⟩ := q1
  cases r1
  refine PySem.W.callWith_K (h₀ := X.base) I.ok.mod.kin M.kp (thn (ha.run pos pins s1 σ _ _ I1 ht) fun us s2 ⟨vs, H2, I2, r, q⟩ => ⟨I2.kIn, ?_⟩) he hpl
  exact run_make M F hr hb hd hx I2 r q
end

/-! ### a written dict -/
/-- at d the dict of these, told by the written part -/
structure WD (K : PySem.W.Frag) (w : World) (d : Addr) (kvs : List (Str × Int)) : Prop where
  ex : ∃ es n, K.lookup d = some ⟨.type "dict", none, .dict es n, #[]⟩ ∧ PySem.W.KeysLit w.params es.toList ∧ Paired (fun (e : DictEntry) (kv : Str × Int) => ∃ t u, e.key = .str kv.1 t ∧ e.val = .int kv.2 u) es.toList kvs ∧ (d == sysModules) = false
theorem lookup_put2 {z k : Str} {v : Int} {l : List (Str × Int)} (h : z ≠ k) : ((k, v) :: l).lookup z = l.lookup z := by
  have e : (z == k) = false := by simpa using h
  simp [List.lookup, e]
theorem wd_ns {K : PySem.W.Frag} {d : Addr} {es : Array DictEntry} {n : Nat} {kvs : List (Str × Int)} (h : K.lookup d = some ⟨.type "dict", none, .dict es n, #[]⟩) (p : Paired (fun (e : DictEntry) (kv : Str × Int) => ∃ t u, e.key = .str kv.1 t ∧ e.val = .int kv.2 u) es.toList kvs) (z : Str) :
    (∃ i u, kvs.lookup z = some i ∧ PySem.W.nsIn K d z = some (some (.int i u))) ∨ (kvs.lookup z = none ∧ PySem.W.nsIn K d z = some none) := by
  unfold PySem.W.nsIn
  rw [h]
  show (∃ i u, _ ∧ (match es.toList.find? (·.key.isStr z) with | some e => some (some e.val) | none => if es.toList.any (·.refKey) then none else some none) = _) ∨ (_ ∧ (match es.toList.find? (·.key.isStr z) with | some e => some (some e.val) | none => if es.toList.any (·.refKey) then none else some none) = _)
  generalize es.toList = l at p
  have hr : l.any (·.refKey) = false := by
    clear h
    induction p with
    | nil => rfl
    | cons q _ ih =>
      obtain ⟨t, u, hk, hv⟩ := q
      rw [List.any_cons, ih]
      unfold DictEntry.refKey
      rw [hk]
      rfl
  rw [hr]
  clear h hr
  induction p with
  | nil => exact .inr ⟨rfl, rfl⟩
  | @cons e kv l kvs q pr ih =>
    obtain ⟨k, v⟩ := kv
    obtain ⟨t, u, hk, hv⟩ := q
    dsimp only at hk hv
    by_cases e1 : z = k
    · subst e1
      refine .inl ⟨v, u, by simp [List.lookup], ?_⟩
      rw [List.find?_cons_of_pos (by rw [hk]; simp [Value.isStr])]
      show some (some e.val) = _
      rw [hv]
    · rw [List.find?_cons_of_neg (by rw [hk]; simp [Value.isStr]; exact fun z => e1 z.symm), lookup_put2 e1]
      exact ih
section
variable {X : Cx}
theorem op_inW : OpR X (compareOp .In) (fun x y H Q => ∃ (z : Str) (d : Addr) (kvs : List (Str × Int)), x = .str z ∧ y = .ref d ∧ WD X.K X.w d kvs ∧ Q (.bl (kvs.lookup z).isSome) H) := by
  intro pins s σ H x y v u Q I rx ry h
  obtain ⟨z, d, kvs, rfl, rfl, ⟨es, n, hl, hk, hp, low⟩, q⟩ := h
  rcases wd_ns hl hp z with ⟨i, t, e1, e2⟩ | ⟨e1, e2⟩
  · rw [e1] at q
    exact op_in_kd ⟨hl, hk, low⟩ pins s σ H _ _ v u Q I rx ry ⟨z, _, rfl, rfl, e2, q⟩
  · rw [e1] at q
    exact op_in_kd ⟨hl, hk, low⟩ pins s σ H _ _ v u Q I rx ry ⟨z, _, rfl, rfl, e2, q⟩
theorem ix_W : IxR X (fun x y H Q => ∃ (z : Str) (d : Addr) (kvs : List (Str × Int)) (i : Int), x = .ref d ∧ y = .str z ∧ WD X.K X.w d kvs ∧ kvs.lookup z = some i ∧ Q (.int i) H) := by
  intro value slice pins s σ H x y v u Q I rx ry h hs
  obtain ⟨z, d, kvs, i, rfl, rfl, ⟨es, n, hl, hk, hp, low⟩, e, q⟩ := h
  rcases wd_ns hl hp z with ⟨j, t, e1, e2⟩ | ⟨e1, e2⟩
  · rw [e] at e1
    cases e1
    exact ix_kdict value slice pins s σ H _ _ v u Q I rx ry ⟨d, z, .int i, rfl, rfl, ⟨es, n, _, hl, hk, e2, ⟨_, rfl⟩⟩, q⟩ hs
  · rw [e] at e1
    cases e1
end
end UL

set_option Elab.async false
set_option linter.all false
set_option maxRecDepth 100000
/-! own: the reader of expressions as a machine over pieces, without a heap -/
namespace UL
open PySem PySem.Spec PyProof.Rows L2 Evl TL

/-- the string of these signs -/
def ofL (l : List Nat) : Str := ⟨l.toArray⟩
theorem tl_ofL (l : List Nat) : tl (ofL l) = l := by simp [tl, ofL]
theorem ofL_tl (z : Str) : ofL (tl z) = z := by
  cases z
  simp [tl, ofL]
theorem ofL_inj {a b : List Nat} (h : ofL a = ofL b) : a = b := by rw [← tl_ofL a, h, tl_ofL]
/-- a node -/
inductive Nd where
  | name (w : Str)
  | call (w : Str) (os : List Nat)
  | op (w : Str) (os : List Nat)
  deriving DecidableEq
/-! ### cutting -/
def cutGo : List Nat → List Nat → List (List Nat)
  | p, [] => if p = [] then [] else [p]
  | p, c :: r => if c = 40 then (p ++ [c]) :: cutGo [] r else if c = 44 ∨ c = 41 then (if p = [] then [] else [p]) ++ [c] :: cutGo [] r else cutGo (p ++ [c]) r
theorem cutGo_nil (p : List Nat) : cutGo p [] = if p = [] then [] else [p] := by rw [cutGo]
theorem cutGo_cons (p : List Nat) (c : Nat) (r : List Nat) : cutGo p (c :: r) = if c = 40 then (p ++ [c]) :: cutGo [] r else if c = 44 ∨ c = 41 then (if p = [] then [] else [p]) ++ [c] :: cutGo [] r else cutGo (p ++ [c]) r := by rw [cutGo]
/-- no sign of these three -/
def plainL (w : List Nat) : Prop := ∀ c ∈ w, c ≠ 40 ∧ c ≠ 41 ∧ c ≠ 44
theorem cut_plain : ∀ (w p r : List Nat), plainL w → cutGo p (w ++ r) = cutGo (p ++ w) r
  | [], p, r, _ => by rw [List.nil_append, List.append_nil]
  | c :: w, p, r, h => by
    have hc := h c List.mem_cons_self
    rw [List.cons_append, cutGo_cons, if_neg hc.1, if_neg (by omega), cut_plain w _ r fun d hd => h d (List.mem_cons_of_mem _ hd), List.append_assoc]
    rfl
theorem cut_word {w : List Nat} (h : plainL w) (h0 : w ≠ []) : cutGo [] w = [w] := by
  have e := cut_plain w [] [] h
  rw [List.append_nil, List.nil_append] at e
  rw [e, cutGo_nil, if_neg h0]
theorem cut_open {w : List Nat} (h : plainL w) (r : List Nat) : cutGo [] (w ++ 40 :: r) = (w ++ [40]) :: cutGo [] r := by
  rw [cut_plain w [] _ h, List.nil_append, cutGo_cons, if_pos rfl]
theorem cut_at {c : Nat} (hc : c = 44 ∨ c = 41) : ∀ (t p r : List Nat), cutGo p (t ++ c :: r) = cutGo p t ++ [c] :: cutGo [] r
  | [], p, r => by
    rw [List.nil_append, cutGo_cons, if_neg (by omega), if_pos hc, cutGo_nil]
  | d :: t, p, r => by
    rw [List.cons_append, cutGo_cons, cutGo_cons]
    by_cases h1 : d = 40
    · rw [if_pos h1, if_pos h1, cut_at hc t [] r, List.cons_append]
    · rw [if_neg h1, if_neg h1]
      by_cases h2 : d = 44 ∨ d = 41
      · rw [if_pos h2, if_pos h2, cut_at hc t [] r, List.append_assoc]
        rfl
      · rw [if_neg h2, if_neg h2, cut_at hc t _ r]
/-! ### the machine -/
def opsT : List (Str × Int) := [("part", 1), ("pick", 2), ("then", 2)]
def oper (okw : Str → Bool) (w : Str) (os : List Nat) : Option Nd :=
  match opsT.lookup w with
  | some n => if (os.length : Int) = n then some (.op w os) else none
  | none => if okw w = true ∧ os.length ≤ 4 then some (.call w os) else none
theorem oper_at {okw : Str → Bool} {w : Str} {os : List Nat} {n : Int} (h : opsT.lookup w = some n) : oper okw w os = if (os.length : Int) = n then some (.op w os) else none := by
  unfold oper
  rw [h]
theorem oper_no {okw : Str → Bool} {w : Str} {os : List Nat} (h : opsT.lookup w = none) : oper okw w os = if okw w = true ∧ os.length ≤ 4 then some (.call w os) else none := by
  unfold oper
  rw [h]
theorem some_if {α : Type} {p : Prop} [Decidable p] {a b : α} (h : (if p then some a else none) = some b) : p ∧ a = b := by
  by_cases e : p
  · rw [if_pos e] at h
    exact ⟨e, Option.some.inj h⟩
  · rw [if_neg e] at h
    cases h
/-- the operations that wait, the innermost last -/
abbrev Wt := List (Str × List Nat)
def addTop (W : Wt) (n : Nat) : Wt := match W.getLast? with
  | none => W
  | some (w, os) => W.dropLast ++ [(w, os ++ [n])]
theorem addTop_snoc (W : Wt) (w : Str) (os : List Nat) (n : Nat) : addTop (W ++ [(w, os)]) n = W ++ [(w, os ++ [n])] := by
  unfold addTop
  rw [List.getLast?_concat, List.dropLast_concat]
theorem addTop_nil (n : Nat) : addTop [] n = [] := rfl
structure Rd where
  N : List Nd
  W : Wt
  b : Bool
def rstep (okw : Str → Bool) (s : Rd) (p : List Nat) : Option Rd :=
  if p = [44] then (if s.W = [] ∨ s.b = false then none else some ⟨s.N, s.W, false⟩)
  else if p = [41] then
    (match s.W.getLast? with
    | none => none
    | some (w, os) => if os ≠ [] ∧ s.b = false then none else
      match oper okw w os with
      | none => none
      | some nd => some ⟨s.N ++ [nd], addTop s.W.dropLast s.N.length, true⟩)
  else if s.b = true then none
  else if p.getLast? = some 40 then some ⟨s.N, s.W ++ [(ofL p.dropLast, [])], s.b⟩
  else if okw (ofL p) = true then some ⟨s.N ++ [.name (ofL p)], addTop s.W s.N.length, true⟩
  else none
def rrun (okw : Str → Bool) : Rd → List (List Nat) → Option Rd
  | s, [] => some s
  | s, p :: ps => (rstep okw s p).bind fun s' => rrun okw s' ps
theorem rrun_append (okw : Str → Bool) : ∀ (ps qs : List (List Nat)) (s : Rd), rrun okw s (ps ++ qs) = (rrun okw s ps).bind fun s' => rrun okw s' qs
  | [], qs, s => rfl
  | p :: ps, qs, s => by
    rw [List.cons_append, rrun, rrun]
    cases rstep okw s p with
    | none => rfl
    | some s' => exact rrun_append okw ps qs s'
/-- the text is that of an expression whose nodes, from the lo-th on, are ns -/
def GoodE (okw : Str → Bool) (t : List Nat) (lo : Nat) (ns : List Nd) : Prop :=
  ns ≠ [] ∧ ∀ N W, N.length = lo → rrun okw ⟨N, W, false⟩ (cutGo [] t) = some ⟨N ++ ns, addTop W (lo + ns.length - 1), true⟩
/-- texts behind one another -/
abbrev It1 := List Nat × List Nd
def Stk (okw : Str → Bool) : Nat → List It1 → Prop
  | _, [] => True
  | lo, (t, ns) :: r => GoodE okw t lo ns ∧ Stk okw (lo + ns.length) r
def flat (l : List It1) : List Nd := l.flatMap (·.2)
def rootsL : Nat → List It1 → List Nat
  | _, [] => []
  | lo, (_, ns) :: r => (lo + ns.length - 1) :: rootsL (lo + ns.length) r
theorem stk_append (okw : Str → Bool) : ∀ (a b : List It1) (lo : Nat), Stk okw lo (a ++ b) ↔ Stk okw lo a ∧ Stk okw (lo + (flat a).length) b
  | [], b, lo => by simp [Stk, flat]
  | (t, ns) :: a, b, lo => by
    show GoodE okw t lo ns ∧ Stk okw (lo + ns.length) (a ++ b) ↔ (GoodE okw t lo ns ∧ Stk okw (lo + ns.length) a) ∧ _
    rw [stk_append okw a b, show (flat ((t, ns) :: a)).length = ns.length + (flat a).length by simp [flat], ← Nat.add_assoc, and_assoc]
theorem roots_append : ∀ (a b : List It1) (lo : Nat), rootsL lo (a ++ b) = rootsL lo a ++ rootsL (lo + (flat a).length) b
  | [], b, lo => by simp [rootsL, flat]
  | (t, ns) :: a, b, lo => by
    show (lo + ns.length - 1) :: rootsL (lo + ns.length) (a ++ b) = (lo + ns.length - 1) :: rootsL (lo + ns.length) a ++ _
    rw [roots_append a b, show (flat ((t, ns) :: a)).length = ns.length + (flat a).length by simp [flat], ← Nat.add_assoc]
    rfl
theorem roots_len : ∀ (a : List It1) (lo : Nat), (rootsL lo a).length = a.length
  | [], _ => rfl
  | (t, ns) :: a, lo => by simp [rootsL, roots_len a]
def joinC : List (List Nat) → List Nat
  | [] => []
  | [t] => t
  | t :: u :: r => t ++ 44 :: joinC (u :: r)
theorem args_run (okw : Str → Bool) : ∀ (b : List It1) (lo : Nat) (N : List Nd) (W : Wt) (w : Str) (os : List Nat) (T : List Nat), b ≠ [] → Stk okw lo b → N.length = lo →
    rrun okw ⟨N, W ++ [(w, os)], false⟩ (cutGo [] (joinC (b.map (·.1)) ++ 41 :: T)) = rrun okw ⟨N ++ flat b, W ++ [(w, os ++ rootsL lo b)], true⟩ ([41] :: cutGo [] T)
  | [], _, _, _, _, _, _, h, _, _ => absurd rfl h
  | [(t, ns)], lo, N, W, w, os, T, _, hs, hN => by
    show rrun okw _ (cutGo [] (t ++ 41 :: T)) = _
    rw [cut_at (.inr rfl), rrun_append, hs.1.2 N _ hN, addTop_snoc]
    show rrun okw ⟨N ++ ns, _, true⟩ _ = rrun okw ⟨N ++ flat [(t, ns)], _, true⟩ _
    rw [show flat [(t, ns)] = ns by simp [flat]]
    rfl
  | (t, ns) :: (t2, ns2) :: b, lo, N, W, w, os, T, _, hs, hN => by
    show rrun okw _ (cutGo [] ((t ++ 44 :: joinC (((t2, ns2) :: b).map (·.1))) ++ 41 :: T)) = _
    rw [List.append_assoc, List.cons_append, cut_at (.inl rfl), rrun_append, hs.1.2 N _ hN, addTop_snoc]
    show rrun okw ⟨N ++ ns, W ++ [(w, os ++ [lo + ns.length - 1])], true⟩ ([44] :: cutGo [] _) = _
    rw [rrun]
    have e : rstep okw ⟨N ++ ns, W ++ [(w, os ++ [lo + ns.length - 1])], true⟩ [44] = some ⟨N ++ ns, W ++ [(w, os ++ [lo + ns.length - 1])], false⟩ := by
      unfold rstep
      rw [if_pos rfl, if_neg (by simp)]
    rw [e]
    show rrun okw ⟨N ++ ns, W ++ [(w, os ++ [lo + ns.length - 1])], false⟩ _ = _
    rw [args_run okw ((t2, ns2) :: b) (lo + ns.length) (N ++ ns) W w _ T (by simp) hs.2 (by rw [List.length_append, hN])]
    rw [List.append_assoc, List.append_assoc, show flat ((t, ns) :: (t2, ns2) :: b) = ns ++ flat ((t2, ns2) :: b) by simp [flat]]
    rfl
theorem open_step (okw : Str → Bool) (N : List Nd) (W : Wt) (w : List Nat) (hw : plainL w) : rstep okw ⟨N, W, false⟩ (w ++ [40]) = some ⟨N, W ++ [(ofL w, [])], false⟩ := by
  unfold rstep
  rw [if_neg (fun h => by have := congrArg List.getLast? h; simp at this), if_neg (fun h => by have := congrArg List.getLast? h; simp at this), if_neg (by simp), if_pos (by simp), List.dropLast_concat]
theorem close_step (okw : Str → Bool) (N : List Nd) (W : Wt) (w : Str) (os : List Nat) (b : Bool) (nd : Nd) (hb : os = [] ∨ b = true) (ho : oper okw w os = some nd) : rstep okw ⟨N, W ++ [(w, os)], b⟩ [41] = some ⟨N ++ [nd], addTop W N.length, true⟩ := by
  unfold rstep
  rw [if_neg (by simp), if_pos rfl]
  show (match (W ++ [(w, os)]).getLast? with | none => none | some (w, os) => _) = _
  rw [List.getLast?_concat]
  show (if os ≠ [] ∧ b = false then none else _) = _
  rw [if_neg (by rcases hb with h | h <;> simp [h]), ho, List.dropLast_concat]
/-- an operation with its operands -/
theorem good_op {okw : Str → Bool} {lo : Nat} {b : List It1} {w : List Nat} {nd : Nd} (hs : Stk okw lo b) (hw : plainL w) (ho : oper okw (ofL w) (rootsL lo b) = some nd) :
    GoodE okw (w ++ 40 :: joinC (b.map (·.1)) ++ [41]) lo (flat b ++ [nd]) := by
  refine ⟨by simp, fun N W hN => ?_⟩
  rw [List.append_assoc, List.cons_append, cut_open hw, rrun, open_step okw N W w hw]
  show rrun okw ⟨N, W ++ [(ofL w, [])], false⟩ _ = _
  cases b with
  | nil =>
    show rrun okw _ (cutGo [] [41]) = _
    rw [show cutGo [] [41] = [[41]] by rfl, rrun, close_step okw N W (ofL w) [] false nd (.inl rfl) ho]
    show some (Rd.mk (N ++ [nd]) (addTop W N.length) true) = some (Rd.mk (N ++ ([] ++ [nd])) (addTop W (lo + ([] ++ [nd]).length - 1)) true)
    rw [hN]
    rfl
  | cons i r =>
    rw [args_run okw (i :: r) lo N W (ofL w) [] [] (by simp) hs hN, rrun, List.nil_append, close_step okw _ W (ofL w) _ true nd (.inr rfl) ho]
    show some (Rd.mk (N ++ flat (i :: r) ++ [nd]) (addTop W (N ++ flat (i :: r)).length) true) = _
    rw [List.append_assoc, List.length_append, hN, List.length_append]
    rfl
theorem good_name {okw : Str → Bool} {lo : Nat} {w : List Nat} (hw : plainL w) (h0 : w ≠ []) (hk : okw (ofL w) = true) : GoodE okw w lo [.name (ofL w)] := by
  refine ⟨by simp, fun N W hN => ?_⟩
  rw [cut_word hw h0, rrun]
  have hl : w.getLast? ≠ some 40 := fun e => (hw 40 (List.mem_of_getLast? e)).1 rfl
  have e : rstep okw ⟨N, W, false⟩ w = some ⟨N ++ [.name (ofL w)], addTop W N.length, true⟩ := by
    unfold rstep
    rw [if_neg (fun h => (hw 44 (by rw [h]; simp)).2.2 rfl), if_neg (fun h => (hw 41 (by rw [h]; simp)).2.1 rfl), if_neg (by simp), if_neg hl, if_pos hk]
  rw [e]
  show some (Rd.mk _ (addTop W N.length) true) = _
  rw [hN]
  rfl
theorem cut_count : ∀ (t p : List Nat), (cutGo p t).length ≤ 2 * t.length + 1
  | [], p => by
    rw [cutGo_nil]
    split <;> simp
  | c :: t, p => by
    rw [cutGo_cons]
    have h1 := cut_count t []
    have h2 := cut_count t (p ++ [c])
    rw [List.length_cons]
    split
    · rw [List.length_cons]
      omega
    · split
      · rw [List.length_append, List.length_cons]
        split
        · rw [List.length_nil]
          omega
        · rw [List.length_singleton]
          omega
      · omega
theorem cut_mem : ∀ (t p : List Nat), ∀ x ∈ cutGo p t, x ≠ [] ∧ x.length ≤ p.length + t.length
  | [], p, x, hx => by
    rw [cutGo_nil] at hx
    split at hx
    · cases hx
    · rename_i h
      rw [List.mem_singleton.mp hx]
      exact ⟨h, by omega⟩
  | c :: t, p, x, hx => by
    rw [cutGo_cons] at hx
    rw [List.length_cons]
    have i1 := cut_mem t []
    have i2 := cut_mem t (p ++ [c])
    split at hx
    · rcases List.mem_cons.mp hx with h | h
      · rw [h]
        exact ⟨by simp, by rw [List.length_append, List.length_singleton]; omega⟩
      · have := i1 x h
        exact ⟨this.1, by have := this.2; simp at this; omega⟩
    · split at hx
      · rcases List.mem_append.mp hx with h | h
        · split at h
          · cases h
          · rename_i h0
            rw [List.mem_singleton.mp h]
            exact ⟨h0, by omega⟩
        · rcases List.mem_cons.mp h with h | h
          · rw [h]
            exact ⟨by simp, by rw [List.length_singleton]; omega⟩
          · have := i1 x h
            exact ⟨this.1, by have := this.2; simp at this; omega⟩
      · have := i2 x hx
        exact ⟨this.1, by have := this.2; rw [List.length_append, List.length_singleton] at this; omega⟩
theorem last_at {α : Type} {l : List α} {c : α} (h : l.getLast? = some c) : atI l (-1) = some c := by
  have h0 : l ≠ [] := fun e => by rw [e] at h; cases h
  have hp : 0 < l.length := List.length_pos_iff.mpr h0
  unfold atI
  have e : ixN l.length (-1) = some (l.length - 1) := by
    unfold ixN
    rw [if_neg (by decide), if_pos (by omega)]
    congr 1
    omega
  rw [e]
  show l[l.length - 1]? = some c
  rw [← List.getLast?_eq_getElem?]
  exact h
theorem cut_last (l : List Nat) : cutS (ofL l) none (some (-1)) = ofL l.dropLast := by
  have hl : (ofL l).length = l.length := by rw [len_tl, tl_ofL]
  unfold cutS
  rw [HT.sIx_none, hl, show HT.sIx l.length l.length (some (-1)) = l.length - 1 by show (if (-1 : Int) < 0 then (-1 + (l.length : Int)).toNat else min (-1 : Int).toNat l.length) = _; rw [if_pos (by decide)]; omega, List.drop_zero, Nat.sub_zero]
  have e : (ofL l).cps.toList = l := tl_ofL l
  rw [e, ← List.dropLast_eq_take]
  rfl
/-- two lists, part by part -/
inductive Al2 {α β : Type} (R : α → β → Prop) : List α → List β → Prop
  | nil : Al2 R [] []
  | cons {a : α} {b : β} {as : List α} {bs : List β} : R a b → Al2 R as bs → Al2 R (a :: as) (b :: bs)
theorem Al2.imp {α β : Type} {R S : α → β → Prop} {as : List α} {bs : List β} (h : Al2 R as bs) (k : ∀ a b, R a b → S a b) : Al2 S as bs := by
  induction h with
  | nil => exact .nil
  | cons h _ ih => exact .cons (k _ _ h) ih
theorem Al2.snoc {α β : Type} {R : α → β → Prop} {as : List α} {bs : List β} {a : α} {b : β} (h : Al2 R as bs) (k : R a b) : Al2 R (as ++ [a]) (bs ++ [b]) := by
  induction h with
  | nil => exact .cons k .nil
  | cons h _ ih => exact .cons h ih
theorem Al2.len {α β : Type} {R : α → β → Prop} {as : List α} {bs : List β} (h : Al2 R as bs) : as.length = bs.length := by
  induction h with
  | nil => rfl
  | cons _ _ ih => rw [List.length_cons, List.length_cons, ih]
theorem Al2.get {α β : Type} {R : α → β → Prop} {as : List α} {bs : List β} (h : Al2 R as bs) : ∀ (i : Nat) (a : α), as[i]? = some a → ∃ b, bs[i]? = some b ∧ R a b := by
  induction h with
  | nil =>
    intro i a h
    cases h
  | cons h _ ih =>
    intro i a e
    cases i with
    | zero =>
      cases e
      exact ⟨_, rfl, h⟩
    | succ i => exact ih i a e
theorem Al2.unsnoc {α β : Type} {R : α → β → Prop} {as : List α} {bs : List β} {b : β} (h : Al2 R as (bs ++ [b])) : ∃ as' a, as = as' ++ [a] ∧ Al2 R as' bs ∧ R a b := by
  induction bs generalizing as with
  | nil =>
    cases h with
    | cons h1 h2 =>
      cases h2
      exact ⟨[], _, rfl, .nil, h1⟩
  | cons c bs ih =>
    cases h with
    | cons h1 h2 =>
      obtain ⟨as', a, rfl, h3, h4⟩ := ih h2
      exact ⟨_ :: as', a, rfl, .cons h1 h3, h4⟩
theorem rstep_comma {okw : Str → Bool} {s s' : Rd} (h : rstep okw s [44] = some s') : s.W ≠ [] ∧ s.b = true ∧ s' = ⟨s.N, s.W, false⟩ := by
  unfold rstep at h
  rw [if_pos rfl] at h
  by_cases e : s.W = [] ∨ s.b = false
  · rw [if_pos e] at h
    cases h
  · rw [if_neg e] at h
    exact ⟨fun z => e (.inl z), by cases hb : s.b <;> simp_all, (Option.some.inj h).symm⟩
theorem rstep_close {okw : Str → Bool} {s s' : Rd} (h : rstep okw s [41] = some s') : ∃ W w os nd, s.W = W ++ [(w, os)] ∧ (os = [] ∨ s.b = true) ∧ oper okw w os = some nd ∧ s' = ⟨s.N ++ [nd], addTop W s.N.length, true⟩ := by
  unfold rstep at h
  rw [if_neg (by simp), if_pos rfl] at h
  rcases List.eq_nil_or_concat s.W with e | ⟨W, ⟨w, os⟩, e⟩
  · rw [e] at h
    cases h
  · rw [List.concat_eq_append] at e
    rw [e, List.getLast?_concat, List.dropLast_concat] at h
    have h : (if os ≠ [] ∧ s.b = false then none else match oper okw w os with | none => none | some nd => some (Rd.mk (s.N ++ [nd]) (addTop W s.N.length) true)) = some s' := h
    by_cases e2 : os ≠ [] ∧ s.b = false
    · rw [if_pos e2] at h
      cases h
    · rw [if_neg e2] at h
      cases ho : oper okw w os with
      | none =>
        rw [ho] at h
        cases h
      | some nd =>
        rw [ho] at h
        refine ⟨W, w, os, nd, e, ?_, ho, (Option.some.inj h).symm⟩
        cases os with
        | nil => exact .inl rfl
        | cons a r =>
          refine .inr ?_
          cases hb : s.b with
          | true => rfl
          | false => exact absurd ⟨by simp, hb⟩ e2
theorem rstep_else {okw : Str → Bool} {s s' : Rd} {p : List Nat} (h1 : p ≠ [44]) (h2 : p ≠ [41]) (h : rstep okw s p = some s') : s.b = false ∧
    ((p.getLast? = some 40 ∧ s' = ⟨s.N, s.W ++ [(ofL p.dropLast, [])], false⟩) ∨ (p.getLast? ≠ some 40 ∧ okw (ofL p) = true ∧ s' = ⟨s.N ++ [.name (ofL p)], addTop s.W s.N.length, true⟩)) := by
  unfold rstep at h
  rw [if_neg h1, if_neg h2] at h
  cases hb : s.b with
  | true =>
    rw [hb, if_pos rfl] at h
    cases h
  | false =>
    rw [hb, if_neg (by simp)] at h
    refine ⟨rfl, ?_⟩
    by_cases e : p.getLast? = some 40
    · rw [if_pos e] at h
      exact .inl ⟨e, (Option.some.inj h).symm⟩
    · rw [if_neg e] at h
      by_cases e2 : okw (ofL p) = true
      · rw [if_pos e2] at h
        exact .inr ⟨e, e2, (Option.some.inj h).symm⟩
      · rw [if_neg e2] at h
        cases h
/-! ### what the machine's nodes are -/
def opsOf : Nd → List Nat
  | .name _ => []
  | .call _ os => os
  | .op _ os => os
def WfNd : Nd → Prop
  | .name _ => True
  | .call _ os => os.length ≤ 4
  | .op w os => opsT.lookup w = some (os.length : Int)
def WfN (N : List Nd) : Prop := ∀ j nd, N[j]? = some nd → WfNd nd ∧ ∀ n ∈ opsOf nd, n < j
structure WfR (s : Rd) : Prop where
  wn : WfN s.N
  ww : ∀ y ∈ s.W, ∀ n ∈ y.2, n < s.N.length
theorem wfN_snoc {N : List Nd} {nd : Nd} (h : WfN N) (h1 : WfNd nd) (h2 : ∀ n ∈ opsOf nd, n < N.length) : WfN (N ++ [nd]) := by
  intro j d hj
  by_cases e : j < N.length
  · rw [List.getElem?_append_left e] at hj
    exact h j d hj
  · rw [List.getElem?_append_right (by omega)] at hj
    obtain ⟨h3, h4⟩ := List.getElem?_eq_some_iff.mp hj
    rw [List.length_singleton] at h3
    have e2 : j = N.length := by omega
    subst e2
    simp at h4
    subst h4
    exact ⟨h1, h2⟩
theorem oper_wf {okw : Str → Bool} {w : Str} {os : List Nat} {nd : Nd} (h : oper okw w os = some nd) : WfNd nd ∧ opsOf nd = os := by
  cases hl : opsT.lookup w with
  | some n =>
    rw [oper_at hl] at h
    obtain ⟨e, rfl⟩ := some_if h
    exact ⟨by show opsT.lookup w = some _; rw [hl, e], rfl⟩
  | none =>
    rw [oper_no hl] at h
    obtain ⟨e, rfl⟩ := some_if h
    exact ⟨e.2, rfl⟩
theorem addTop_wf {W : Wt} {n m : Nat} (h : ∀ y ∈ W, ∀ k ∈ y.2, k < n) (hn : n < m) : ∀ y ∈ addTop W n, ∀ k ∈ y.2, k < m := by
  rcases List.eq_nil_or_concat W with e | ⟨V, ⟨w, os⟩, e⟩
  · rw [e]
    intro y hy
    cases hy
  · rw [List.concat_eq_append] at e
    subst e
    rw [addTop_snoc]
    intro y hy k hk
    rcases List.mem_append.mp hy with h1 | h1
    · have := h y (List.mem_append_left _ h1) k hk
      omega
    · rw [List.mem_singleton.mp h1] at hk
      rcases List.mem_append.mp hk with h2 | h2
      · have := h (w, os) (by simp) k h2
        omega
      · rw [List.mem_singleton.mp h2]
        exact hn
theorem rstep_wf {okw : Str → Bool} {s s' : Rd} {p : List Nat} (R : WfR s) (h : rstep okw s p = some s') : WfR s' := by
  by_cases e1 : p = [44]
  · subst e1
    obtain ⟨_, _, rfl⟩ := rstep_comma h
    exact ⟨R.wn, R.ww⟩
  · by_cases e2 : p = [41]
    · subst e2
      obtain ⟨W, w, os, nd, hW, _, hop, rfl⟩ := rstep_close h
      obtain ⟨h1, h2⟩ := oper_wf hop
      refine ⟨wfN_snoc R.wn h1 (by rw [h2]; exact R.ww (w, os) (by rw [hW]; simp)), ?_⟩
      exact addTop_wf (fun y hy => R.ww y (by rw [hW]; exact List.mem_append_left _ hy)) (by rw [List.length_append, List.length_singleton]; omega)
    · obtain ⟨_, ⟨_, rfl⟩ | ⟨_, _, rfl⟩⟩ := rstep_else e1 e2 h
      · refine ⟨R.wn, fun y hy => ?_⟩
        rcases List.mem_append.mp hy with h1 | h1
        · exact R.ww y h1
        · rw [List.mem_singleton.mp h1]
          intro n hn
          cases hn
      · exact ⟨wfN_snoc R.wn trivial (fun n hn => by cases hn), addTop_wf R.ww (by rw [List.length_append, List.length_singleton]; omega)⟩
theorem rrun_wf {okw : Str → Bool} : ∀ {ps : List (List Nat)} {s s' : Rd}, WfR s → rrun okw s ps = some s' → WfR s'
  | [], s, s', R, h => by
    obtain rfl := Option.some.inj h
    exact R
  | p :: ps, s, s', R, h => by
    rw [rrun] at h
    obtain ⟨t, h1, h2⟩ := Option.bind_eq_some_iff.mp h
    exact rrun_wf (rstep_wf R h1) h2
/-- the lowest nodes of the ranges -/
def fstOf (fs : List Nat) (nd : Nd) : Nat := match opsOf nd with
  | [] => fs.length
  | n :: _ => fs.getD n 0
def firstsL (ns : List Nd) : List Nat := ns.foldl (fun fs nd => fs ++ [fstOf fs nd]) []
theorem firstsL_snoc (ns : List Nd) (nd : Nd) : firstsL (ns ++ [nd]) = firstsL ns ++ [fstOf (firstsL ns) nd] := by
  unfold firstsL
  rw [List.foldl_append]
  rfl
theorem firstsL_len (ns : List Nd) : (firstsL ns).length = ns.length := by
  rcases List.eq_nil_or_concat ns with e | ⟨r, d, e⟩
  · rw [e]; rfl
  · rw [List.concat_eq_append] at e
    subst e
    rw [firstsL_snoc, List.length_append, List.length_append, firstsL_len r]
    rfl
termination_by ns.length
decreasing_by simp_all
/-- their words -/
def WkNd (okw : Str → Bool) : Nd → Prop
  | .name w => okw w = true
  | .call w _ => okw w = true
  | .op _ _ => True
theorem oper_wk {okw : Str → Bool} {w : Str} {os : List Nat} {nd : Nd} (h : oper okw w os = some nd) : WkNd okw nd := by
  cases hl : opsT.lookup w with
  | some n =>
    rw [oper_at hl] at h
    obtain ⟨e, rfl⟩ := some_if h
    trivial
  | none =>
    rw [oper_no hl] at h
    obtain ⟨e, rfl⟩ := some_if h
    exact e.1
theorem rstep_wk {okw : Str → Bool} {s s' : Rd} {p : List Nat} (R : ∀ nd ∈ s.N, WkNd okw nd) (h : rstep okw s p = some s') : ∀ nd ∈ s'.N, WkNd okw nd := by
  have snoc : ∀ {nd : Nd}, WkNd okw nd → ∀ d ∈ s.N ++ [nd], WkNd okw d := fun {nd} h d hd => by
    rcases List.mem_append.mp hd with h1 | h1
    · exact R d h1
    · rw [List.mem_singleton.mp h1]
      exact h
  by_cases e1 : p = [44]
  · subst e1
    obtain ⟨_, _, rfl⟩ := rstep_comma h
    exact R
  · by_cases e2 : p = [41]
    · subst e2
      obtain ⟨W, w, os, nd, hW, _, hop, rfl⟩ := rstep_close h
      exact snoc (oper_wk hop)
    · obtain ⟨_, ⟨_, rfl⟩ | ⟨_, hk, rfl⟩⟩ := rstep_else e1 e2 h
      · exact R
      · exact snoc hk
theorem rrun_wk {okw : Str → Bool} : ∀ {ps : List (List Nat)} {s s' : Rd}, (∀ nd ∈ s.N, WkNd okw nd) → rrun okw s ps = some s' → ∀ nd ∈ s'.N, WkNd okw nd
  | [], s, s', R, h => by
    obtain rfl := Option.some.inj h
    exact R
  | p :: ps, s, s', R, h => by
    rw [rrun] at h
    obtain ⟨t, h1, h2⟩ := Option.bind_eq_some_iff.mp h
    exact rrun_wk (rstep_wk R h1) h2
/-- a whole text -/
theorem good_run {okw : Str → Bool} {t : List Nat} {ns : List Nd} (g : GoodE okw t 0 ns) : rrun okw ⟨[], [], false⟩ (cutGo [] t) = some ⟨ns, [], true⟩ := by
  have h := g.2 [] [] rfl
  rw [List.nil_append] at h
  exact h
theorem good_wf {okw : Str → Bool} {t : List Nat} {ns : List Nd} (g : GoodE okw t 0 ns) : WfN ns ∧ ∀ nd ∈ ns, WkNd okw nd :=
  ⟨(rrun_wf (s := ⟨[], [], false⟩) ⟨(fun j nd h => by cases h), (fun y hy => by cases hy)⟩ (good_run g)).wn, rrun_wk (s := ⟨[], [], false⟩) (fun nd h => by cases h) (good_run g)⟩
end UL

set_option Elab.async false
set_option linter.all false
set_option maxRecDepth 100000
/-! own: the nodes of an expression as a forest: ranges, and what lies below a node -/
namespace UL
open PySem PySem.Spec PyProof.Rows L2 Evl TL

/-- the nodes so far, the roots that no node has as an operand yet -/
inductive Forest : List Nd → List Nat → Prop
  | nil : Forest [] []
  | node {N : List Nd} {r : List Nat} {nd : Nd} : Forest N (r ++ opsOf nd) → Forest (N ++ [nd]) (r ++ [N.length])
def stkOf (s : Rd) : List Nat := s.W.flatMap (·.2) ++ (if s.W = [] ∧ s.b = true then [s.N.length - 1] else [])
theorem addTop_flat {W : Wt} {n : Nat} (h : W ≠ []) : (addTop W n).flatMap (·.2) = W.flatMap (·.2) ++ [n] ∧ addTop W n ≠ [] := by
  rcases List.eq_nil_or_concat W with e | ⟨V, ⟨w, os⟩, e⟩
  · exact absurd e h
  · rw [List.concat_eq_append] at e
    subst e
    rw [addTop_snoc]
    simp
theorem stk_add {N : List Nd} {W : Wt} {nd : Nd} : stkOf ⟨N ++ [nd], addTop W N.length, true⟩ = W.flatMap (·.2) ++ [N.length] := by
  unfold stkOf
  by_cases h : W = []
  · subst h
    simp [addTop_nil]
  · obtain ⟨h1, h2⟩ := addTop_flat (n := N.length) h
    show (addTop W N.length).flatMap (·.2) ++ (if addTop W N.length = [] ∧ true = true then _ else _) = _
    rw [h1, if_neg (fun z => h2 z.1), List.append_nil]
theorem rstep_forest {okw : Str → Bool} {s s' : Rd} {p : List Nat} (F : Forest s.N (stkOf s)) (h : rstep okw s p = some s') : Forest s'.N (stkOf s') := by
  by_cases e1 : p = [44]
  · subst e1
    obtain ⟨h1, _, rfl⟩ := rstep_comma h
    have : stkOf ⟨s.N, s.W, false⟩ = stkOf s := by
      unfold stkOf
      rw [if_neg (fun z => h1 z.1), if_neg (fun z => h1 z.1)]
    rw [this]
    exact F
  · by_cases e2 : p = [41]
    · subst e2
      obtain ⟨W, w, os, nd, hW, _, hop, rfl⟩ := rstep_close h
      rw [stk_add]
      refine Forest.node ?_
      rw [(oper_wf hop).2]
      have e : stkOf s = W.flatMap (·.2) ++ os := by
        unfold stkOf
        rw [hW, if_neg (fun z => by simp at z)]
        simp
      rw [← e]
      exact F
    · obtain ⟨hb, ⟨_, rfl⟩ | ⟨_, _, rfl⟩⟩ := rstep_else e1 e2 h
      · have e : stkOf ⟨s.N, s.W ++ [(ofL p.dropLast, [])], false⟩ = stkOf s := by
          unfold stkOf
          rw [if_neg (fun z => by simp at z), if_neg (fun z => by rw [hb] at z; simp at z)]
          simp
        rw [e]
        exact F
      · rw [stk_add]
        refine Forest.node ?_
        have e : stkOf s = s.W.flatMap (·.2) ++ opsOf (.name (ofL p)) := by
          unfold stkOf
          rw [if_neg (fun z => by rw [hb] at z; simp at z)]
          rfl
        rw [← e]
        exact F
theorem rrun_forest {okw : Str → Bool} : ∀ {ps : List (List Nat)} {s s' : Rd}, Forest s.N (stkOf s) → rrun okw s ps = some s' → Forest s'.N (stkOf s')
  | [], s, s', R, h => by
    obtain rfl := Option.some.inj h
    exact R
  | p :: ps, s, s', R, h => by
    rw [rrun] at h
    obtain ⟨t, h1, h2⟩ := Option.bind_eq_some_iff.mp h
    exact rrun_forest (rstep_forest R h1) h2
theorem good_forest {okw : Str → Bool} {t : List Nat} {ns : List Nd} (g : GoodE okw t 0 ns) : Forest ns [ns.length - 1] :=
  rrun_forest (s := ⟨[], [], false⟩) (by unfold stkOf; simp; exact .nil) (good_run g)

/-! ### ranges -/
def fst (N : List Nd) (i : Nat) : Nat := (firstsL N).getD i 0
theorem fst_old {N : List Nd} {nd : Nd} {i : Nat} (h : i < N.length) : fst (N ++ [nd]) i = fst N i := by
  unfold fst
  rw [firstsL_snoc, List.getD_eq_getElem?_getD, List.getD_eq_getElem?_getD, List.getElem?_append_left (by rw [firstsL_len]; exact h)]
theorem fst_new {N : List Nd} {nd : Nd} : fst (N ++ [nd]) N.length = match opsOf nd with | [] => N.length | n :: _ => fst N n := by
  unfold fst
  rw [firstsL_snoc, List.getD_eq_getElem?_getD, List.getElem?_append_right (by rw [firstsL_len]; exact Nat.le_refl _), firstsL_len, Nat.sub_self]
  show fstOf (firstsL N) nd = _
  unfold fstOf
  cases opsOf nd with
  | nil => exact firstsL_len N
  | cons n r => rfl
/-- the ranges of these roots lie side by side from lo to hi -/
def Part (f : Nat → Nat) : Nat → List Nat → Nat → Prop
  | lo, [], hi => lo = hi
  | lo, r :: rs, hi => f r = lo ∧ lo ≤ r ∧ Part f (r + 1) rs hi
theorem part_append (f : Nat → Nat) : ∀ (a b : List Nat) (lo hi : Nat), Part f lo (a ++ b) hi ↔ ∃ m, Part f lo a m ∧ Part f m b hi
  | [], b, lo, hi => ⟨fun h => ⟨lo, rfl, h⟩, fun ⟨m, h1, h2⟩ => by have h1 : lo = m := h1; subst h1; exact h2⟩
  | r :: a, b, lo, hi => by
    constructor
    · rintro ⟨h1, h2, h3⟩
      obtain ⟨m, h4, h5⟩ := (part_append f a b _ hi).mp h3
      exact ⟨m, ⟨h1, h2, h4⟩, h5⟩
    · rintro ⟨m, ⟨h1, h2, h4⟩, h5⟩
      exact ⟨h1, h2, (part_append f a b _ hi).mpr ⟨m, h4, h5⟩⟩
theorem part_le {f : Nat → Nat} : ∀ {a : List Nat} {lo hi : Nat}, Part f lo a hi → lo ≤ hi
  | [], lo, hi, h => Nat.le_of_eq h
  | r :: a, lo, hi, ⟨_, h2, h3⟩ => by have := part_le h3; omega
theorem part_mem {f : Nat → Nat} : ∀ {a : List Nat} {lo hi : Nat}, Part f lo a hi → ∀ r ∈ a, lo ≤ f r ∧ f r ≤ r ∧ r < hi
  | [], _, _, _, r, hr => by cases hr
  | q :: a, lo, hi, ⟨h1, h2, h3⟩, r, hr => by
    rcases List.mem_cons.mp hr with e | hr
    · subst e
      have := part_le h3
      omega
    · have := part_mem h3 r hr
      omega
theorem part_cover {f : Nat → Nat} : ∀ {a : List Nat} {lo hi : Nat}, Part f lo a hi → ∀ i, lo ≤ i → i < hi → ∃ r ∈ a, f r ≤ i ∧ i ≤ r
  | [], lo, hi, h, i, h1, h2 => by have h : lo = hi := h; omega
  | q :: a, lo, hi, ⟨h1, h2, h3⟩, i, h4, h5 => by
    by_cases e : i ≤ q
    · exact ⟨q, List.mem_cons_self, by omega, e⟩
    · obtain ⟨r, hr, h6⟩ := part_cover h3 i (by omega) h5
      exact ⟨r, List.mem_cons_of_mem _ hr, h6⟩
theorem part_congr {f g : Nat → Nat} : ∀ {a : List Nat} {lo hi : Nat}, (∀ r ∈ a, f r = g r) → Part f lo a hi → Part g lo a hi
  | [], _, _, _, h => h
  | r :: a, _, _, e, ⟨h1, h2, h3⟩ => ⟨(e r List.mem_cons_self).symm.trans h1, h2, part_congr (fun q hq => e q (List.mem_cons_of_mem _ hq)) h3⟩
/-! ### going up -/
def parF (N : List Nd) (i : Nat) : Option Nat := (List.range N.length).foldl (fun o j => match N[j]? with | some nd => if i ∈ opsOf nd then some j else o | none => o) none
theorem parF_snoc (N : List Nd) (nd : Nd) (i : Nat) : parF (N ++ [nd]) i = if i ∈ opsOf nd then some N.length else parF N i := by
  unfold parF
  rw [List.length_append, List.length_singleton, List.range_succ, List.foldl_append]
  have e : ∀ (l : List Nat) (o : Option Nat), (∀ j ∈ l, j < N.length) → l.foldl (fun o j => match (N ++ [nd])[j]? with | some nd => if i ∈ opsOf nd then some j else o | none => o) o = l.foldl (fun o j => match N[j]? with | some nd => if i ∈ opsOf nd then some j else o | none => o) o := by
    intro l
    induction l with
    | nil => intro o _; rfl
    | cons j l ih =>
      intro o hj
      rw [List.foldl_cons, List.foldl_cons, List.getElem?_append_left (hj j List.mem_cons_self)]
      exact ih _ fun q hq => hj q (List.mem_cons_of_mem _ hq)
  rw [e _ _ fun j hj => List.mem_range.mp hj, List.foldl_cons, List.foldl_nil, List.getElem?_append_right (Nat.le_refl _), Nat.sub_self]
  rfl
inductive Anc (p : Nat → Option Nat) : Nat → Nat → Prop
  | refl (i : Nat) : Anc p i i
  | step {i j k : Nat} : p i = some j → Anc p j k → Anc p i k
structure ForOk (N : List Nd) (st : List Nat) : Prop where
  part : Part (fst N) 0 st N.length
  root : ∀ r ∈ st, parF N r = none
  up : ∀ i j, parF N i = some j → i < j ∧ j < N.length
  anc : ∀ i at_, i < N.length → at_ < N.length → (Anc (parF N) i at_ ↔ fst N at_ ≤ i ∧ i ≤ at_)
  le : ∀ at_, at_ < N.length → fst N at_ ≤ at_
theorem forest_ok {N : List Nd} {st : List Nat} (F : Forest N st) : ForOk N st := by
  induction F with
  | nil => exact ⟨rfl, (fun r h => by cases h), (fun i j h => by cases h), (fun i a h => by cases h), (fun a h => by cases h)⟩
  | @node N r nd F ih =>
    obtain ⟨part, root, up, anc, le⟩ := ih
    obtain ⟨m, pr, po⟩ := (part_append _ _ _ _ _).mp part
    have hps : ∀ i, parF (N ++ [nd]) i = if i ∈ opsOf nd then some N.length else parF N i := parF_snoc N nd
    have hlen : (N ++ [nd]).length = N.length + 1 := by rw [List.length_append, List.length_singleton]
    have hos : ∀ o ∈ opsOf nd, m ≤ fst N o ∧ fst N o ≤ o ∧ o < N.length := part_mem po
    have hrs : ∀ q ∈ r, q < m := fun q hq => (part_mem pr q hq).2.2
    have hm : m ≤ N.length := part_le po
    have fnew : fst (N ++ [nd]) N.length = m ∧ m ≤ N.length := by
      refine ⟨?_, hm⟩
      rw [fst_new]
      cases ho : opsOf nd with
      | nil =>
        rw [ho] at po
        exact (show m = N.length from po).symm
      | cons o os =>
        rw [ho] at po
        exact po.1
    have old1 : ∀ i at_, i < N.length → at_ < N.length → (Anc (parF (N ++ [nd])) i at_ ↔ Anc (parF N) i at_) := by
      intro i at_ hi ha
      constructor
      · intro h
        have gen : ∀ {x y : Nat}, Anc (parF (N ++ [nd])) x y → y < N.length → x < N.length → Anc (parF N) x y := by
          intro x y hxy
          induction hxy with
          | refl => exact fun _ _ => .refl _
          | @step x j y hp hr ih2 =>
            intro hy hx
            rw [hps] at hp
            by_cases e : x ∈ opsOf nd
            · rw [if_pos e] at hp
              cases hp
              cases hr with
              | refl => omega
              | step hp2 _ =>
                rw [hps, if_neg (fun z => by have := (hos _ z).2.2; omega)] at hp2
                have := up _ _ hp2
                omega
            · rw [if_neg e] at hp
              exact .step hp (ih2 hy (up _ _ hp).2)
        exact gen h ha hi
      · intro h
        induction h with
        | refl => exact .refl _
        | @step x j y hp hr ih2 =>
          refine .step ?_ (ih2 (up _ _ hp).2 ha)
          rw [hps, if_neg (fun z => by rw [root x (List.mem_append_right _ z)] at hp; cases hp)]
          exact hp
    refine ⟨?_, ?_, ?_, ?_, ?_⟩
    · rw [hlen]
      refine (part_append _ _ _ _ _).mpr ⟨m, part_congr (fun q hq => (fst_old (by have := hrs q hq; omega)).symm) pr, fnew.1, fnew.2, rfl⟩
    · intro q hq
      rw [hps]
      rcases List.mem_append.mp hq with h | h
      · rw [if_neg (fun z => by have := hos q z; have := hrs q h; omega)]
        exact root q (List.mem_append_left _ h)
      · rw [List.mem_singleton.mp h, if_neg (fun z => by have := (hos _ z).2.2; omega)]
        cases e : parF N N.length with
        | none => rfl
        | some j => have := up _ _ e; omega
    · intro i j h
      rw [hps] at h
      rw [hlen]
      by_cases e : i ∈ opsOf nd
      · rw [if_pos e] at h
        cases h
        exact ⟨(hos i e).2.2, by omega⟩
      · rw [if_neg e] at h
        have := up i j h
        omega
    · intro i at_ hi ha
      rw [hlen] at hi ha
      by_cases e : at_ = N.length
      · subst e
        rw [fnew.1]
        by_cases e2 : i = N.length
        · subst e2
          exact ⟨fun _ => ⟨fnew.2, Nat.le_refl _⟩, fun _ => .refl _⟩
        · have hi' : i < N.length := by omega
          constructor
          · intro h
            refine ⟨?_, by omega⟩
            have gen : ∀ {x y : Nat}, Anc (parF (N ++ [nd])) x y → y = N.length → x < N.length → ∃ o ∈ opsOf nd, Anc (parF N) x o := by
              intro x y hxy
              induction hxy with
              | refl => intro h1 h2; omega
              | @step x j y hp hr ih2 =>
                intro hy hx
                rw [hps] at hp
                by_cases e : x ∈ opsOf nd
                · exact ⟨x, e, .refl _⟩
                · rw [if_neg e] at hp
                  obtain ⟨o, h1, h2⟩ := ih2 hy (up _ _ hp).2
                  exact ⟨o, h1, .step hp h2⟩
            obtain ⟨o, h1, h2⟩ := gen h rfl hi'
            have h3 := hos o h1
            have := (anc i o hi' h3.2.2).mp h2
            omega
          · rintro ⟨h1, _⟩
            obtain ⟨o, ho, h2, h3⟩ := part_cover po i h1 hi'
            have h4 := (anc i o hi' (hos o ho).2.2).mpr ⟨h2, h3⟩
            have h5 := (old1 i o hi' (hos o ho).2.2).mpr h4
            have tr : ∀ {x y z : Nat}, Anc (parF (N ++ [nd])) x y → Anc (parF (N ++ [nd])) y z → Anc (parF (N ++ [nd])) x z := by
              intro x y z h1 h2
              induction h1 with
              | refl => exact h2
              | step hp _ ih => exact .step hp (ih h2)
            exact tr h5 (.step (by rw [hps, if_pos ho]) (.refl _))
      · have ha' : at_ < N.length := by omega
        rw [fst_old ha']
        by_cases e2 : i = N.length
        · subst e2
          constructor
          · intro h
            cases h with
            | refl => exact absurd rfl e
            | step hp _ =>
              rw [hps, if_neg (fun z => by have := (hos _ z).2.2; omega)] at hp
              have := up _ _ hp
              omega
          · rintro ⟨_, h⟩
            omega
        · rw [old1 i at_ (by omega) ha']
          exact anc i at_ (by omega) ha'
    · intro a ha
      rw [hlen] at ha
      by_cases e : a = N.length
      · subst e
        rw [fnew.1]
        exact fnew.2
      · rw [fst_old (by omega)]
        exact le a (by omega)
/-- so many steps up -/
def upB (p : Nat → Option Nat) : Nat → Nat → Nat → Bool
  | 0, _, _ => false
  | k + 1, i, a => decide (i = a) || (match p i with | some j => upB p k j a | none => false)
theorem upB_anc {p : Nat → Option Nat} {n : Nat} (up : ∀ i j, p i = some j → i < j ∧ j < n) : ∀ (k i a : Nat), i < n → n ≤ k + i → (upB p k i a = true ↔ Anc p i a)
  | 0, i, a, hi, hk => by omega
  | k + 1, i, a, hi, hk => by
    rw [upB, Bool.or_eq_true, decide_eq_true_iff]
    constructor
    · rintro (h | h)
      · rw [h]
        exact .refl _
      · cases e : p i with
        | none => rw [e] at h; cases h
        | some j =>
          rw [e] at h
          have := up i j e
          exact .step e ((upB_anc up k j a this.2 (by omega)).mp h)
    · intro h
      cases h with
      | refl => exact .inl rfl
      | @step _ j _ hp hr =>
        right
        rw [hp]
        have := up i j hp
        exact (upB_anc up k j a this.2 (by omega)).mpr hr
end UL

set_option Elab.async false
set_option linter.all false
set_option maxRecDepth 100000
/-! own: o.m(e, ..) in a try, where it may let an error out -/
namespace UL
open PySem PySem.Spec PyProof.Rows L2 Evl TL
def tMethT (C : Addr) (m : Str) (sp : Sp) (E : L2.St → XK) (ta : TE) (t : TA) : TE := fun σ H Q => ta σ H fun x H1 => ∃ a dx fs, x = .ref a ∧ H1 a = some (.ins C dx fs) ∧ fs.lookup m = none ∧ t σ H1 fun vs H2 => sp (.ref a :: vs) H2 Q (E σ)
section
variable {X : Cx} {CX : CXT} {k : Nat} {f C : Addr} {fd : FuncData} {ps : List Str} {sp : Sp} {E : L2.St → XK} {m : Str} {pos apos : Pos} {e o : Expr} {es : List Expr} {ta : TE} {t : TA}
theorem pe_methT {pl : Sem Bool} (he : PE X o ta) (c : Cls X.K C) (hm : Meth X.K C m f) (F : FnOk X.prog X.w X.K X.mg X.base CX k f fd ps sp) (hr : Room k X.A) (hb : L2.Binds X.K fd ps []) (hx : ∀ σ, PassesAt CX X σ (E σ)) (ha : PA X (e :: es) t)
    (hst : starEach (e :: es) X.env = (false, eval e X.env) :: starEach es X.env := by rfl) (hpl : (backTo pos (starEach es X.env)).any (·.1) = false := by rfl)
    (ht : eval (.Call (.Attribute o m apos) (e :: es) [] pos) X.env = (do
      let ov ← eval o X.env
      standAt apos.atName
      let (f, first) ← holding [ov] (getMethod ov m pl)
      callWith pos f first (backTo pos (starEach (e :: es) X.env)) (backToKw pos (keywordEach [] X.env))) := by rfl) :
    PE X (.Call (.Attribute o m apos) (e :: es) [] pos) (tMethT C m sp E ta t) := by
  refine ⟨fun pins s σ H Q I h => ?_⟩
  refine PySem.W.methodCall_KW (pl := pl) (thn (he.run pins s σ H _ I h) fun u s1 ⟨x, H1, I1, rx, a, dx, fs, ex, ea, l, q⟩ => ?_) ht
  subst ex
  obtain rfl : u = Value.ref a := rx
  refine getmeth_ok I1 ea c hm l ?_
  refine PySem.W.callWith_K (first := [.ref a]) (h₀ := X.base) I.ok.mod.kin hm.kp (thn (ha.run pos pins s1 σ H1 _ I1 q) fun us s2 ⟨vs, H2, I2, r, q2⟩ => ⟨I2.kIn, ?_⟩) hst hpl
  exact run_fnS (us := .ref a :: us) (vs := .ref a :: vs) F hr hb (hx σ) I2 (.cons rfl r) q2
end
end UL

set_option Elab.async false
set_option linter.all false
set_option maxRecDepth 100000
/-! own: the text of the nodes -/
namespace UL
open PySem PySem.Spec PyProof.Rows L2 Evl TL

def ndT (f : Nat → List Nat) : Nd → List Nat
  | .name w => tl w
  | .call w os => tl w ++ 40 :: joinC (os.map f) ++ [41]
  | .op w os => tl w ++ 40 :: joinC (os.map f) ++ [41]
def txs (N : List Nd) : List (List Nat) := N.foldl (fun T nd => T ++ [ndT (fun i => T.getD i []) nd]) []
def tx (N : List Nd) (i : Nat) : List Nat := (txs N).getD i []
theorem txs_snoc (N : List Nd) (nd : Nd) : txs (N ++ [nd]) = txs N ++ [ndT (tx N) nd] := by
  unfold txs
  rw [List.foldl_append]
  rfl
theorem txs_len (N : List Nd) : (txs N).length = N.length := by
  have gen : ∀ (N : List Nd) (T : List (List Nat)), (N.foldl (fun T nd => T ++ [ndT (fun i => T.getD i []) nd]) T).length = T.length + N.length := by
    intro N
    induction N with
    | nil => intro T; rfl
    | cons nd r ih =>
      intro T
      rw [List.foldl_cons, ih, List.length_append, List.length_singleton, List.length_cons]
      omega
  have := gen N []
  rw [List.length_nil, Nat.zero_add] at this
  exact this
theorem tx_old {N : List Nd} {nd : Nd} {i : Nat} (h : i < N.length) : tx (N ++ [nd]) i = tx N i := by
  unfold tx
  rw [txs_snoc, List.getD_eq_getElem?_getD, List.getD_eq_getElem?_getD, List.getElem?_append_left (by rw [txs_len]; exact h)]
theorem tx_new {N : List Nd} {nd : Nd} : tx (N ++ [nd]) N.length = ndT (tx N) nd := by
  show (txs (N ++ [nd])).getD N.length [] = _
  rw [txs_snoc, List.getD_eq_getElem?_getD, List.getElem?_append_right (by rw [txs_len]; exact Nat.le_refl _), txs_len, Nat.sub_self]
  rfl
/-! ### what was read -/
theorem cut_flat : ∀ (t p : List Nat), (cutGo p t).flatten = p ++ t
  | [], p => by
    rw [cutGo_nil]
    by_cases h : p = []
    · rw [if_pos h, h]; rfl
    · rw [if_neg h]; simp
  | c :: r, p => by
    rw [cutGo_cons]
    by_cases h1 : c = 40
    · rw [if_pos h1, List.flatten_cons, cut_flat r []]
      simp
    · rw [if_neg h1]
      by_cases h2 : c = 44 ∨ c = 41
      · rw [if_pos h2, List.flatten_append, List.flatten_cons, cut_flat r []]
        by_cases h3 : p = []
        · rw [if_pos h3, h3]; simp
        · rw [if_neg h3]; simp
      · rw [if_neg h2, cut_flat r (p ++ [c])]
        simp
def midT (f : Nat → List Nat) (os : List Nat) : List Nat := os.flatMap fun o => f o ++ [44]
theorem joinC_snoc : ∀ (ts : List (List Nat)) (t : List Nat), joinC (ts ++ [t]) = (ts.flatMap fun u => u ++ [44]) ++ t
  | [], t => rfl
  | [u], t => by simp [joinC]
  | u :: v :: r, t => by
    have := joinC_snoc (v :: r) t
    show joinC (u :: v :: (r ++ [t])) = _
    rw [joinC]
    rw [show v :: (r ++ [t]) = (v :: r) ++ [t] from rfl, this, List.flatMap_cons]
    simp
theorem mid_join (f : Nat → List Nat) (os : List Nat) (o : Nat) : midT f os ++ f o = joinC ((os ++ [o]).map f) := by
  rw [List.map_append, List.map_singleton, joinC_snoc, List.flatMap_map]
  rfl
theorem join_mid (f : Nat → List Nat) {os : List Nat} (h : os ≠ []) : joinC (os.map f) ++ [44] = midT f os := by
  rcases List.eq_nil_or_concat os with e | ⟨q, o, e⟩
  · exact absurd e h
  · rw [List.concat_eq_append] at e
    subst e
    rw [← mid_join]
    unfold midT
    rw [List.flatMap_append]
    simp
def segT (f : Nat → List Nat) (V : Wt) : List Nat := V.flatMap fun y => tl y.1 ++ 40 :: midT f y.2
theorem segT_snoc (f : Nat → List Nat) (V : Wt) (w : Str) (os : List Nat) : segT f (V ++ [(w, os)]) = segT f V ++ (tl w ++ 40 :: midT f os) := by
  unfold segT
  rw [List.flatMap_append]
  simp
theorem midT_congr {f g : Nat → List Nat} {os : List Nat} (h : ∀ o ∈ os, f o = g o) : midT f os = midT g os := by
  unfold midT
  induction os with
  | nil => rfl
  | cons o r ih =>
    rw [List.flatMap_cons, List.flatMap_cons, h o List.mem_cons_self, ih fun q hq => h q (List.mem_cons_of_mem _ hq)]
theorem segT_congr {f g : Nat → List Nat} {V : Wt} (h : ∀ y ∈ V, ∀ o ∈ y.2, f o = g o) : segT f V = segT g V := by
  unfold segT
  induction V with
  | nil => rfl
  | cons y r ih =>
    rw [List.flatMap_cons, List.flatMap_cons, midT_congr (h y List.mem_cons_self), ih fun q hq => h q (List.mem_cons_of_mem _ hq)]
/-- the text that was read up to here -/
inductive SoFar : Rd → List Nat → Prop
  | start : SoFar ⟨[], [], false⟩ []
  | whole {N : List Nd} : SoFar ⟨N, [], true⟩ (tx N (N.length - 1))
  | open_ {N : List Nd} {V : Wt} {w : Str} {os : List Nat} : SoFar ⟨N, V ++ [(w, os)], false⟩ (segT (tx N) V ++ (tl w ++ 40 :: midT (tx N) os))
  | shut {N : List Nd} {V : Wt} {w : Str} {os : List Nat} (h : os ≠ []) : SoFar ⟨N, V ++ [(w, os)], true⟩ (segT (tx N) V ++ (tl w ++ 40 :: joinC (os.map (tx N))))
theorem sofar_add {N : List Nd} {V : Wt} {nd : Nd} (hw : ∀ y ∈ V, ∀ o ∈ y.2, o < N.length) : SoFar ⟨N ++ [nd], addTop V N.length, true⟩ (segT (tx N) V ++ ndT (tx N) nd) := by
  rcases List.eq_nil_or_concat V with e | ⟨U, ⟨w, os⟩, e⟩
  · subst e
    have h := SoFar.whole (N := N ++ [nd])
    rw [List.length_append, List.length_singleton, Nat.add_sub_cancel, tx_new] at h
    exact h
  · rw [List.concat_eq_append] at e
    subst e
    rw [addTop_snoc, segT_snoc]
    have h := SoFar.shut (N := N ++ [nd]) (V := U) (w := w) (os := os ++ [N.length]) (by simp)
    rw [← mid_join, tx_new, segT_congr (g := tx N) (fun y hy o ho => tx_old (hw y (List.mem_append_left _ hy) o ho)), midT_congr (g := tx N) (fun o ho => tx_old (hw (w, os) (by simp) o ho))] at h
    rw [List.append_assoc, List.append_assoc, List.cons_append]
    exact h
theorem oper_word {okw : Str → Bool} {w : Str} {os : List Nat} {nd : Nd} (h : oper okw w os = some nd) : nd = .call w os ∨ nd = .op w os := by
  cases hl : opsT.lookup w with
  | some n =>
    rw [oper_at hl] at h
    exact .inr (some_if h).2.symm
  | none =>
    rw [oper_no hl] at h
    exact .inl (some_if h).2.symm
theorem sofar_step {okw : Str → Bool} {s s' : Rd} {p C : List Nat} (R : WfR s) (J : SoFar s C) (h : rstep okw s p = some s') : SoFar s' (C ++ p) := by
  by_cases e1 : p = [44]
  · subst e1
    obtain ⟨h1, h2, rfl⟩ := rstep_comma h
    cases J with
    | start => cases h2
    | whole => exact absurd rfl h1
    | open_ => cases h2
    | @shut N V w os hos =>
      rw [List.append_assoc, List.append_assoc, List.cons_append, join_mid _ hos]
      exact .open_
  · by_cases e2 : p = [41]
    · subst e2
      obtain ⟨W, w, os, nd, hW, hb, hop, rfl⟩ := rstep_close h
      have hnd : ndT (tx s.N) nd = tl w ++ 40 :: joinC (os.map (tx s.N)) ++ [41] := by
        rcases oper_word hop with rfl | rfl <;> rfl
      have hC : C ++ [41] = segT (tx s.N) W ++ ndT (tx s.N) nd := by
        rw [hnd]
        cases J with
        | start => cases W <;> cases hW
        | whole => cases W <;> cases hW
        | @open_ N V w' os' =>
          have hW : V ++ [(w', os')] = W ++ [(w, os)] := hW
          obtain ⟨rfl, h3⟩ := List.append_inj' hW rfl
          cases h3
          rcases hb with rfl | hb
          · simp [midT, joinC]
          · cases hb
        | @shut N V w' os' h =>
          have hW : V ++ [(w', os')] = W ++ [(w, os)] := hW
          obtain ⟨rfl, h3⟩ := List.append_inj' hW rfl
          cases h3
          simp
      rw [hC]
      exact sofar_add fun y hy o ho => R.ww y (by rw [hW]; exact List.mem_append_left _ hy) o ho
    · obtain ⟨hb, ⟨hp, rfl⟩ | ⟨_, _, rfl⟩⟩ := rstep_else e1 e2 h
      · have hp2 : p = p.dropLast ++ [40] := by
          rcases List.eq_nil_or_concat p with e | ⟨q, c, e⟩
          · rw [e] at hp; cases hp
          · rw [List.concat_eq_append] at e
            rw [e, List.getLast?_concat] at hp
            rw [e, List.dropLast_concat, Option.some.inj hp]
        have fin : ∀ V N, C = segT (tx N) V → SoFar ⟨N, V ++ [(ofL p.dropLast, [])], false⟩ (C ++ p) := fun V N hC => by
          have h := SoFar.open_ (N := N) (V := V) (w := ofL p.dropLast) (os := [])
          rw [tl_ofL] at h
          rw [hC]
          conv => arg 2; rw [hp2]
          exact h
        cases J with
        | start => exact fin [] [] rfl
        | whole => cases hb
        | @open_ N V w os => exact fin _ N (segT_snoc _ _ _ _).symm
        | shut h => cases hb
      · have hC : C ++ p = segT (tx s.N) s.W ++ ndT (tx s.N) (.name (ofL p)) := by
          rw [show ndT (tx s.N) (.name (ofL p)) = p from tl_ofL p]
          cases J with
          | start => rfl
          | whole => cases hb
          | open_ => rw [segT_snoc]
          | shut h => cases hb
        rw [hC]
        exact sofar_add R.ww
theorem sofar_run {okw : Str → Bool} : ∀ {ps : List (List Nat)} {s s' : Rd} {C : List Nat}, WfR s → SoFar s C → rrun okw s ps = some s' → SoFar s' (C ++ ps.flatten)
  | [], s, s', C, R, J, h => by
    obtain rfl := Option.some.inj h
    rw [List.flatten_nil, List.append_nil]
    exact J
  | p :: ps, s, s', C, R, J, h => by
    rw [rrun] at h
    obtain ⟨t, h1, h2⟩ := Option.bind_eq_some_iff.mp h
    rw [List.flatten_cons, ← List.append_assoc]
    exact sofar_run (rstep_wf R h1) (sofar_step R J h1) h2
theorem good_text {okw : Str → Bool} {t : List Nat} {ns : List Nd} (g : GoodE okw t 0 ns) : tx ns (ns.length - 1) = t := by
  have h := sofar_run (s := ⟨[], [], false⟩) ⟨(fun j nd h => by cases h), (fun y hy => by cases hy)⟩ .start (good_run g)
  rw [cut_flat, List.nil_append, List.nil_append] at h
  generalize hs : (⟨ns, [], true⟩ : Rd) = s at h
  cases h with
  | start => exact absurd (congrArg Rd.b hs) (by simp)
  | whole => cases hs; rfl
  | open_ => exact absurd (congrArg Rd.b hs) (by simp)
  | @shut N V w os h => exact absurd (congrArg Rd.W hs) (by simp)
/-! ### nodes that can be read -/
structure WordOk (okw : Str → Bool) : Prop where
  pl : ∀ w, okw w = true → plainL (tl w)
  ne : ∀ w, okw w = true → tl w ≠ []
  le : ∀ w, okw w = true → (tl w).length ≤ 8
  no : ∀ w, okw w = true → opsT.lookup w = none
def GoodNd (okw : Str → Bool) : Nd → Prop
  | .name w => okw w = true
  | .call w os => okw w = true ∧ os.length ≤ 4
  | .op w os => opsT.lookup w = some (os.length : Int)
theorem op_pl {w : Str} {n : Int} (h : opsT.lookup w = some n) : plainL (tl w) ∧ (tl w).length ≤ 8 ∧ n ≤ 2 := by
  unfold opsT at h
  have e : ∀ (a b : Str) (m : Int) (r : List (Str × Int)), w ≠ a → ((a, m) :: r).lookup w = r.lookup w := fun a b m r hne => by
    rw [List.lookup_cons]
    have : (w == a) = false := by
      rw [beq_eq_false_iff_ne]
      exact hne
    rw [this]
  by_cases h1 : w = "part"
  · subst h1
    rw [List.lookup_cons_self] at h
    exact ⟨by unfold plainL; decide +kernel, by decide +kernel, by have := Option.some.inj h; omega⟩
  · rw [e _ "" _ _ h1] at h
    by_cases h2 : w = "pick"
    · subst h2
      rw [List.lookup_cons_self] at h
      exact ⟨by unfold plainL; decide +kernel, by decide +kernel, by have := Option.some.inj h; omega⟩
    · rw [e _ "" _ _ h2] at h
      by_cases h3 : w = "then"
      · subst h3
        rw [List.lookup_cons_self] at h
        exact ⟨by unfold plainL; decide +kernel, by decide +kernel, by have := Option.some.inj h; omega⟩
      · rw [e _ "" _ _ h3] at h
        cases h
theorem joinC_le : ∀ b : List It1, (∀ i ∈ b, i.1.length ≤ 14 * i.2.length) → (joinC (b.map (·.1))).length ≤ 14 * (flat b).length + b.length
  | [], _ => Nat.zero_le _
  | [i], h => by
    have := h i List.mem_cons_self
    simp only [List.map_cons, List.map_nil, joinC, flat, List.flatMap_cons, List.flatMap_nil, List.append_nil, List.length_cons, List.length_nil]
    omega
  | i :: j :: r, h => by
    have h1 := h i List.mem_cons_self
    have h2 := joinC_le (j :: r) fun k hk => h k (List.mem_cons_of_mem _ hk)
    rw [show (flat (i :: j :: r)).length = i.2.length + (flat (j :: r)).length by simp [flat]]
    rw [List.map_cons, List.map_cons, joinC, List.length_append, List.length_cons, List.length_cons]
    rw [List.map_cons] at h2
    omega
theorem flat_snoc (a : List It1) (i : It1) : flat (a ++ [i]) = flat a ++ i.2 := by simp [flat]
/-- every forest of good nodes is read from some texts -/
theorem forest_stk {okw : Str → Bool} (K : WordOk okw) {N : List Nd} {st : List Nat} (F : Forest N st) : (∀ nd ∈ N, GoodNd okw nd) →
    ∃ its : List It1, Stk okw 0 its ∧ flat its = N ∧ rootsL 0 its = st ∧ ∀ i ∈ its, i.1.length ≤ 14 * i.2.length := by
  induction F with
  | nil => exact fun _ => ⟨[], trivial, rfl, rfl, fun i h => by cases h⟩
  | @node N r nd F ih =>
    intro hN
    obtain ⟨its, hs, hf, hr, hl⟩ := ih fun d hd => hN d (List.mem_append_left _ hd)
    have hnd := hN nd (List.mem_append_right _ (List.mem_singleton.mpr rfl))
    have hlen : its.length = r.length + (opsOf nd).length := by
      have := congrArg List.length hr
      rw [roots_len, List.length_append] at this
      exact this
    obtain ⟨a, b, rfl, hal⟩ : ∃ a b, its = a ++ b ∧ a.length = r.length := ⟨its.take r.length, its.drop r.length, (List.take_append_drop _ _).symm, by rw [List.length_take]; omega⟩
    obtain ⟨sa, sb⟩ := (stk_append okw a b 0).mp hs
    rw [Nat.zero_add] at sb
    rw [roots_append, Nat.zero_add] at hr
    obtain ⟨ra, rb⟩ := List.append_inj hr (by rw [roots_len]; exact hal)
    have hfl : N.length = (flat a).length + (flat b).length := by
      rw [← hf]
      simp [flat]
    have hfab : flat a ++ flat b = N := by
      rw [← hf]
      simp [flat]
    have hbl : b.length = (opsOf nd).length := by
      rw [← rb, roots_len]
    have jl := joinC_le b fun i hi => hl i (List.mem_append_right _ hi)
    obtain ⟨t, hg, htl⟩ : ∃ t, GoodE okw t (flat a).length (flat b ++ [nd]) ∧ t.length ≤ 14 * (flat b ++ [nd]).length := by
      cases nd with
      | name w =>
        have hb : b = [] := List.eq_nil_of_length_eq_zero hbl
        subst hb
        have h := good_name (okw := okw) (lo := (flat a).length) (K.pl w hnd) (K.ne w hnd) (by rw [ofL_tl]; exact hnd)
        rw [ofL_tl] at h
        have := K.le w hnd
        exact ⟨tl w, h, by rw [List.length_append, List.length_singleton]; omega⟩
      | call w os =>
        obtain ⟨h1, h2⟩ := hnd
        have ho : oper okw (ofL (tl w)) (rootsL (flat a).length b) = some (.call w os) := by
          rw [ofL_tl, rb, oper_no (K.no w h1), if_pos ⟨h1, h2⟩]
          rfl
        refine ⟨_, good_op sb (K.pl w h1) ho, ?_⟩
        have := K.le w h1
        have hb4 : b.length ≤ 4 := by rw [hbl]; exact h2
        rw [List.length_append, List.length_append, List.length_cons, List.length_append, List.length_singleton, List.length_singleton]
        omega
      | op w os =>
        have h1 : opsT.lookup w = some (os.length : Int) := hnd
        have ho : oper okw (ofL (tl w)) (rootsL (flat a).length b) = some (.op w os) := by
          rw [ofL_tl, rb, oper_at h1]
          show (if (os.length : Int) = (os.length : Int) then _ else _) = _
          rw [if_pos rfl]
          rfl
        obtain ⟨p1, p2, p3⟩ := op_pl h1
        refine ⟨_, good_op sb p1 ho, ?_⟩
        have hb4 : b.length ≤ 4 := by
          rw [hbl]
          show os.length ≤ 4
          omega
        rw [List.length_append, List.length_append, List.length_cons, List.length_append, List.length_singleton, List.length_singleton]
        omega
    refine ⟨a ++ [(t, flat b ++ [nd])], (stk_append okw a _ 0).mpr ⟨sa, by rw [Nat.zero_add]; exact ⟨hg, trivial⟩⟩, ?_, ?_, ?_⟩
    · rw [flat_snoc, ← List.append_assoc, hfab]
    · rw [roots_append, Nat.zero_add, ra]
      show r ++ [(flat a).length + (flat b ++ [nd]).length - 1] = _
      rw [List.length_append, List.length_singleton, hfl]
      congr 2
    · intro i hi
      rcases List.mem_append.mp hi with h | h
      · exact hl i (List.mem_append_left _ h)
      · rw [List.mem_singleton.mp h]
        exact htl
theorem forest_good {okw : Str → Bool} (K : WordOk okw) {N : List Nd} {r : Nat} (F : Forest N [r]) (hN : ∀ nd ∈ N, GoodNd okw nd) : GoodE okw (tx N (N.length - 1)) 0 N ∧ (tx N (N.length - 1)).length ≤ 14 * N.length := by
  obtain ⟨its, hs, hf, hr, hl⟩ := forest_stk K F hN
  have h1 : its.length = 1 := by
    have := congrArg List.length hr
    rw [roots_len] at this
    exact this
  match its, h1 with
  | [(t, ns)], _ =>
    have hf : ns = N := by rw [← hf]; simp [flat]
    subst hf
    have hg : GoodE okw t 0 ns := hs.1
    rw [good_text hg]
    exact ⟨hg, hl (t, ns) List.mem_cons_self⟩
/-- other words, the same operands -/
theorem forest_same {N : List Nd} {st : List Nat} (F : Forest N st) : ∀ {M : List Nd}, M.map opsOf = N.map opsOf → Forest M st := by
  induction F with
  | nil =>
    intro M h
    cases M with
    | nil => exact .nil
    | cons _ _ => cases h
  | @node N r nd F ih =>
    intro M h
    rcases List.eq_nil_or_concat M with e | ⟨L, d, e⟩
    · rw [e] at h
      simp at h
    · rw [List.concat_eq_append] at e
      subst e
      rw [List.map_append, List.map_append] at h
      obtain ⟨h1, h2⟩ := List.append_inj' h rfl
      have h2 : opsOf d = opsOf nd := by simpa using h2
      have hl : L.length = N.length := by
        have := congrArg List.length h1
        rw [List.length_map, List.length_map] at this
        exact this
      rw [← hl]
      refine .node ?_
      rw [h2]
      exact ih h1
/-! ### how long the texts are -/
def wordOf : Nd → Str
  | .name w => w
  | .call w _ => w
  | .op w _ => w
theorem joinC_len2 (f : Nat → List Nat) : ∀ os : List Nat, (joinC (os.map f)).length ≤ (os.map fun o => (f o).length).sum + os.length
  | [] => Nat.le_refl _
  | [o] => by simp [joinC]
  | o :: q :: r => by
    have := joinC_len2 f (q :: r)
    rw [List.map_cons] at this
    rw [List.map_cons, List.map_cons, joinC, List.length_append, List.length_cons, List.map_cons, List.sum_cons, List.length_cons]
    omega
theorem ndT_len (f : Nat → List Nat) {nd : Nd} (h : (tl (wordOf nd)).length ≤ 8) (h4 : (opsOf nd).length ≤ 4) : (ndT f nd).length ≤ 14 + ((opsOf nd).map fun o => (f o).length).sum := by
  cases nd with
  | name w =>
    show (tl w).length ≤ _
    have : (tl w).length ≤ 8 := h
    omega
  | call w os =>
    have h : (tl w).length ≤ 8 := h
    have h4 : os.length ≤ 4 := h4
    have := joinC_len2 f os
    show (tl w ++ 40 :: joinC (os.map f) ++ [41]).length ≤ 14 + (os.map fun o => (f o).length).sum
    rw [List.length_append, List.length_append, List.length_cons, List.length_singleton]
    omega
  | op w os =>
    have h : (tl w).length ≤ 8 := h
    have h4 : os.length ≤ 4 := h4
    have := joinC_len2 f os
    show (tl w ++ 40 :: joinC (os.map f) ++ [41]).length ≤ 14 + (os.map fun o => (f o).length).sum
    rw [List.length_append, List.length_append, List.length_cons, List.length_singleton]
    omega
theorem forest_mem {N : List Nd} {st : List Nat} (F : Forest N st) : ∀ r ∈ st, r < N.length := by
  induction F with
  | nil => exact fun r h => by cases h
  | @node N r nd F ih =>
    intro q hq
    rw [List.length_append, List.length_singleton]
    rcases List.mem_append.mp hq with h | h
    · have := ih q (List.mem_append_left _ h)
      omega
    · rw [List.mem_singleton.mp h]
      omega
theorem forest_len {N : List Nd} {st : List Nat} (F : Forest N st) : (∀ nd ∈ N, (tl (wordOf nd)).length ≤ 8 ∧ (opsOf nd).length ≤ 4) →
    (st.map fun r => (tx N r).length).sum ≤ 14 * N.length ∧ ∀ i, i < N.length → (tx N i).length ≤ 14 * N.length := by
  induction F with
  | nil => exact fun _ => ⟨Nat.le_refl _, fun i h => by cases h⟩
  | @node N r nd F ih =>
    intro hN
    obtain ⟨h1, h2⟩ := ih fun d hd => hN d (List.mem_append_left _ hd)
    obtain ⟨g1, g2⟩ := hN nd (List.mem_append_right _ (List.mem_singleton.mpr rfl))
    have hm := forest_mem F
    have hnew := ndT_len (tx N) g1 g2
    rw [List.map_append, List.sum_append] at h1
    have old : (r.map fun q => (tx (N ++ [nd]) q).length) = r.map fun q => (tx N q).length := List.map_congr_left fun q hq => by rw [tx_old (hm q (List.mem_append_left _ hq))]
    rw [List.length_append, List.length_singleton]
    refine ⟨?_, fun i hi => ?_⟩
    · rw [List.map_append, List.sum_append, old]
      show _ + ((tx (N ++ [nd]) N.length).length + 0) ≤ _
      rw [tx_new]
      omega
    · by_cases e : i < N.length
      · rw [tx_old e]
        have := h2 i e
        omega
      · have e : i = N.length := by omega
        rw [e, tx_new]
        omega
/-! ### nodes as data -/
def ndI (os : List Nat) : List PyData := os.map fun (n : Nat) => PyData.int (n : Int)
def nodeD : Nd → PyData
  | .name w => .tuple [.str "name", .str w]
  | .call w os => .tuple [.str "call", .str w, .tuple (ndI os)]
  | .op w os => .tuple (.str w :: ndI os)
theorem eqv_ndI : ∀ os qs : List Nat, PyData.eqvAll (ndI os) (ndI qs) = decide (os = qs)
  | [], [] => by rw [show decide (([] : List Nat) = []) = true from decide_eq_true rfl]; simp [ndI, PyData.eqvAll]
  | [], q :: r => by simp [ndI, PyData.eqvAll]
  | o :: r, [] => by simp [ndI, PyData.eqvAll]
  | o :: r, q :: t => by
    have h := eqv_ndI r t
    unfold ndI at h ⊢
    rw [List.map_cons, List.map_cons, PyData.eqvAll, h, PyData.eqv, Bool.eq_iff_iff]
    simp
    intro _
    omega
theorem eqv_str (a b : Str) : PyData.eqv (.str a) (.str b) = decide (a = b) := by
  rw [PyData.eqv, Bool.eq_iff_iff]
  simp
def OpW (w : Str) : Prop := w ≠ "name" ∧ w ≠ "call"
def NdW : Nd → Prop
  | .op w _ => OpW w
  | _ => True
theorem eqv_node {a b : Nd} (ha : NdW a) (hb : NdW b) : PyData.eqv (nodeD a) (nodeD b) = decide (a = b) := by
  cases a with
  | name w =>
    cases b with
    | name v =>
      show PyData.eqv (.tuple [.str "name", .str w]) (.tuple [.str "name", .str v]) = _
      simp [PyData.eqv, PyData.eqvAll]
      exact Bool.eq_iff_iff.mpr (by simp)
    | call v qs =>
      show PyData.eqv (.tuple [.str "name", .str w]) (.tuple [.str "call", .str v, .tuple (ndI qs)]) = _
      simp [PyData.eqv, PyData.eqvAll]
    | op v qs =>
      show PyData.eqv (.tuple [.str "name", .str w]) (.tuple (.str v :: ndI qs)) = _
      rw [PyData.eqv, PyData.eqvAll, eqv_str, decide_eq_false (fun z => hb.1 z.symm)]
      simp
  | call w os =>
    cases b with
    | name v =>
      show PyData.eqv (.tuple [.str "call", .str w, .tuple (ndI os)]) (.tuple [.str "name", .str v]) = _
      simp [PyData.eqv, PyData.eqvAll]
    | call v qs =>
      show PyData.eqv (.tuple [.str "call", .str w, .tuple (ndI os)]) (.tuple [.str "call", .str v, .tuple (ndI qs)]) = _
      simp [PyData.eqv, PyData.eqvAll, eqv_ndI]
      exact Bool.eq_iff_iff.mpr (by simp)
    | op v qs =>
      show PyData.eqv (.tuple [.str "call", .str w, .tuple (ndI os)]) (.tuple (.str v :: ndI qs)) = _
      rw [PyData.eqv, PyData.eqvAll, eqv_str, decide_eq_false (fun z => hb.2 z.symm)]
      simp
  | op w os =>
    cases b with
    | name v =>
      show PyData.eqv (.tuple (.str w :: ndI os)) (.tuple [.str "name", .str v]) = _
      rw [PyData.eqv, PyData.eqvAll, eqv_str, decide_eq_false ha.1]
      simp
    | call v qs =>
      show PyData.eqv (.tuple (.str w :: ndI os)) (.tuple [.str "call", .str v, .tuple (ndI qs)]) = _
      rw [PyData.eqv, PyData.eqvAll, eqv_str, decide_eq_false ha.2]
      simp
    | op v qs =>
      show PyData.eqv (.tuple (.str w :: ndI os)) (.tuple (.str v :: ndI qs)) = _
      rw [PyData.eqv, PyData.eqvAll, eqv_str, eqv_ndI, Bool.eq_iff_iff]
      simp
theorem eqv_nodes : ∀ ns ms : List Nd, (∀ nd ∈ ns, NdW nd) → (∀ nd ∈ ms, NdW nd) → PyData.eqvAll (ns.map nodeD) (ms.map nodeD) = decide (ns = ms)
  | [], [], _, _ => by simp [PyData.eqvAll]
  | [], q :: r, _, _ => by simp [PyData.eqvAll]
  | o :: r, [], _, _ => by simp [PyData.eqvAll]
  | o :: r, q :: t, h1, h2 => by
    rw [List.map_cons, List.map_cons, PyData.eqvAll, eqv_node (h1 o List.mem_cons_self) (h2 q List.mem_cons_self), eqv_nodes r t (fun d hd => h1 d (List.mem_cons_of_mem _ hd)) (fun d hd => h2 d (List.mem_cons_of_mem _ hd)), Bool.eq_iff_iff]
    simp
end UL

set_option Elab.async false
set_option linter.all false
set_option maxRecDepth 100000
/-! own: == of an own class that has __eq__, with a list on the right -/
namespace UL
open PySem PySem.Spec PyProof.Rows L2 Evl TL
def rOwnEqL (K : PySem.W.Frag) (C : Addr) (sp : Sp) (E : XK) : R2 := fun x y H Q => ∃ a dx fs, x = .ref a ∧ H a = some (.ins C dx fs) ∧ (∃ b ys, y = .ref b ∧ H b = some (.lst ys) ∧ PySem.W.subIn K (.type "list") (.ref C) = some false) ∧ sp [.ref a, y] H (fun v H' => (∃ b, v = .bl b) ∧ Q v H') E
section
variable {X : Cx} {CX : CXT} {k : Nat} {f C : Addr} {fd : FuncData} {ps : List Str} {sp : Sp} {E : XK}
theorem op_ownEqL (F : FnOk X.prog X.w X.K X.mg X.base CX k f fd ps sp) (hr : Room k X.A) (hs : PySem.W.findIn X.K (.ref C) "__eq__" = some (some (.ref f))) (hf : PySem.W.isFn X.K (.ref f) = true) (hb : L2.Binds X.K fd ps []) (hx : Passes CX X E) :
    OpR X (compareOp .Eq) (rOwnEqL X.K C sp E) := by
  intro pins s σ H x y v u Q I rx ry h
  obtain ⟨a, dx, fs, rfl, ha, hy, q⟩ := h
  cases rx
  obtain ⟨mA, J, _⟩ := ins_get I.hok ha
  obtain ⟨od, J, _⟩ := J.look
  obtain ⟨m, hF⟩ := I.fr
  have side : ∃ tb, PySem.W.Looks (model X.prog X.w) s.heap (typeOf u) tb ∧ PySem.W.notFirst X.K C tb = true := by
    rcases hy with ⟨b, ys, rfl, hb2, hn⟩
    cases ry
    obtain ⟨z, its, n, r, hl, e⟩ := I.lstM hb2
    exact ⟨.type "list", (PySem.W.Looks.ld e).andThen .now, by simp [PySem.W.notFirst, hn]⟩
  obtain ⟨tb, ty, nf⟩ := side
  show wpAny _ _ (richCompare .Eq (.ref a) u) _ _ _
  refine PySem.W.cmp_K (op := .Eq) (tb := tb) hr.units0 hF I.ok.mod.kin J ty nf hs hf ?_
  have r2 : Vals [V.ref a, y] [Value.ref a, u] := .cons rfl (.cons ry .nil)
  have hl : [Value.ref a, u].length = ps.length := by rw [← r2.length]; exact F.len _ _ _ _ q
  have bd := hb s [Value.ref a, u] I.kIn (by rw [List.append_nil]; exact hl)
  rw [List.append_nil] at bd
  refine wpAny_call (codeAny_mono (F.run X.A X.stack s H ⟨[.ref a, u], []⟩ [.ref a, u] [.ref a, y] _ E hr I.env0 bd r2 q) fun rr s' z => ?_)
  match rr, z with
  | .error er, z => exact hx pins σ H s er s' I z
  | .ok (.ret w), z =>
    obtain ⟨v, H', I', rv, ⟨b, rfl⟩, q'⟩ := I.after z
    cases rv
    exact ⟨V.bl b, H', I', rfl, q'⟩
  | .ok .next, z => exact False.elim z
  | .ok .brk, z => exact False.elim z
  | .ok .cont, z => exact False.elim z
end
end UL

set_option Elab.async false
set_option linter.all false
set_option maxRecDepth 100000
/-! own: o.m(e, .., k = v, ..), also in a try -/
namespace UL
open PySem PySem.Spec PyProof.Rows L2 Evl TL
def tMethK (C : Addr) (m : Str) (n mk : Nat) (sp : Sp) (gV : List V → List V → List V) (E : L2.St → XK) (ta : TE) (t tk : TA) : TE := fun σ H Q => ta σ H fun x H1 => ∃ a dx fs, x = .ref a ∧ H1 a = some (.ins C dx fs) ∧ fs.lookup m = none ∧
  t σ H1 fun vs H2 => tk σ H2 fun zs H3 => vs.length + 1 = n ∧ zs.length = mk ∧ sp (gV (.ref a :: vs) zs) H3 Q (E σ)
section
variable {X : Cx} {CX : CXT} {k n : Nat} {f C : Addr} {fd : FuncData} {ps ks : List Str} {sp : Sp} {E : L2.St → XK} {m : Str} {pos apos : Pos} {e o : Expr} {es : List Expr} {kws : List Keyword} {ta : TE} {t tk : TA} {g : List Value → List Value → List Value} {gV : List V → List V → List V}
theorem pe_methK {pl : Sem Bool} (he : PE X o ta) (c : Cls X.K C) (hm : Meth X.K C m f) (F : FnOk X.prog X.w X.K X.mg X.base CX k f fd ps sp) (hr : Room k X.A) (hb : KBn X.K fd ps n ks g gV) (hx : ∀ σ, PassesAt CX X σ (E σ)) (ha : PA X (e :: es) t) (hkw : PK X kws tk)
    (hall : (backToKw pos (keywordEach kws X.env)).all (·.1.isSome) = true := by rfl) (hks : (backToKw pos (keywordEach kws X.env)).filterMap (·.1) = ks := by rfl)
    (hst : starEach (e :: es) X.env = (false, eval e X.env) :: starEach es X.env := by rfl) (hpl : ((backTo pos (starEach (e :: es) X.env)).any (·.1) || (backToKw pos (keywordEach kws X.env)).any (·.1.isNone)) = false := by rfl)
    (ht : eval (.Call (.Attribute o m apos) (e :: es) kws pos) X.env = (do
      let ov ← eval o X.env
      standAt apos.atName
      let (f, first) ← holding [ov] (getMethod ov m pl)
      callWith pos f first (backTo pos (starEach (e :: es) X.env)) (backToKw pos (keywordEach kws X.env))) := by rfl) :
    PE X (.Call (.Attribute o m apos) (e :: es) kws pos) (tMethK C m n ks.length sp gV E ta t tk) := by
  refine ⟨fun pins s σ H Q I h => ?_⟩
  refine PySem.W.methodCall_KW (pl := pl) (thn (he.run pins s σ H _ I h) fun u s1 ⟨x, H1, I1, rx, a, dx, fs, ex, ea, l, q⟩ => ?_) ht
  subst ex
  obtain rfl : u = Value.ref a := rx
  refine getmeth_ok I1 ea c hm l ?_
  refine PySem.W.callWith_KW (first := [.ref a]) (h₀ := X.base) I1.ok.mod.kin hm.kp hall (thn (ha.run pos pins s1 σ H1 _ I1 q) fun us s2 ⟨vs, H2, I2, r, q2⟩ => ?_) hpl hst
  refine thn (hkw.run pos pins s2 σ H2 _ I2 q2) fun ws s3 ⟨zs, H3, I3, rz, l1, l2, q3⟩ => ⟨I3.kIn, ?_⟩
  rw [hks]
  have r1 : Vals (V.ref a :: vs) (Value.ref a :: us) := .cons rfl r
  have r2 := hb.rel r1 rz
  refine wpAny_call (codeAny_mono (F.run X.A X.stack s3 H3 ⟨Value.ref a :: us, ks.zip ws⟩ (g (Value.ref a :: us) ws) (gV (V.ref a :: vs) zs) Q (E σ) hr I3.env0 (hb.to s3 (Value.ref a :: us) ws I3.kIn (by rw [List.length_cons, ← r.length]; exact l1) (rz.length.symm.trans l2)) r2 q3) fun rr s' hq => ?_)
  cases rr with
  | error er => exact hx σ pins H3 s3 er s' I3 hq
  | ok fl =>
    cases fl with
    | ret u => exact I3.after hq
    | next => exact False.elim hq
    | brk => exact False.elim hq
    | cont => exact False.elim hq
/-- o.m(e, ..) in a try, with defaults left out -/
def tMethTD (C : Addr) (m : Str) (sp : Sp) (dvs : List V) (E : L2.St → XK) (ta : TE) (t : TA) : TE := fun σ H Q => ta σ H fun x H1 => ∃ a dx fs, x = .ref a ∧ H1 a = some (.ins C dx fs) ∧ fs.lookup m = none ∧ t σ H1 fun vs H2 => sp (.ref a :: (vs ++ dvs)) H2 Q (E σ)
theorem pe_methTD {pl : Sem Bool} {ds : List Value} {dvs : List V} (he : PE X o ta) (c : Cls X.K C) (hm : Meth X.K C m f) (F : FnOk X.prog X.w X.K X.mg X.base CX k f fd ps sp) (hr : Room k X.A) (hb : L2.Binds X.K fd ps ds) (hd : Vals dvs ds) (hx : ∀ σ, PassesAt CX X σ (E σ)) (ha : PA X (e :: es) t)
    (hst : starEach (e :: es) X.env = (false, eval e X.env) :: starEach es X.env := by rfl) (hpl : (backTo pos (starEach es X.env)).any (·.1) = false := by rfl)
    (ht : eval (.Call (.Attribute o m apos) (e :: es) [] pos) X.env = (do
      let ov ← eval o X.env
      standAt apos.atName
      let (f, first) ← holding [ov] (getMethod ov m pl)
      callWith pos f first (backTo pos (starEach (e :: es) X.env)) (backToKw pos (keywordEach [] X.env))) := by rfl) :
    PE X (.Call (.Attribute o m apos) (e :: es) [] pos) (tMethTD C m sp dvs E ta t) := by
  refine ⟨fun pins s σ H Q I h => ?_⟩
  refine PySem.W.methodCall_KW (pl := pl) (thn (he.run pins s σ H _ I h) fun u s1 ⟨x, H1, I1, rx, a, dx, fs, ex, ea, l, q⟩ => ?_) ht
  subst ex
  obtain rfl : u = Value.ref a := rx
  refine getmeth_ok I1 ea c hm l ?_
  refine PySem.W.callWith_K (first := [.ref a]) (h₀ := X.base) I1.ok.mod.kin hm.kp (thn (ha.run pos pins s1 σ H1 _ I1 q) fun us s2 ⟨vs, H2, I2, r, q2⟩ => ⟨I2.kIn, ?_⟩) hst hpl
  have rv : Vals ((V.ref a :: vs) ++ dvs) ((Value.ref a :: us) ++ ds) := by
    have gen : ∀ {vs : List V} {us : List Value}, Vals vs us → Vals (vs ++ dvs) (us ++ ds) := by
      intro vs us h
      induction h with
      | nil => exact hd
      | cons h _ ih => exact .cons h ih
    exact gen (.cons rfl r)
  have hl : ((Value.ref a :: us) ++ ds).length = ps.length := by rw [← rv.length]; exact F.len _ _ _ _ q2
  refine wpAny_call (codeAny_mono (F.run X.A X.stack s2 H2 ⟨Value.ref a :: us, []⟩ ((Value.ref a :: us) ++ ds) ((V.ref a :: vs) ++ dvs) Q (E σ) hr I2.env0 (hb s2 (Value.ref a :: us) I2.kIn hl) rv q2) fun rr s' hq => ?_)
  cases rr with
  | error er => exact hx σ pins H2 s2 er s' I2 hq
  | ok fl =>
    cases fl with
    | ret u => exact I2.after hq
    | next => exact False.elim hq
    | brk => exact False.elim hq
    | cont => exact False.elim hq
end
end UL

set_option Elab.async false
set_option linter.all false
set_option maxRecDepth 100000
/-! own: texts of nodes with labels in the place of some; the operands in a range -/
namespace UL
open PySem PySem.Spec PyProof.Rows L2 Evl TL
def labT (L : Nat → Option Str) (i : Nat) (t : List Nat) : List Nat := match L i with
  | some z => tl z
  | none => t
def txsL (L : Nat → Option Str) (N : List Nd) : List (List Nat) := N.foldl (fun T nd => T ++ [labT L T.length (ndT (fun i => T.getD i []) nd)]) []
def txL' (L : Nat → Option Str) (N : List Nd) (i : Nat) : List Nat := (txsL L N).getD i []
theorem txsL_len (L : Nat → Option Str) (N : List Nd) : (txsL L N).length = N.length := by
  have gen : ∀ (N : List Nd) (T : List (List Nat)), (N.foldl (fun T nd => T ++ [labT L T.length (ndT (fun i => T.getD i []) nd)]) T).length = T.length + N.length := by
    intro N
    induction N with
    | nil => intro T; rfl
    | cons nd r ih =>
      intro T
      rw [List.foldl_cons, ih, List.length_append, List.length_singleton, List.length_cons]
      omega
  have := gen N []
  rw [List.length_nil, Nat.zero_add] at this
  exact this
theorem txsL_snoc (L : Nat → Option Str) (N : List Nd) (nd : Nd) : txsL L (N ++ [nd]) = txsL L N ++ [labT L N.length (ndT (txL' L N) nd)] := by
  have h : txsL L (N ++ [nd]) = txsL L N ++ [labT L (txsL L N).length (ndT (txL' L N) nd)] := by
    unfold txsL
    rw [List.foldl_append]
    rfl
  rw [h, txsL_len]
theorem labT_none (i : Nat) (t : List Nat) : labT (fun _ => none) i t = t := rfl
/-- without labels these are the texts -/
theorem txsL_none (N : List Nd) : txsL (fun _ => none) N = txs N := rfl
theorem txL_old {L : Nat → Option Str} {N : List Nd} {nd : Nd} {i : Nat} (h : i < N.length) : txL' L (N ++ [nd]) i = txL' L N i := by
  unfold txL'
  rw [txsL_snoc, List.getD_eq_getElem?_getD, List.getD_eq_getElem?_getD, List.getElem?_append_left (by rw [txsL_len]; exact h)]
theorem txL_new {L : Nat → Option Str} {N : List Nd} {nd : Nd} : txL' L (N ++ [nd]) N.length = labT L N.length (ndT (txL' L N) nd) := by
  show (txsL L (N ++ [nd])).getD N.length [] = _
  rw [txsL_snoc, List.getD_eq_getElem?_getD, List.getElem?_append_right (by rw [txsL_len]; exact Nat.le_refl _), txsL_len, Nat.sub_self]
  rfl
/-- the operands of a node lie in its range -/
theorem forest_ops {N : List Nd} {st : List Nat} (F : Forest N st) : ∀ (k : Nat) (nd : Nd), N[k]? = some nd → ∀ o ∈ opsOf nd, fst N k ≤ o ∧ o < k := by
  induction F with
  | nil => exact fun k nd h => by cases h
  | @node N r nd F ih =>
    intro k d hk o ho
    by_cases e : k < N.length
    · rw [List.getElem?_append_left e] at hk
      rw [fst_old e]
      exact ih k d hk o ho
    · have hlt := (List.getElem?_eq_some_iff.mp hk).1
      rw [List.length_append, List.length_singleton] at hlt
      have e : k = N.length := by omega
      subst e
      rw [List.getElem?_append_right (Nat.le_refl _), Nat.sub_self] at hk
      have hk : some nd = some d := hk
      cases hk
      obtain ⟨m, pr, po⟩ := (part_append _ _ _ _ _).mp (forest_ok F).part
      have h1 := part_mem po o ho
      rw [fst_new]
      cases hos : opsOf nd with
      | nil => rw [hos] at ho; cases ho
      | cons q qs =>
        rw [hos] at po
        have h2 : fst N q = m := po.1
        show fst N q ≤ o ∧ o < N.length
        omega
/-- and so they lie in the range of each node above it -/
theorem range_ops {N : List Nd} {st : List Nat} (F : Forest N st) {at_ k : Nat} {nd : Nd} (ha : at_ < N.length) (h1 : fst N at_ ≤ k) (h2 : k ≤ at_) (hk : N[k]? = some nd) : ∀ o ∈ opsOf nd, fst N at_ ≤ o ∧ o < k := by
  have ok := forest_ok F
  intro o ho
  obtain ⟨g1, g2⟩ := forest_ops F k nd hk o ho
  have tr : ∀ {p : Nat → Option Nat} {x y z : Nat}, Anc p x y → Anc p y z → Anc p x z := by
    intro p x y z a b
    induction a with
    | refl => exact b
    | step hp _ ih => exact .step hp (ih b)
  have hkl : k < N.length := by omega
  have a1 := (ok.anc k at_ hkl ha).mpr ⟨h1, h2⟩
  have a2 := (ok.anc o k (by omega) hkl).mpr ⟨g1, by omega⟩
  exact ⟨((ok.anc o at_ (by omega) ha).mp (tr a2 a1)).1, g2⟩
end UL

set_option Elab.async false
set_option linter.all false
set_option maxRecDepth 100000
namespace K11
open PySem PySem.Spec PyProof.Rows L2 Evl TL UL StX
def k_OPERATIONS : List (Str × Int) := [("part", 1), ("pick", 2), ("then", 2)]
def k_RESERVED : List V := [V.str "fun", V.str "out", V.str "use", V.str "val", V.str "ref", V.str "set", V.str "block", V.str "if", V.str "else", V.str "loop", V.str "end", V.str "part", V.str "pick", V.str "then", V.str "dead"]
/-! ### the text -/
def topS (i : Nat) : Stmt := PySem.Challenge.pw_unnamedlives_k11_part_text.main.body.getD i (.Pass ⟨0, 0, 0, 0⟩)
abbrev s_copied : Stmt := topS 1
abbrev n_copied : List Str := ["thing", "levels", "part"]
abbrev p_copied : List Str := ["thing", "levels"]
theorem sc_copied : FnScope n_copied p_copied (defScope s_copied) := ⟨rfl, rfl, rfl, by decide +kernel, rfl, by decide +kernel, by decide +kernel⟩
abbrev s_lives_init : Stmt := inClass (topS 2) 0
abbrev n_lives_init : List Str := ["self", "what"]
abbrev p_lives_init : List Str := ["self", "what"]
theorem sc_lives_init : FnScope n_lives_init p_lives_init (defScope s_lives_init) := ⟨rfl, rfl, rfl, by decide +kernel, rfl, by decide +kernel, by decide +kernel⟩
abbrev s_is_whole : Stmt := topS 7
abbrev n_is_whole : List Str := ["thing"]
abbrev p_is_whole : List Str := ["thing"]
theorem sc_is_whole : FnScope n_is_whole p_is_whole (defScope s_is_whole) := ⟨rfl, rfl, rfl, by decide +kernel, rfl, by decide +kernel, by decide +kernel⟩
abbrev s_is_int : Stmt := topS 8
abbrev n_is_int : List Str := ["thing", "low", "high"]
abbrev p_is_int : List Str := ["thing", "low", "high"]
theorem sc_is_int : FnScope n_is_int p_is_int (defScope s_is_int) := ⟨rfl, rfl, rfl, by decide +kernel, rfl, by decide +kernel, by decide +kernel⟩
abbrev s_is_name : Stmt := topS 14
abbrev n_is_name : List Str := ["text", "sign"]
abbrev p_is_name : List Str := ["text"]
theorem sc_is_name : FnScope n_is_name p_is_name (defScope s_is_name) := ⟨rfl, rfl, rfl, by decide +kernel, rfl, by decide +kernel, by decide +kernel⟩
abbrev s_cut : Stmt := topS 18
abbrev n_cut : List Str := ["text", "pieces", "start", "at", "sign"]
abbrev p_cut : List Str := ["text"]
theorem sc_cut : FnScope n_cut p_cut (defScope s_cut) := ⟨rfl, rfl, rfl, by decide +kernel, rfl, by decide +kernel, by decide +kernel⟩
abbrev s_operation : Stmt := topS 19
abbrev n_operation : List Str := ["word", "operands"]
abbrev p_operation : List Str := ["word", "operands"]
theorem sc_operation : FnScope n_operation p_operation (defScope s_operation) := ⟨rfl, rfl, rfl, by decide +kernel, rfl, by decide +kernel, by decide +kernel⟩
abbrev s_closed : Stmt := topS 20
abbrev n_closed : List Str := ["waiting", "behind_operand", "word", "operands"]
abbrev p_closed : List Str := ["waiting", "behind_operand"]
theorem sc_closed : FnScope n_closed p_closed (defScope s_closed) := ⟨rfl, rfl, rfl, by decide +kernel, rfl, by decide +kernel, by decide +kernel⟩
abbrev s_add_node : Stmt := topS 21
abbrev n_add_node : List Str := ["nodes", "waiting", "node"]
abbrev p_add_node : List Str := ["nodes", "waiting", "node"]
theorem sc_add_node : FnScope n_add_node p_add_node (defScope s_add_node) := ⟨rfl, rfl, rfl, by decide +kernel, rfl, by decide +kernel, by decide +kernel⟩
abbrev s_nodes_of : Stmt := topS 22
abbrev n_nodes_of : List Str := ["text", "nodes", "waiting", "behind_operand", "piece", "node"]
abbrev p_nodes_of : List Str := ["text"]
theorem sc_nodes_of : FnScope n_nodes_of p_nodes_of (defScope s_nodes_of) := ⟨rfl, rfl, rfl, by decide +kernel, rfl, by decide +kernel, by decide +kernel⟩
abbrev s_operands_of : Stmt := topS 23
abbrev n_operands_of : List Str := ["node"]
abbrev p_operands_of : List Str := ["node"]
theorem sc_operands_of : FnScope n_operands_of p_operands_of (defScope s_operands_of) := ⟨rfl, rfl, rfl, by decide +kernel, rfl, by decide +kernel, by decide +kernel⟩
abbrev s_firsts_of : Stmt := topS 24
abbrev n_firsts_of : List Str := ["nodes", "firsts", "at", "node", "operands"]
abbrev p_firsts_of : List Str := ["nodes"]
theorem sc_firsts_of : FnScope n_firsts_of p_firsts_of (defScope s_firsts_of) := ⟨rfl, rfl, rfl, by decide +kernel, rfl, by decide +kernel, by decide +kernel⟩
abbrev s_node_text : Stmt := topS 25
abbrev n_node_text : List Str := ["node", "texts", "word", "inside", "i"]
abbrev p_node_text : List Str := ["node", "texts"]
theorem sc_node_text : FnScope n_node_text p_node_text (defScope s_node_text) := ⟨rfl, rfl, rfl, by decide +kernel, rfl, by decide +kernel, by decide +kernel⟩
abbrev s_ex_init : Stmt := inClass (topS 26) 1
abbrev n_ex_init : List Str := ["self", "nodes"]
abbrev p_ex_init : List Str := ["self", "nodes"]
theorem sc_ex_init : FnScope n_ex_init p_ex_init (defScope s_ex_init) := ⟨rfl, rfl, rfl, by decide +kernel, rfl, by decide +kernel, by decide +kernel⟩
abbrev s_ex_read : Stmt := inClass (topS 26) 2
abbrev n_ex_read : List Str := ["cls", "text", "nodes"]
abbrev p_ex_read : List Str := ["cls", "text"]
theorem sc_ex_read : FnScope n_ex_read p_ex_read (defScope s_ex_read) := ⟨rfl, rfl, rfl, by decide +kernel, rfl, by decide +kernel, by decide +kernel⟩
abbrev s_ex_nodes : Stmt := inClass (topS 26) 3
abbrev n_ex_nodes : List Str := ["self"]
abbrev p_ex_nodes : List Str := ["self"]
theorem sc_ex_nodes : FnScope n_ex_nodes p_ex_nodes (defScope s_ex_nodes) := ⟨rfl, rfl, rfl, by decide +kernel, rfl, by decide +kernel, by decide +kernel⟩
abbrev s_ex_len : Stmt := inClass (topS 26) 4
abbrev n_ex_len : List Str := ["self"]
abbrev p_ex_len : List Str := ["self"]
theorem sc_ex_len : FnScope n_ex_len p_ex_len (defScope s_ex_len) := ⟨rfl, rfl, rfl, by decide +kernel, rfl, by decide +kernel, by decide +kernel⟩
abbrev s_ex_first : Stmt := inClass (topS 26) 5
abbrev n_ex_first : List Str := ["self", "at"]
abbrev p_ex_first : List Str := ["self", "at"]
theorem sc_ex_first : FnScope n_ex_first p_ex_first (defScope s_ex_first) := ⟨rfl, rfl, rfl, by decide +kernel, rfl, by decide +kernel, by decide +kernel⟩
abbrev s_part_text : Stmt := inClass (topS 26) 7
abbrev n_part_text : List Str := ["self", "at", "named", "texts", "k"]
abbrev p_part_text : List Str := ["self", "at", "named"]
theorem sc_part_text : FnScope n_part_text p_part_text (defScope s_part_text) := ⟨rfl, rfl, rfl, by decide +kernel, rfl, by decide +kernel, by decide +kernel⟩
abbrev s_ex_text : Stmt := inClass (topS 26) 6
abbrev n_ex_text : List Str := ["self"]
abbrev p_ex_text : List Str := ["self"]
theorem sc_ex_text : FnScope n_ex_text p_ex_text (defScope s_ex_text) := ⟨rfl, rfl, rfl, by decide +kernel, rfl, by decide +kernel, by decide +kernel⟩
abbrev s_draws : Stmt := topS 28
abbrev n_draws : List Str := ["_law_script", "_law_draws_here", "_law_place", "_law_cell", "_law_rest", "_law_turn", "_law_mixed"]
abbrev p_draws : List Str := ["_law_script"]
theorem sc_draws : FnScope n_draws p_draws (defScope s_draws) := ⟨rfl, rfl, rfl, by decide +kernel, rfl, by decide +kernel, by decide +kernel⟩
abbrev s_take : Stmt := topS 29
abbrev n_take : List Str := ["_law_draws_here", "_law_many"]
abbrev p_take : List Str := ["_law_draws_here", "_law_many"]
theorem sc_take : FnScope n_take p_take (defScope s_take) := ⟨rfl, rfl, rfl, by decide +kernel, rfl, by decide +kernel, by decide +kernel⟩
abbrev s_name : Stmt := topS 30
abbrev n_name : List Str := ["_law_draws_here", "_law_k", "_law_letters", "_law_plain", "_law_shape", "_law_word"]
abbrev p_name : List Str := ["_law_draws_here", "_law_k"]
theorem sc_name : FnScope n_name p_name (defScope s_name) := ⟨rfl, rfl, rfl, by decide +kernel, rfl, by decide +kernel, by decide +kernel⟩
abbrev s_functions : Stmt := topS 31
abbrev n_functions : List Str := ["_law_draws_here", "_law_functions_here", "_law_k", "_law_word", "_law_count", "_law_mask", "_law_numbers", "_law_j"]
abbrev p_functions : List Str := ["_law_draws_here"]
theorem sc_functions : FnScope n_functions p_functions (defScope s_functions) := ⟨rfl, rfl, rfl, by decide +kernel, rfl, by decide +kernel, by decide +kernel⟩
abbrev s_add : Stmt := topS 32
abbrev n_add : List Str := ["_law_heap", "_law_kind", "_law_word", "_law_need", "_law_nodes", "_law_roots", "_law_texts_here", "_law_at", "_law_args", "_law_text", "_law_node", "_law_turn"]
abbrev p_add : List Str := ["_law_heap", "_law_kind", "_law_word", "_law_need"]
theorem sc_add : FnScope n_add p_add (defScope s_add) := ⟨rfl, rfl, rfl, by decide +kernel, rfl, by decide +kernel, by decide +kernel⟩
abbrev s_expression : Stmt := topS 33
abbrev n_expression : List Str := ["_law_draws_here", "_law_names", "_law_functions_here", "_law_most", "_law_heap", "_law_turn", "_law_form", "_law_kind", "_law_word", "_law_need", "_law_called"]
abbrev p_expression : List Str := ["_law_draws_here", "_law_names", "_law_functions_here", "_law_most"]
theorem sc_expression : FnScope n_expression p_expression (defScope s_expression) := ⟨rfl, rfl, rfl, by decide +kernel, rfl, by decide +kernel, by decide +kernel⟩
abbrev s_texts : Stmt := topS 34
abbrev n_texts : List Str := ["_law_nodes", "_law_labels", "_law_texts_here", "_law_at", "_law_node", "_law_text", "_law_i"]
abbrev p_texts : List Str := ["_law_nodes", "_law_labels"]
theorem sc_texts : FnScope n_texts p_texts (defScope s_texts) := ⟨rfl, rfl, rfl, by decide +kernel, rfl, by decide +kernel, by decide +kernel⟩
abbrev s_refused : Stmt := topS 35
abbrev n_refused : List Str := ["_law_expression_here", "_law_at", "_law_labels", "_law_count", "_law_what", "_law_other", "e"]
abbrev p_refused : List Str := ["_law_expression_here", "_law_at", "_law_labels"]
theorem sc_refused : FnScope n_refused p_refused (defScope s_refused) := ⟨rfl, rfl, rfl, by decide +kernel, rfl, by decide +kernel, by decide +kernel⟩
abbrev s_lis : Stmt := topS 36
abbrev n_lis : List Str := ["_law_text", "_law_due"]
abbrev p_lis : List Str := ["_law_text", "_law_due"]
theorem sc_lis : FnScope n_lis p_lis (defScope s_lis) := ⟨rfl, rfl, rfl, by decide +kernel, rfl, by decide +kernel, by decide +kernel⟩
abbrev s_law : Stmt := topS 37
abbrev n_law : List Str := ["_law_script", "_law_draws_here", "_law_names", "_law_functions_here", "_law_drawn", "_law_nodes", "_law_often", "_law_labels", "_law_at", "_law_handed", "_law_expression_here", "_law_whole", "_law_changed", "_law_numbers", "_law_k"]
abbrev p_law : List Str := ["_law_script"]
theorem sc_law : FnScope n_law p_law (defScope s_law) := ⟨rfl, rfl, rfl, by decide +kernel, rfl, by decide +kernel, by decide +kernel⟩
structure Adr where
  copied : Addr
  d_copied : FuncData
  lives_init : Addr
  d_lives_init : FuncData
  is_whole : Addr
  d_is_whole : FuncData
  is_int : Addr
  d_is_int : FuncData
  is_name : Addr
  d_is_name : FuncData
  cut : Addr
  d_cut : FuncData
  operation : Addr
  d_operation : FuncData
  closed : Addr
  d_closed : FuncData
  add_node : Addr
  d_add_node : FuncData
  nodes_of : Addr
  d_nodes_of : FuncData
  operands_of : Addr
  d_operands_of : FuncData
  firsts_of : Addr
  d_firsts_of : FuncData
  node_text : Addr
  d_node_text : FuncData
  ex_init : Addr
  d_ex_init : FuncData
  ex_read : Addr
  d_ex_read : FuncData
  ex_nodes : Addr
  d_ex_nodes : FuncData
  ex_len : Addr
  d_ex_len : FuncData
  ex_first : Addr
  d_ex_first : FuncData
  part_text : Addr
  d_part_text : FuncData
  ex_text : Addr
  d_ex_text : FuncData
  draws : Addr
  d_draws : FuncData
  take : Addr
  d_take : FuncData
  name : Addr
  d_name : FuncData
  functions : Addr
  d_functions : FuncData
  add : Addr
  d_add : FuncData
  expression : Addr
  d_expression : FuncData
  texts : Addr
  d_texts : FuncData
  refused : Addr
  d_refused : FuncData
  lis : Addr
  d_lis : FuncData
  law : Addr
  d_law : FuncData
  o_ex_read : Addr
  o_ex_nodes : Addr
  LivesError : Addr
  NoPlace : Addr
  Expression : Addr
  t_DIGITS : Nat
  t_LETTERS : Nat
  t_MOST_ARGUMENTS : Nat
  t_MOST_CHARACTERS : Nat
  OPERATIONS : Addr
  RESERVED : Addr
structure Tx0 (w : World) (K : PySem.W.Frag) (mg : Str → Option Value) (A : Adr) : Prop where
  F_copied : FunD K "copied" "copied" (defArgs s_copied) (defBody s_copied) (defScope s_copied) [.int 4] [] A.copied A.d_copied
  g_copied : mg "copied" = some (.ref A.copied)
  F_lives_init : Fun K "__init__" "LivesError.__init__" s_lives_init A.lives_init A.d_lives_init
  b_lives_init : L2.Binds K A.d_lives_init p_lives_init []
  ti_lives_init : PySem.W.typeIn K (.ref A.lives_init) = some (.type "function")
  F_is_whole : Fun K "is_whole" "is_whole" s_is_whole A.is_whole A.d_is_whole
  b_is_whole : L2.Binds K A.d_is_whole p_is_whole []
  g_is_whole : mg "is_whole" = some (.ref A.is_whole)
  F_is_int : Fun K "is_integer_in" "is_integer_in" s_is_int A.is_int A.d_is_int
  b_is_int : L2.Binds K A.d_is_int p_is_int []
  g_is_int : mg "is_integer_in" = some (.ref A.is_int)
  F_is_name : Fun K "is_name" "is_name" s_is_name A.is_name A.d_is_name
  b_is_name : L2.Binds K A.d_is_name p_is_name []
  g_is_name : mg "is_name" = some (.ref A.is_name)
  F_cut : Fun K "cut" "cut" s_cut A.cut A.d_cut
  b_cut : L2.Binds K A.d_cut p_cut []
  g_cut : mg "cut" = some (.ref A.cut)
  F_operation : Fun K "operation" "operation" s_operation A.operation A.d_operation
  b_operation : L2.Binds K A.d_operation p_operation []
  g_operation : mg "operation" = some (.ref A.operation)
  F_closed : Fun K "closed" "closed" s_closed A.closed A.d_closed
  b_closed : L2.Binds K A.d_closed p_closed []
  g_closed : mg "closed" = some (.ref A.closed)
  F_add_node : Fun K "add_node" "add_node" s_add_node A.add_node A.d_add_node
  b_add_node : L2.Binds K A.d_add_node p_add_node []
  g_add_node : mg "add_node" = some (.ref A.add_node)
  F_nodes_of : Fun K "nodes_of" "nodes_of" s_nodes_of A.nodes_of A.d_nodes_of
  b_nodes_of : L2.Binds K A.d_nodes_of p_nodes_of []
  g_nodes_of : mg "nodes_of" = some (.ref A.nodes_of)
  F_operands_of : Fun K "operands_of" "operands_of" s_operands_of A.operands_of A.d_operands_of
  b_operands_of : L2.Binds K A.d_operands_of p_operands_of []
  g_operands_of : mg "operands_of" = some (.ref A.operands_of)
  F_firsts_of : Fun K "firsts_of" "firsts_of" s_firsts_of A.firsts_of A.d_firsts_of
  b_firsts_of : L2.Binds K A.d_firsts_of p_firsts_of []
  g_firsts_of : mg "firsts_of" = some (.ref A.firsts_of)
  F_node_text : Fun K "node_text" "node_text" s_node_text A.node_text A.d_node_text
  b_node_text : L2.Binds K A.d_node_text p_node_text []
  g_node_text : mg "node_text" = some (.ref A.node_text)
  F_ex_init : Fun K "__init__" "Expression.__init__" s_ex_init A.ex_init A.d_ex_init
  b_ex_init : L2.Binds K A.d_ex_init p_ex_init []
  e_ex_init : Meth K A.Expression "__init__" A.ex_init
  F_ex_read : Fun K "read" "Expression.read" s_ex_read A.ex_read A.d_ex_read
  b_ex_read : L2.Binds K A.d_ex_read p_ex_read []
  cm_ex_read : ClX.CMet K A.Expression (.type "type") "read" A.o_ex_read A.ex_read
  F_ex_nodes : Fun K "nodes" "Expression.nodes" s_ex_nodes A.ex_nodes A.d_ex_nodes
  b_ex_nodes : L2.Binds K A.d_ex_nodes p_ex_nodes []
  r_ex_nodes : PropOf K A.Expression "nodes" A.o_ex_nodes A.ex_nodes
  F_ex_len : Fun K "__len__" "Expression.__len__" s_ex_len A.ex_len A.d_ex_len
  b_ex_len : L2.Binds K A.d_ex_len p_ex_len []
  e_ex_len : Meth K A.Expression "__len__" A.ex_len
  F_ex_first : Fun K "first" "Expression.first" s_ex_first A.ex_first A.d_ex_first
  b_ex_first : L2.Binds K A.d_ex_first p_ex_first []
  e_ex_first : Meth K A.Expression "first" A.ex_first
  F_part_text : FunD K "part_text" "Expression.part_text" (defArgs s_part_text) (defBody s_part_text) (defScope s_part_text) [] [("named", .non)] A.part_text A.d_part_text
  e_part_text : Meth K A.Expression "part_text" A.part_text
  F_ex_text : Fun K "text" "Expression.text" s_ex_text A.ex_text A.d_ex_text
  b_ex_text : L2.Binds K A.d_ex_text p_ex_text []
  e_ex_text : Meth K A.Expression "text" A.ex_text
  F_draws : Fun K "_law_draws" "_law_draws" s_draws A.draws A.d_draws
  b_draws : L2.Binds K A.d_draws p_draws []
  g_draws : mg "_law_draws" = some (.ref A.draws)
  F_take : Fun K "_law_take" "_law_take" s_take A.take A.d_take
  b_take : L2.Binds K A.d_take p_take []
  g_take : mg "_law_take" = some (.ref A.take)
  F_name : Fun K "_law_name" "_law_name" s_name A.name A.d_name
  b_name : L2.Binds K A.d_name p_name []
  g_name : mg "_law_name" = some (.ref A.name)
  F_functions : Fun K "_law_functions" "_law_functions" s_functions A.functions A.d_functions
  b_functions : L2.Binds K A.d_functions p_functions []
  g_functions : mg "_law_functions" = some (.ref A.functions)
  F_add : Fun K "_law_add" "_law_add" s_add A.add A.d_add
  b_add : L2.Binds K A.d_add p_add []
  g_add : mg "_law_add" = some (.ref A.add)
  F_expression : Fun K "_law_expression" "_law_expression" s_expression A.expression A.d_expression
  b_expression : L2.Binds K A.d_expression p_expression []
  g_expression : mg "_law_expression" = some (.ref A.expression)
  F_texts : Fun K "_law_texts" "_law_texts" s_texts A.texts A.d_texts
  b_texts : L2.Binds K A.d_texts p_texts []
  g_texts : mg "_law_texts" = some (.ref A.texts)
  F_refused : Fun K "_law_refused" "_law_refused" s_refused A.refused A.d_refused
  b_refused : L2.Binds K A.d_refused p_refused []
  g_refused : mg "_law_refused" = some (.ref A.refused)
  F_lis : Fun K "_law_is" "_law_is" s_lis A.lis A.d_lis
  b_lis : L2.Binds K A.d_lis p_lis []
  g_lis : mg "_law_is" = some (.ref A.lis)
  F_law : Fun K "law" "law" s_law A.law A.d_law
  b_law : L2.Binds K A.d_law p_law []
  g_law : mg "law" = some (.ref A.law)
  m_ValueError : mg "ValueError" = none
  m_abs : mg "abs" = none
  m_all : mg "all" = none
  m_bool : mg "bool" = none
  m_dict : mg "dict" = none
  m_enumerate : mg "enumerate" = none
  m_int : mg "int" = none
  m_isinstance : mg "isinstance" = none
  m_len : mg "len" = none
  m_list : mg "list" = none
  m_min : mg "min" = none
  m_range : mg "range" = none
  m_str : mg "str" = none
  m_tuple : mg "tuple" = none
  g_LivesError : mg "LivesError" = some (.ref A.LivesError)
  ex_LivesError : UL.ExF K A.LivesError A.lives_init
  g_NoPlace : mg "NoPlace" = some (.ref A.NoPlace)
  ex_NoPlace : UL.ExF K A.NoPlace A.lives_init
  xi_NoPlace : UL.ExI K A.NoPlace
  g_Expression : mg "Expression" = some (.ref A.Expression)
  cl_Expression : Cls K A.Expression
  ty_Expression : UL.TyF K A.Expression
  mk_Expression : Mk K A.Expression A.ex_init
  cr_Expression : ClX.CRead K A.Expression (.type "type")
  cv_Expression_MOST_NODES : ∃ u, ClX.CVal K A.Expression (.type "type") "MOST_NODES" (.int 20) u
  na_Expression__nodes : NoAttr K A.Expression "_nodes"
  na_Expression__firsts : NoAttr K A.Expression "_firsts"
  te_nn : PySem.W.exmOne K (.ref A.NoPlace) (.ref A.NoPlace) = some true
  si_nn : PySem.W.subIn K (.ref A.NoPlace) (.ref A.NoPlace) = some true
  c_DIGITS : mg "DIGITS" = some (.str "0123456789" A.t_DIGITS)
  c_LETTERS : mg "LETTERS" = some (.str "abcdefghijklmnopqrstuvwxyz" A.t_LETTERS)
  c_MOST_ARGUMENTS : mg "MOST_ARGUMENTS" = some (.int 4 A.t_MOST_ARGUMENTS)
  c_MOST_CHARACTERS : mg "MOST_CHARACTERS" = some (.int 8 A.t_MOST_CHARACTERS)
  c_OPERATIONS : mg "OPERATIONS" = some (.ref A.OPERATIONS)
  w_OPERATIONS : UL.WD K w A.OPERATIONS k_OPERATIONS
  c_RESERVED : mg "RESERVED" = some (.ref A.RESERVED)
  q_RESERVED : ∀ H : Hp, SqT K H A.RESERVED k_RESERVED
  o_RESERVED : ∃ o, K.lookup A.RESERVED = some o ∧ o.cls = .type "tuple"
section
variable {P : Program} {w : World} {K : PySem.W.Frag} {mg : Str → Option Value} {base : Heap} {A : Adr}
def spTake : Sp := fun vs H Q _ => ∃ d m, vs = [.ref d, .int m] ∧ H d = some (DrO d) ∧ 0 < m ∧ ∀ n : Int, 0 ≤ n → n < m → Q (.int n) H
theorem ok_take (T : Tx0 w K mg A) : FnOk P w K mg base CX0 1 A.take A.d_take p_take spTake := by
  refine T.F_take.ok sc_take (fun vs H Q E h => ?_) (fun cdv Ar outer s H vs Q E hr h => ?_)
  · obtain ⟨d, m, rfl, _⟩ := h
    rfl
  · obtain ⟨d, m, rfl, hd, hm, k⟩ := h
    refine ⟨_, (UL.pss_open 0 (pss_cons (ps_if (pt_cmpR op_eq (pe_callB call_len_seq (by rfl) T.m_len PySem.boot_len (pa_cons (pv 0) pa_nil)) pe_int (nomark _)) (pss_one (ps_ret (UL.pe_close pe_int))) pss_nil)
      (pss_one (ps_ret (UL.pe_close (pe_op op_mod (pe_callTy call_int1 (by rfl) T.m_int (by decide +kernel) (pa_cons (pe_bm PySem.F.plainAttrs_list PySem.F.slot_list_pop PySem.F.type_list_pop mt_popAt (pv 0) (pa_cons pe_int pa_nil)) pa_nil)) (pv 1))))))), ?_⟩
    refine ⟨d, rfl, hd, fun ns g => ?_⟩
    refine ⟨.ref d, rfl, d, _, rfl, .inl (SqL.of upd_same), rfl, _, rfl, ite2 (fun e => ?_) (fun e => ?_)⟩
    · refine ⟨d, ns, upd_same, g, ?_⟩
      show Q _ (upd (upd H d _) d _)
      rw [upd_back hd]
      exact k 0 (Int.le_refl 0) hm
    · obtain ⟨n, r, rfl⟩ : ∃ n r, ns = n :: r := by
        cases ns with
        | nil => exact absurd (decide_eq_true rfl) e
        | cons n r => exact ⟨n, r, rfl⟩
      obtain ⟨n0, n1, gr⟩ := good_tail g
      refine ⟨.ref d, rfl, .inl ⟨rfl, _, SqL.of upd_same⟩, d, _, 0, 0, .int n, rfl, rfl, upd_same, by decide, by decide, (by rw [List.length_map]; exact seq0 _), rfl, .inl ⟨n, rfl, .int m, rfl, n, m, rfl, rfl, hm, d, r, upd_same, gr, ?_⟩⟩
      rw [upd_upd, upd_upd, upd_id hd]
      exact k _ (Int.emod_nonneg _ (by omega)) (Int.emod_lt_of_pos _ hm)
def spDraws (K : PySem.W.Frag) : Sp := fun vs H Q _ => ∃ (a : Addr) (ns : List Int), vs = [.ref a] ∧ SqL K H a (ns.map V.int) ∧ ns.length ≤ 63 ∧ ∀ p, H p = none → Q (.ref p) (upd H p (DrO p))
def DrawsAt (H : Hp) (p : Addr) (i : Nat) (H' : Hp) : Prop := ∃ ms : List Int, H' = upd H p (.lst (ms.map V.int)) ∧ (∀ m ∈ ms, 0 ≤ m ∧ m < 1000003) ∧ ms.length ≤ i
theorem draws_add {H H' : Hp} {p : Addr} {i : Nat} (h : DrawsAt H p i H') (hi : i < 4000) {P : Prop} (k : ∀ ms : List V, H' p = some (.lst ms) → ms.length < sizeLine → (∀ x : Int, DrawsAt H p (i + 1) (upd H' p (.lst (ms ++ [.int (x % 1000003)])))) → P) : P := by
  obtain ⟨ms, rfl, g, hl⟩ := h
  refine k (ms.map V.int) upd_same (by rw [List.length_map]; exact Nat.lt_of_le_of_lt hl (Nat.lt_trans hi (by decide))) fun x => ⟨ms ++ [x % 1000003], ?_, good_add g emod_in, ?_⟩
  · rw [upd_upd, List.map_append]
    rfl
  · rw [List.length_append, List.length_singleton]
    omega
theorem ok_draws (T : Tx0 w K mg A) : FnOk P w K mg base CX0 1 A.draws A.d_draws p_draws (spDraws K) := by
  refine T.F_draws.ok sc_draws (fun vs H Q E h => ?_) (fun cdv Ar outer s H vs Q E hr h => ?_)
  · obtain ⟨a, ns, rfl, _⟩ := h
    rfl
  · obtain ⟨a, ns, rfl, hS, hlen, k⟩ := h
    refine ⟨_, (pss_cons (ps_set (i := 1) sc_draws.nd rfl (Or.inl rfl) (pe_lst pa_nil))
      (pss_cons (ps_for PassesOwn.never rfl (pi_range1 (by rfl) T.m_range (pa_cons (pe_callB (call_min2 rfl) (by rfl) T.m_min (by decide +kernel) (pa_cons pe_int (pa_cons (pe_callB call_len_seq (by rfl) T.m_len PySem.boot_len (pa_cons (pv 0) pa_nil)) pa_nil))) pa_nil)) (pg_name (i := 2) sc_draws.nd rfl (Or.inl rfl)) (pss_cons (ps_set (i := 3) sc_draws.nd rfl (Or.inl rfl) (pe_callTy call_int1 (by rfl) T.m_int (by decide +kernel) (pa_cons (pe_ix ix_list (pv 0) (pv 2) (fun _ _ => rfl)) pa_nil)))
        (pss_cons (ps_set (i := 4) sc_draws.nd rfl (Or.inl rfl) (pe_op op_mul pe_int (pe_callB call_abs (by rfl) T.m_abs (by decide +kernel) (pa_cons (pv 3) pa_nil))))
        (Evl.pss_cut (ps_if (pt_cmpR op_lt (pv 3) pe_int (nomark _)) (pss_one (ps_set (i := 4) sc_draws.nd rfl (Or.inl rfl) (pe_op op_add (pv 4) pe_int))) pss_nil)
        (pss_one (ps_if (pt_cmpR op_lt (pv 4) (pe_op op_mul pe_int (pe_op op_pow pe_int pe_int)) (nomark _)) (pss_one (ps_for PassesOwn.never rfl (pi_range1 (by rfl) T.m_range (pa_cons pe_int pa_nil)) (pg_name (i := 5) sc_draws.nd rfl (Or.inl rfl)) (pss_cons (ps_set (i := 6) sc_draws.nd rfl (Or.inl rfl) (pe_op op_mod (pe_callTy call_int1 (by rfl) T.m_int (by decide +kernel) (pa_cons (pe_op op_add (pe_op op_mul (pe_op op_add (pv 4) pe_int) (pe_op op_add pe_int (pe_op op_mul pe_int (pv 2)))) (pe_op op_mul pe_int (pv 5))) pa_nil)) pe_int))
            (pss_cons (ps_set (i := 6) sc_draws.nd rfl (Or.inl rfl) (pe_op op_mod (pe_callTy call_int1 (by rfl) T.m_int (by decide +kernel) (pa_cons (pe_op op_mul (pv 6) (pv 6)) pa_nil)) pe_int))
            (pss_one (ps_expr (pe_bm PySem.F.plainAttrs_list PySem.F.slot_list_append PySem.F.type_list_append mt_append (pv 1) (pa_cons (pe_op op_mod (pe_callTy call_int1 (by rfl) T.m_int (by decide +kernel) (pa_cons (pv 6) pa_nil)) pe_int) pa_nil)))))))) (pss_one (ps_for PassesOwn.never rfl (pi_range1 (by rfl) T.m_range (pa_cons pe_int pa_nil)) (pg_name (i := 5) sc_draws.nd rfl (Or.inl rfl)) (pss_one (ps_if (pt_cmpR op_gt (pv 4) pe_int (nomark _)) (pss_cons (ps_expr (pe_bm PySem.F.plainAttrs_list PySem.F.slot_list_append PySem.F.type_list_append mt_append (pv 1) (pa_cons (pe_op op_mod (pe_callTy call_int1 (by rfl) T.m_int (by decide +kernel) (pa_cons (pv 4) pa_nil)) pe_int) pa_nil)))
              (pss_one (ps_set (i := 4) sc_draws.nd rfl (Or.inl rfl) (pe_op op_fdiv (pv 4) pe_int)))) pss_nil))))))))))
      (pss_one (ps_ret (UL.pe_close (pv 1)))))), ?_⟩
    refine ⟨Nat.zero_le _, fun p hp => ?_⟩
    have eL : ∀ {j H'}, DrawsAt H p j H' → SqL K H' a (ns.map V.int) := fun ⟨ms, e, _⟩ => by
      rw [e]
      exact (same_upd hp).seq hS
    refine ⟨.ref a, rfl, a, _, rfl, .inl ((same_upd hp).seq hS), 63, _, rfl, ?_⟩
    have hm : (if (((ns.map V.int).length : Nat) : Int) < 63 then (((ns.map V.int).length : Nat) : Int) else 63) = (ns.length : Int) := by
      rw [List.length_map]
      split <;> omega
    rw [hm]
    refine ⟨(ns.length : Int), rfl, forR1 ⟨by omega, by omega⟩ (fun i σ H' => ∃ v2 v3 v4 v5 v6, σ = [some (.ref a), some (.ref p), v2, v3, v4, v5, v6] ∧ DrawsAt H p (60 * i) H') ⟨none, none, none, none, none, rfl, [], rfl, fun _ h => (nomatch h), Nat.le_refl _⟩ ?_ ?_⟩
    · rintro i σ' H' hi ⟨v2, v3, v4, v5, v6, rfl, hD⟩
      have hi' : i < ns.length := by omega
      -- cell, rest
      refine ⟨.ref a, rfl, .int (i : Int), rfl, a, _, _, .int ns[i], rfl, rfl, eL hD, atI_nat (int_get hi'), .inl ⟨ns[i], rfl, ?_⟩⟩
      refine ⟨.int ns[i], rfl, ns[i], rfl, 2, _, rfl, rfl, .inl ⟨by decide, by decide⟩, ?_⟩
      have h0 : 0 ≤ 2 * (if ns[i] < 0 then -ns[i] else ns[i]) := by split <;> omega
      refine ⟨fun σ2 H2 => ∃ r : Int, 0 ≤ r ∧ σ2 = [some (.ref a), some (.ref p), some (.int (i : Int)), some (.int ns[i]), some (.int r), v5, v6] ∧ H2 = H', ?_, ?_⟩
      · refine ⟨_, rfl, _, 0, rfl, rfl, _, rfl, ite2 (fun _ => ?_) (fun _ => ?_)⟩
        · exact ⟨_, rfl, _, 1, rfl, rfl, _, Int.le_add_one h0, rfl, rfl⟩
        · exact ⟨_, h0, rfl, rfl⟩
      · generalize ns[i] = c
        rintro σ2 H2 ⟨r, h0, rfl, rfl⟩
        refine ⟨.int r, rfl, 10, 18, rfl, rfl, ⟨by decide, by decide, by decide⟩, 2, _, rfl, rfl, .inl ⟨by decide, by decide⟩, r, _, rfl, rfl, _, rfl, ite2 (fun e => ?_) (fun e => ?_)⟩
        · have hr1 : r < 2 * 10 ^ 18 := of_decide_eq_true e
          refine ⟨4, rfl, forR1 ⟨by decide, by decide⟩ (fun t σ H' => ∃ v5 v6, σ = [some (.ref a), some (.ref p), some (.int (i : Int)), some (.int c), some (.int r), v5, v6] ∧ DrawsAt H p (60 * i + t) H') ⟨_, _, rfl, hD⟩ ?_ ?_⟩
          · rintro t σ' H' ht ⟨v5, v6, rfl, hD⟩
            have hi63 : (i : Int) < 63 := by omega
            refine ⟨_, rfl, r, 1, rfl, rfl, _, rfl, 2, _, rfl, rfl, .inl ⟨by decide, by decide⟩, 48271, _, rfl, rfl, _, _, rfl, rfl, .inr ⟨by omega, by omega⟩, _, rfl, 69621, _, rfl, rfl, .inl ⟨by decide, by decide⟩, _, _, rfl, rfl, .inl ⟨_, rfl, _, 2147483647, rfl, rfl, (show (0 : Int) < 2147483647 by decide), ?_⟩⟩
            have hx0 : 0 ≤ ((r + 1) * (48271 + 2 * (i : Int)) + 69621 * (t : Int)) % 2147483647 := Int.emod_nonneg _ (by decide)
            have hx1 : ((r + 1) * (48271 + 2 * (i : Int)) + 69621 * (t : Int)) % 2147483647 < 2147483647 := Int.emod_lt_of_pos _ (by decide)
            refine ⟨_, rfl, _, rfl, _, _, rfl, rfl, .inl ⟨Int.lt_of_lt_of_le (by decide) hx0, Int.lt_trans hx1 (by decide)⟩, .inl ⟨_, rfl, _, 2147483629, rfl, rfl, (show (0 : Int) < 2147483629 by decide), ?_⟩⟩
            refine draws_add hD (by omega) fun ms h1 h2 h3 => ?_
            refine ⟨.ref p, rfl, .inl ⟨rfl, _, SqL.of h1⟩, _, rfl, .inl ⟨_, rfl, _, 1000003, rfl, rfl, (show (0 : Int) < 1000003 by decide), p, ms, _, rfl, rfl, h1, h2, ?_⟩⟩
            exact ⟨_, _, rfl, h3 _⟩
          · rintro σ' H' ⟨v5, v6, rfl, ms, e, g, hl⟩
            exact ⟨_, _, _, _, _, rfl, ms, e, g, Nat.le_trans hl (by show 60 * i + 4 ≤ 60 * (i + 1); omega)⟩
        · refine ⟨60, rfl, forR1 ⟨by decide, by decide⟩ (fun t σ H' => ∃ r v5 v6, σ = [some (.ref a), some (.ref p), some (.int (i : Int)), some (.int c), some (.int r), v5, v6] ∧ DrawsAt H p (60 * i + t) H') ⟨_, _, _, rfl, hD⟩ ?_ ?_⟩
          · rintro t σ' H' ht ⟨r, v5, v6, rfl, hD⟩
            refine ⟨.int r, rfl, r, 0, rfl, rfl, _, rfl, ite2 (fun _ => ?_) (fun _ => ?_)⟩
            · refine draws_add hD (by omega) fun ms h1 h2 h3 => ?_
              refine ⟨.ref p, rfl, .inl ⟨rfl, _, SqL.of h1⟩, .int r, rfl, .inl ⟨r, rfl, r, 1000003, rfl, rfl, (show (0 : Int) < 1000003 by decide), p, ms, _, rfl, rfl, h1, h2, ?_⟩⟩
              refine ⟨.int r, rfl, r, 1000003, rfl, rfl, ⟨by decide, by decide⟩, ?_⟩
              exact ⟨_, _, _, rfl, h3 _⟩
            · obtain ⟨ms, e, g, hl⟩ := hD
              exact ⟨_, _, _, rfl, ms, e, g, Nat.le_succ_of_le hl⟩
          · rintro σ' H' ⟨r, v5, v6, rfl, ms, e, g, hl⟩
            exact ⟨_, _, _, _, _, rfl, ms, e, g, Nat.le_trans hl (by show 60 * i + 60 ≤ 60 * (i + 1); omega)⟩
    · rintro σ' H' ⟨v2, v3, v4, v5, v6, rfl, ms, rfl, g, hl⟩
      refine ⟨.ref p, rfl, p, ms, upd_same, ⟨g, Nat.le_trans hl (by omega)⟩, ?_⟩
      rw [upd_upd]
      exact k p hp
def kWords : List V := [V.str "fun", V.str "out", V.str "use", V.str "val", V.str "ref", V.str "set", V.str "block", V.str "if", V.str "else", V.str "loop", V.str "end", V.str "part", V.str "pick", V.str "then", V.str "dead"]
def NoStr (H : Hp) (v : V) : Prop := v = .non ∨ (∃ b, v = .bl b) ∨ (∃ i, v = .int i) ∨ (∃ a xs, v = .ref a ∧ (H a = some (.lst xs) ∨ H a = some (.tup xs))) ∨ ∃ a kvs, v = .ref a ∧ H a = some (.dK kvs)
def Th (H : Hp) (v : V) : Prop := (∃ z, v = .str z ∧ z.length ≤ 64) ∨ NoStr H v
theorem Th.mono {H H' : Hp} {v : V} (e : Ex H H') (h : Th H v) : Th H' v := by
  rcases h with h | h | h | h | ⟨a, xs, h, h1 | h1⟩ | ⟨a, kvs, h, h1⟩
  · exact .inl h
  · exact .inr (.inl h)
  · exact .inr (.inr (.inl h))
  · exact .inr (.inr (.inr (.inl h)))
  · exact .inr (.inr (.inr (.inr (.inl ⟨a, xs, h, .inl (e _ _ h1)⟩))))
  · exact .inr (.inr (.inr (.inr (.inl ⟨a, xs, h, .inr (e _ _ h1)⟩))))
  · exact .inr (.inr (.inr (.inr (.inr ⟨a, kvs, h, e _ _ h1⟩))))
def isS : V → Bool
  | .str _ => true
  | _ => false
theorem Th.isi {K : PySem.W.Frag} {H : Hp} {v : V} (h : Th H v) : ∃ t, TyX K H v t ∧ PySem.W.kitOne K t (.type "str") = some (isS v) := by
  rcases h with ⟨z, rfl, _⟩ | rfl | ⟨b, rfl⟩ | ⟨i, rfl⟩ | ⟨a, xs, rfl, h1 | h1⟩ | ⟨a, kvs, rfl, h1⟩
  · exact ⟨_, .base (.str z), kit_ty (r := true) (by decide +kernel)⟩
  · exact ⟨_, .base .non, kit_ty (r := false) (by decide +kernel)⟩
  · exact ⟨_, .base (.bl b), kit_ty (r := false) (by decide +kernel)⟩
  · exact ⟨_, .base (.int i), kit_ty (r := false) (by decide +kernel)⟩
  · exact ⟨_, .base (.lst h1), kit_ty (r := false) (by decide +kernel)⟩
  · exact ⟨_, .base (.tup h1), kit_ty (r := false) (by decide +kernel)⟩
  · exact ⟨_, .base (.dK h1), kit_ty (r := false) (by decide +kernel)⟩
def wordsS : List Str := ["fun", "out", "use", "val", "ref", "set", "block", "if", "else", "loop", "end", "part", "pick", "then", "dead"]
theorem kWords_eq : kWords = wordsS.map V.str := rfl
def alnum (c : Nat) : Bool := decide (c ∈ tl "abcdefghijklmnopqrstuvwxyz") || decide (c ∈ tl "0123456789")
def okS (z : Str) : Bool := decide (1 ≤ z.length) && decide (z.length ≤ 8) && (match tl z with | c :: _ => decide (c ∈ tl "abcdefghijklmnopqrstuvwxyz") | [] => false) && !inV (.str z) kWords && (tl z).all alnum
def nm : V → Bool
  | .str z => okS z
  | _ => false
theorem nm_no {v : V} (h : isS v = false) : nm v = false := by
  cases v <;> first | rfl | cases h
theorem isS_yes {v : V} (h : isS v = true) : ∃ z, v = .str z := by
  cases v with
  | str z => exact ⟨z, rfl⟩
  | _ => cases h
def spIsName : Sp := fun vs H Q _ => ∃ v, vs = [v] ∧ Th H v ∧ ∀ H', Ex H H' → Q (.bl (nm v)) H'
theorem ok_is_name (T : Tx0 w K mg A) : FnOk P w K mg base CX0 1 A.is_name A.d_is_name p_is_name spIsName := by
  refine T.F_is_name.ok sc_is_name (fun vs H Q E h => ?_) (fun cdv Ar outer s H vs Q E hr h => ?_)
  · obtain ⟨v, rfl, _⟩ := h
    rfl
  · obtain ⟨v, rfl, hv, k⟩ := h
    refine ⟨_, (pss_cons (ps_if (PW.pt (pw_or (pt_not (pt_val (pe_callB call_isi (by rfl) T.m_isinstance (by decide +kernel) (pa_cons (pv 0) (pa_cons (pe_bltn (v := .ty "str") (u := .type "str") (by rfl) T.m_str (by decide +kernel) rfl) pa_nil))))) (pw_or1 (pt_not (pt_chain op_le op_le pe_int (pe_callB call_len_str (by rfl) T.m_len PySem.boot_len (pa_cons (pv 0) pa_nil)) (pe_glob (v := .int 8) (by rfl) T.c_MOST_CHARACTERS ⟨_, rfl⟩)))))) (pss_one (ps_ret pe_bl)) pss_nil)
      (pss_cons (ps_if (PW.pt (pw_or (pt_cmpR op_notIn_sign (pe_ix ix_str (pv 0) pe_int (fun _ _ => rfl)) (pe_glob (v := .str "abcdefghijklmnopqrstuvwxyz") (by rfl) T.c_LETTERS ⟨_, rfl⟩) (by rfl)) (pw_or1 (pt_cmpR op_in_seq (pv 0) (pe_glob (v := .ref A.RESERVED) (by rfl) T.c_RESERVED rfl) (by rfl))))) (pss_one (ps_ret pe_bl)) pss_nil)
      (pss_one (ps_ret (pe_callB (cr_all rfl) (by rfl) T.m_all (by decide +kernel) (pa_cons (pe_lc (own := [("sign", 1)]) (g := gName 1) (tt := tYes) rfl sc_is_name.nd (pi_str (pv 0)) (blkOk_by (N := n_is_name) (sc := defScope s_is_name) (by decide +kernel)) (fun _ _ _ _ _ => pg_name (i := 1) sc_is_name.nd rfl (Or.inl rfl)) (fun _ _ _ _ _ => pts_nil) (fun _ _ _ _ _ => (pe_or (pe_cmpR op_in_sign (pv 1) (pe_glob (v := .str "abcdefghijklmnopqrstuvwxyz") (by rfl) T.c_LETTERS ⟨_, rfl⟩) (by rfl)) (pe_one (pe_cmpR op_in_sign (pv 1) (pe_glob (v := .str "0123456789") (by rfl) T.c_DIGITS ⟨_, rfl⟩) (by rfl)))))) pa_nil)))))), ?_⟩
    obtain ⟨t, ht, hk⟩ := hv.isi (K := K)
    refine ⟨v, rfl, v, _, t, _, _, rfl, .ty "str", ht, hk, _, rfl, ?_⟩
    cases hs : isS v with
    | false =>
      refine iteT ?_
      refine iteT ?_
      have q := k H (Ex.refl H)
      rw [nm_no hs] at q
      exact q
    | true =>
      obtain ⟨z, rfl⟩ := isS_yes hs
      have hz : z.length ≤ 64 := by
        rcases hv with ⟨z', e, h⟩ | e | ⟨_, e⟩ | ⟨_, e⟩ | ⟨_, _, e, _⟩ | ⟨_, _, e, _⟩
        · cases e
          exact h
        all_goals cases e
      refine iteF ?_
      refine ⟨_, rfl, z, rfl, sz_of (by omega), 1, _, rfl, rfl, _, rfl, ?_⟩
      have no : okS z = false → Q (V.bl false) H := fun e => by
        have q := k H (Ex.refl H)
        rw [show nm (V.str z) = false from e] at q
        exact q
      by_cases z1 : 1 ≤ z.length
      · rw [decide_eq_true (show (1 : Int) ≤ (z.length : Int) by omega)]
        refine iteT ?_
        refine ⟨_, 8, rfl, rfl, _, rfl, ?_⟩
        by_cases z8 : z.length ≤ 8
        · rw [decide_eq_true (show (z.length : Int) ≤ 8 by omega)]
          refine iteF ?_
          obtain ⟨c, r, hcr⟩ : ∃ c r, tl z = c :: r := by
            cases e : tl z with
            | nil =>
              rw [len_tl, e] at z1
              exact absurd z1 (by decide)
            | cons c r => exact ⟨c, r, rfl⟩
          refine ⟨_, rfl, z, 0, c, rfl, rfl, sz_of (by omega), atI_nat (j := 0) (by show (tl z)[0]? = _; rw [hcr]; rfl), c, _, rfl, rfl, _, rfl, ?_⟩
          by_cases hc : c ∈ tl "abcdefghijklmnopqrstuvwxyz"
          · rw [decide_eq_true hc]
            refine iteF ?_
            refine ⟨_, rfl, A.RESERVED, k_RESERVED, rfl, .inr (T.q_RESERVED _), rfl, by decide, _, rfl, ?_⟩
            show if inV (.str z) k_RESERVED = true then _ else _
            cases hi : inV (.str z) k_RESERVED with
            | true =>
              refine iteT ?_
              refine no ?_
              unfold okS
              rw [show inV (.str z) kWords = true from hi, Bool.and_eq_false_iff]
              exact .inl (Bool.and_eq_false_iff.mpr (.inr rfl))
            | false =>
              refine iteF ?_
              refine ⟨_, rfl, z, rfl, fun D hD => ?_⟩
              refine lc_str (f := fun c => V.bl (alnum c)) (by omega) hD (fun _ => rfl) (fun c H' _ Q' q => ?_) ?_
              · refine ⟨_, rfl, c, _, rfl, rfl, _, rfl, ite2 (fun h => ?_) (fun h => ?_)⟩
                · have e : alnum c = true := by
                    unfold alnum
                    rw [show decide (c ∈ tl "abcdefghijklmnopqrstuvwxyz") = true from h, Bool.true_or]
                  rw [e] at q
                  exact q
                · refine ⟨_, rfl, c, _, rfl, rfl, ?_⟩
                  have e : alnum c = decide (c ∈ tl "0123456789") := by
                    unfold alnum
                    rw [show decide (c ∈ tl "abcdefghijklmnopqrstuvwxyz") = false from by simpa using h, Bool.false_or]
                  rw [e] at q
                  exact q
              · refine ⟨D, (tl z).map alnum, rfl, SqL.of (by rw [upd_same, List.map_map]; rfl), ?_⟩
                have e : okS z = ((tl z).map alnum).all id := by
                  unfold okS
                  rw [decide_eq_true z1, decide_eq_true z8, hcr, show inV (.str z) kWords = false from hi, List.all_map]
                  show (decide (c ∈ tl "abcdefghijklmnopqrstuvwxyz") && true && _) = _
                  rw [decide_eq_true hc]
                  rfl
                have q := k _ (Ex.new hD (o := .lst ((tl z).map fun c => V.bl (alnum c))))
                rw [show nm (V.str z) = ((tl z).map alnum).all id from e] at q
                exact q
          · rw [decide_eq_false hc]
            refine iteT ?_
            refine no ?_
            unfold okS
            rw [hcr]
            show (_ && decide (c ∈ tl "abcdefghijklmnopqrstuvwxyz") && _ && _) = false
            rw [decide_eq_false hc, Bool.and_false, Bool.false_and, Bool.false_and]
        · rw [decide_eq_false (show ¬ (z.length : Int) ≤ 8 by omega)]
          refine iteT ?_
          refine no ?_
          unfold okS
          rw [decide_eq_false z8, Bool.and_false, Bool.false_and, Bool.false_and, Bool.false_and]
      · rw [decide_eq_false (show ¬ (1 : Int) ≤ (z.length : Int) by omega)]
        refine iteF ?_
        refine ⟨_, rfl, ?_⟩
        refine iteT ?_
        refine no ?_
        unfold okS
        rw [decide_eq_false z1, Bool.false_and, Bool.false_and, Bool.false_and, Bool.false_and]
def tl36 : List Nat := tl "abcdefghijklmnopqrstuvwxyz0123456789"
theorem tl36_eq : tl36 = tl "abcdefghijklmnopqrstuvwxyz" ++ tl "0123456789" := by decide +kernel
theorem alnum36 (c : Nat) : alnum c = decide (c ∈ tl36) := by
  unfold alnum
  rw [tl36_eq]
  by_cases h1 : c ∈ tl "abcdefghijklmnopqrstuvwxyz" <;> by_cases h2 : c ∈ tl "0123456789" <;> simp [h1, h2]
theorem apart : ∀ c ∈ tl "abcdefghijklmnopqrstuvwxyz", c ∉ tl "0123456789" := by decide +kernel
theorem alnum_lt : ∀ c : Nat, alnum c = true → c < 0x110000 := fun c h => by
  rw [alnum36] at h
  have h1 : c ∈ tl36 := of_decide_eq_true h
  have h2 : ∀ c ∈ tl36, c < 0x110000 := by decide +kernel
  exact h2 c h1
theorem okS_str {z : Str} (h : okS z = true) : PyData.strOk z = true := by
  unfold okS at h
  rw [Bool.and_eq_true] at h
  unfold PyData.strOk
  rw [← Array.all_toList, List.all_eq_true]
  exact fun c hc => decide_eq_true (alnum_lt c (List.all_eq_true.mp h.2 c hc))
def spCopied : Sp := fun vs H Q _ => ∃ v, vs = [v, .int 4] ∧ flatV v = true ∧ Q v H
theorem ok_copied (T : Tx0 w K mg A) : FnOk P w K mg base CX0 1 A.copied A.d_copied p_copied spCopied := by
  refine T.F_copied.ok sc_copied (fun vs H Q E h => ?_) (fun cdv Ar outer s H vs Q E hr h => ?_)
  · obtain ⟨v, rfl, _⟩ := h
    rfl
  · obtain ⟨v, rfl, hv, k⟩ := h
    refine ⟨_, (pss_cons (ps_if (pt_cmpR op_eq (pv 1) pe_int (nomark _)) (pss_one (ps_ret (pv 0))) pss_nil)
      (pss_cons (ps_if (pt_val (pe_callB call_isi (by rfl) T.m_isinstance (by decide +kernel) (pa_cons (pv 0) (pa_cons (pe_bltn (v := .ty "list") (u := .type "list") (by rfl) T.m_list (by decide +kernel) rfl) pa_nil)))) (pss_one ps_never) pss_nil)
      (pss_cons (ps_if (pt_val (pe_callB call_isi (by rfl) T.m_isinstance (by decide +kernel) (pa_cons (pv 0) (pa_cons (pe_bltn (v := .ty "tuple") (u := .type "tuple") (by rfl) T.m_tuple (by decide +kernel) rfl) pa_nil)))) (pss_one ps_never) pss_nil)
      (pss_cons (ps_if (pt_val (pe_callB call_isi (by rfl) T.m_isinstance (by decide +kernel) (pa_cons (pv 0) (pa_cons (pe_bltn (v := .ty "dict") (u := .type "dict") (by rfl) T.m_dict (by decide +kernel) rfl) pa_nil)))) (pss_one ps_never) pss_nil)
      (pss_one (ps_ret (pv 0))))))), ?_⟩
    obtain ⟨t, ht, h1, h2, h3⟩ := flat_ty (K := K) (H := H) hv
    refine ⟨_, rfl, rfl, _, rfl, iteF ?_⟩
    refine ⟨_, rfl, v, _, t, _, _, rfl, .ty "list", ht, h1, _, rfl, iteF ?_⟩
    refine ⟨_, rfl, v, _, t, _, _, rfl, .ty "tuple", ht, h2, _, rfl, iteF ?_⟩
    refine ⟨_, rfl, v, _, t, _, _, rfl, .ty "dict", ht, h3, _, rfl, iteF ?_⟩
    exact ⟨v, rfl, k⟩
theorem ok_lives_init (T : Tx0 w K mg A) : FnOk P w K mg base CX0 2 A.lives_init A.d_lives_init p_lives_init (UL.spWhat K) := by
  refine T.F_lives_init.ok sc_lives_init (fun vs H Q E h => ?_) (fun cdv Ar outer s H vs Q E hr h => ?_)
  · obtain ⟨a, C, v, rfl, _⟩ := h
    rfl
  · obtain ⟨a, C, v, rfl, hv, ha, hC, hw, k⟩ := h
    obtain ⟨ds, hvc, hbc⟩ := T.F_copied.binds1 (ps := p_copied) 1 0 (by simp) rfl (fun T' kV doc pm an cdv ct us its h1 h2 => by
      match us, h1, its, h2 with
      | [u], _, [d], _ => exact ⟨_, rfl, rfl⟩)
    refine ⟨_, (pss_one (ps_ost (pv 0) (pe_call (ok_copied T) (hr.mono (by decide)) (by rfl) T.g_copied T.F_copied.kp hbc hvc pass0 (pa_cons (pv 1) pa_nil)))), ?_⟩
    refine ⟨v, rfl, v, rfl, hv, _, rfl, a, C, rfl, hC, hw, .inl ⟨ha, fun dx hd hne => ?_⟩⟩
    exact k dx hd hne
/-! ### drawn names -/
def tlL : List Nat := tl "abcdefghijklmnopqrstuvwxyz"
def tlD : List Nat := tl "0123456789"
structure Wd (z : Str) : Prop where
  first : ∃ c r, tl z = c :: r ∧ c ∈ tlL
  all : ∀ c ∈ tl z, alnum c = true
  len : 2 ≤ z.length ∧ z.length ≤ 8
  dig : ∃ c ∈ tl z, c ∈ tlD
theorem alL {c : Nat} (h : c ∈ tlL) : alnum c = true := by
  unfold alnum
  rw [show decide (c ∈ tl "abcdefghijklmnopqrstuvwxyz") = true from decide_eq_true h, Bool.true_or]
theorem alD {c : Nat} (h : c ∈ tlD) : alnum c = true := by
  unfold alnum
  rw [show decide (c ∈ tl "0123456789") = true from decide_eq_true h, Bool.or_true]
theorem nodig : ∀ w ∈ wordsS, ∀ c ∈ tl w, c ∉ tlD := by decide +kernel
theorem Wd.ok {z : Str} (h : Wd z) : okS z = true := by
  obtain ⟨⟨c, r, hcr, hc⟩, h2, ⟨h3, h4⟩, d, hd, hdd⟩ := h
  have hi : inV (.str z) kWords = false := by
    unfold inV
    rw [List.any_eq_false]
    intro y hy
    rw [kWords_eq] at hy
    obtain ⟨w, hw, rfl⟩ := List.mem_map.mp hy
    intro e
    have e1 : w = z := by
      have : (w == z) = true := e
      simpa using this
    subst e1
    exact nodig w hw d hd hdd
  unfold okS
  rw [hi, List.all_eq_true.mpr h2, hcr, decide_eq_true (show 1 ≤ z.length by omega), decide_eq_true h4]
  show (true && true && decide (c ∈ tl "abcdefghijklmnopqrstuvwxyz") && !false && true) = true
  rw [show decide (c ∈ tl "abcdefghijklmnopqrstuvwxyz") = true from decide_eq_true hc]
  rfl
theorem dig_mem {c : Nat} (h : 48 ≤ c ∧ c ≤ 57) : c ∈ tlD := by
  have : c = 48 ∨ c = 49 ∨ c = 50 ∨ c = 51 ∨ c = 52 ∨ c = 53 ∨ c = 54 ∨ c = 55 ∨ c = 56 ∨ c = 57 := by omega
  rcases this with h | h | h | h | h | h | h | h | h | h <;> (subst h; decide +kernel)
theorem num_ok {k : Int} (h0 : 0 ≤ k) (h1 : k < 100) : (∀ c ∈ tl (Str.ofString (toString k)), c ∈ tlD) ∧ 1 ≤ (tl (Str.ofString (toString k))).length ∧ (tl (Str.ofString (toString k))).length ≤ 2 := by
  obtain ⟨n, rfl⟩ := Int.eq_ofNat_of_zero_le h0
  rw [tl_num]
  refine ⟨fun c hc => dig_mem (numL_digits n c hc), ?_, numL_len (by decide) (by omega)⟩
  have := numL_ne n
  cases e : numL n with
  | nil => exact absurd e this
  | cons a r => show 1 ≤ r.length + 1; omega
theorem wd_num {c : Nat} {k : Int} (hc : c ∈ tlL) (h0 : 0 ≤ k) (h1 : k < 100) : Wd ((⟨#[c]⟩ : Str) ++ Str.ofString (toString k)) ∧ ((⟨#[c]⟩ : Str) ++ Str.ofString (toString k)).length ≤ 3 := by
  obtain ⟨n1, n2, n3⟩ := num_ok h0 h1
  have e : tl ((⟨#[c]⟩ : Str) ++ Str.ofString (toString k)) = c :: tl (Str.ofString (toString k)) := by rw [tl_append]; rfl
  have el : ((⟨#[c]⟩ : Str) ++ Str.ofString (toString k)).length = (tl (Str.ofString (toString k))).length + 1 := by rw [len_tl, e]; rfl
  refine ⟨⟨⟨c, _, e, hc⟩, fun d hd => ?_, by omega, ?_⟩, by omega⟩
  · rw [e] at hd
    rcases List.mem_cons.mp hd with rfl | hd
    · exact alL hc
    · exact alD (n1 d hd)
  · cases q : tl (Str.ofString (toString k)) with
    | nil =>
      rw [q] at n2
      exact absurd n2 (by decide)
    | cons a r =>
      exact ⟨a, by rw [e, q]; exact List.mem_cons_of_mem _ List.mem_cons_self, n1 a (by rw [q]; exact List.mem_cons_self)⟩
theorem wd_back {z y : Str} (h : Wd z) (hy : ∀ c ∈ tl y, c ∈ tlL) (hl : z.length + y.length ≤ 8) : Wd (z ++ y) := by
  obtain ⟨⟨c, r, hcr, hc⟩, h2, h3, d, hd, hdd⟩ := h
  have el : (z ++ y).length = z.length + y.length := by rw [len_tl, tl_append, List.length_append, ← len_tl, ← len_tl]
  refine ⟨⟨c, r ++ tl y, by rw [tl_append, hcr]; rfl, hc⟩, fun q hq => ?_, by omega, d, by rw [tl_append]; exact List.mem_append_left _ hd, hdd⟩
  rw [tl_append] at hq
  rcases List.mem_append.mp hq with hq | hq
  · exact h2 q hq
  · exact alL (hy q hq)
theorem wd_front {z : Str} {c : Nat} (h : Wd z) (hc : c ∈ tlL) (hl : z.length ≤ 7) : Wd ((⟨#[c]⟩ : Str) ++ z) := by
  obtain ⟨_, h2, h3, d, hd, hdd⟩ := h
  have e : tl ((⟨#[c]⟩ : Str) ++ z) = c :: tl z := by rw [tl_append]; rfl
  have el : ((⟨#[c]⟩ : Str) ++ z).length = z.length + 1 := by rw [len_tl, e, List.length_cons, ← len_tl]
  refine ⟨⟨c, _, e, hc⟩, fun q hq => ?_, by omega, d, by rw [e]; exact List.mem_cons_of_mem _ hd, hdd⟩
  rw [e] at hq
  rcases List.mem_cons.mp hq with rfl | hq
  · exact alL hc
  · exact h2 q hq
theorem cut_q {z : Str} (h : z.length ≤ 8) : (∀ c ∈ tl (cutS "qqqqqqqq" (some (z.length : Int)) none), c ∈ tlL) ∧ (cutS "qqqqqqqq" (some (z.length : Int)) none).length = 8 - z.length := by
  have : ∀ n : Nat, n ≤ 8 → (∀ c ∈ tl (cutS "qqqqqqqq" (some (n : Int)) none), c ∈ tlL) ∧ (cutS "qqqqqqqq" (some (n : Int)) none).length = 8 - n := by
    intro n hn
    have hn : n = 0 ∨ n = 1 ∨ n = 2 ∨ n = 3 ∨ n = 4 ∨ n = 5 ∨ n = 6 ∨ n = 7 ∨ n = 8 := by omega
    rcases hn with h | h | h | h | h | h | h | h | h <;> (subst h; decide +kernel)
  exact this _ h
def plainS : List Str := ["a", "x", "new", "b", "user", "copy", "ends", "z", "elses", "n", "dea", "deads", "pic", "thens", "funs", "y"]
theorem plain_ok : ∀ z ∈ plainS, okS z = true := by decide +kernel
theorem okS_len {z : Str} (h : okS z = true) : z.length ≤ 8 := by
  unfold okS at h
  rw [Bool.and_eq_true, Bool.and_eq_true, Bool.and_eq_true, Bool.and_eq_true] at h
  exact of_decide_eq_true h.1.1.1.2
def spName : Sp := fun vs H Q _ => ∃ d k, vs = [.ref d, .int k] ∧ H d = some (DrO d) ∧ 0 ≤ k ∧ k < 100 ∧ ∀ z H', okS z = true → Ex H H' → Q (.str z) H'
theorem ok_name (T : Tx0 w K mg A) : FnOk P w K mg base CX0 2 A.name A.d_name p_name spName := by
  refine T.F_name.ok sc_name (fun vs H Q E h => ?_) (fun cdv Ar outer s H vs Q E hr h => ?_)
  · obtain ⟨d, k, rfl, _⟩ := h
    rfl
  · obtain ⟨d, k, rfl, hd, k0, k1, q⟩ := h
    refine ⟨_, (pss_cons (ps_set (i := 2) sc_name.nd rfl (Or.inl rfl) pe_str)
      (pss_cons (ps_set (i := 3) sc_name.nd rfl (Or.inl rfl) (pe_lst (pa_cons pe_str (pa_cons pe_str (pa_cons pe_str (pa_cons pe_str (pa_cons pe_str (pa_cons pe_str (pa_cons pe_str (pa_cons pe_str (pa_cons pe_str (pa_cons pe_str (pa_cons pe_str (pa_cons pe_str (pa_cons pe_str (pa_cons pe_str (pa_cons pe_str (pa_cons pe_str pa_nil))))))))))))))))))
      (pss_cons (ps_set (i := 4) sc_name.nd rfl (Or.inl rfl) (pe_call (ok_take T) (hr.mono (by decide)) (by rfl) T.g_take T.F_take.kp T.b_take .nil pass0 (pa_cons (pv 0) (pa_cons pe_int pa_nil))))
      (Evl.pss_cut (ps_if (PW.pt (pw_and (pt_cmpR op_eq (pv 4) pe_int (nomark _)) (pw_and1 (pt_cmpR op_lt (pv 1) pe_int (nomark _))))) (pss_one (ps_ret (pe_ix ix_list (pv 3) (pv 1) (fun _ _ => rfl)))) pss_nil)
      (pss_cons (ps_set (i := 5) sc_name.nd rfl (Or.inl rfl) (pe_op op_add_str (pe_ix ix_str (pv 2) (pe_call (ok_take T) (hr.mono (by decide)) (by rfl) T.g_take T.F_take.kp T.b_take .nil pass0 (pa_cons (pv 0) (pa_cons pe_int pa_nil))) (fun _ _ => rfl)) (pe_callTy call_str_int (by rfl) T.m_str (by decide +kernel) (pa_cons (pv 1) pa_nil))))
      (Evl.pss_cut (ps_if (pt_cmpR op_eq (pv 4) pe_int (nomark _)) (pss_one (ps_set (i := 5) sc_name.nd rfl (Or.inl rfl) (pe_op op_add_str pe_str (pe_callTy call_str_int (by rfl) T.m_str (by decide +kernel) (pa_cons (pv 1) pa_nil))))) pss_nil)
      (Evl.pss_cut (ps_if (pt_cmpR op_eq (pv 4) pe_int (nomark _)) (pss_one (ps_set (i := 5) sc_name.nd rfl (Or.inl rfl) (pe_op op_add_str (pv 5) (pe_ix ix_str (pv 2) (pe_call (ok_take T) (hr.mono (by decide)) (by rfl) T.g_take T.F_take.kp T.b_take .nil pass0 (pa_cons (pv 0) (pa_cons pe_int pa_nil))) (fun _ _ => rfl))))) pss_nil)
      (Evl.pss_cut (ps_if (pt_cmpR op_eq (pv 4) pe_int (nomark _)) (pss_one (ps_set (i := 5) sc_name.nd rfl (Or.inl rfl) (pe_op op_add_str (pe_ix ix_str (pv 2) (pe_call (ok_take T) (hr.mono (by decide)) (by rfl) T.g_take T.F_take.kp T.b_take .nil pass0 (pa_cons (pv 0) (pa_cons pe_int pa_nil))) (fun _ _ => rfl)) (pv 5)))) pss_nil)
      (Evl.pss_cut (ps_if (pt_cmpR op_eq (pv 4) pe_int (nomark _)) (pss_one (ps_set (i := 5) sc_name.nd rfl (Or.inl rfl) (pe_op op_add_str (pv 5) (pe_slice sl_str pe_str (po_some (pe_callB call_len_str (by rfl) T.m_len PySem.boot_len (pa_cons (pv 5) pa_nil))) po_none)))) pss_nil)
      (pss_one (ps_ret (pv 5)))))))))))), ?_⟩
    refine ⟨sz_of (by show 16 ≤ 100000; decide), fun p hp => ?_⟩
    have e1 := Ex.new (o := .lst (plainS.map V.str)) hp
    have hd1 := e1 _ _ hd
    refine ⟨_, rfl, d, _, rfl, hd1, by decide, fun s s0 s1 => ?_⟩
    have hp1 : upd H p (.lst (plainS.map V.str)) p = some (.lst (plainS.map V.str)) := upd_same
    revert hp1 e1 hd1
    show Ex H (upd H p (.lst (plainS.map V.str))) → upd H p (.lst (plainS.map V.str)) d = some (DrO d) → upd H p (.lst (plainS.map V.str)) p = some (.lst (plainS.map V.str)) → tCut _ _ _ _ (upd H p (.lst (plainS.map V.str)))
    generalize upd H p (.lst (plainS.map V.str)) = H1
    intro e1 hd1 hp1
    let S0 : Option V → L2.St := fun v5 => [some (.ref d), some (.int k), some (.str "abcdefghijklmnopqrstuvwxyz"), some (.ref p), some (.int s), v5]
    refine ⟨fun σ' H' => σ' = S0 none ∧ H' = H1, ?_, ?_⟩
    · refine ⟨_, rfl, rfl, _, rfl, ite2 (fun _ => ?_) (fun _ => iteF ⟨rfl, rfl⟩)⟩
      refine ⟨_, rfl, k, 16, rfl, rfl, _, rfl, ite2 (fun h => ?_) (fun _ => ⟨rfl, rfl⟩)⟩
      have hk : k < 16 := of_decide_eq_true h
      obtain ⟨z, hz, hm⟩ := at_in (xs := plainS) k0 (show k < 16 from hk)
      refine ⟨_, rfl, _, rfl, p, _, k, .str z, rfl, rfl, SqL.of hp1, ?_, q z H1 (plain_ok z hm) e1⟩
      obtain ⟨m, rfl⟩ := Int.eq_ofNat_of_zero_le k0
      have hm2 : m < plainS.length := by show m < 16; omega
      rw [atI_nat (List.getElem?_eq_getElem hm2)] at hz
      rw [← Option.some.inj hz]
      refine atI_nat ?_
      rw [List.getElem?_map, List.getElem?_eq_getElem hm2]
      rfl
    rintro σ' H' ⟨rfl, rfl⟩
    have one : ∀ c : Nat, (⟨#[c]⟩ : Str).length = 1 := fun _ => rfl
    have lg : k.natAbs.log2 < 1920 := by
      have h1 : k.natAbs < 2 ^ 1920 := Nat.lt_of_lt_of_le (show k.natAbs < 128 by omega) (by decide +kernel)
      by_cases hz : k.natAbs = 0
      · rw [hz]
        decide
      · exact (Nat.log2_lt hz).mpr h1
    have szn : ∀ c : Nat, (⟨#[c]⟩ : Str).length + (Str.ofString (toString k)).length ≤ sizeLine := fun c => sz_of (by have := (num_ok k0 k1).2.2; rw [one, len_tl]; omega)
    -- word = letter + str(k)
    refine ⟨_, rfl, _, rfl, d, _, rfl, hd1, by decide, fun n n0 n1 => ?_⟩
    obtain ⟨c, hc, hm⟩ := at_in (xs := tl "abcdefghijklmnopqrstuvwxyz") n0 (show n < 26 from n1)
    refine ⟨_, n, c, rfl, rfl, by decide, hc, _, rfl, k, rfl, lg, _, _, rfl, rfl, szn c, ?_⟩
    obtain ⟨w0, l0⟩ := wd_num (c := c) hm k0 k1
    generalize ((⟨#[c]⟩ : Str) ++ Str.ofString (toString k)) = z0 at w0 l0
    -- shape 1
    refine ⟨fun σ' Hn => ∃ z, Wd z ∧ z.length ≤ 3 ∧ σ' = S0 (some (.str z)) ∧ Hn = H', ?_, ?_⟩
    · refine ⟨_, rfl, rfl, _, rfl, ite2 (fun _ => ?_) (fun _ => ⟨z0, w0, l0, rfl, rfl⟩)⟩
      obtain ⟨w1, l1⟩ := wd_num (c := 110) (by decide +kernel) k0 k1
      exact ⟨_, rfl, k, rfl, lg, _, _, rfl, rfl, szn 110, _, w1, l1, rfl, rfl⟩
    rintro σ' Hb ⟨z1, w1, l1, rfl, rfl⟩
    -- shape 2
    refine ⟨fun σ' H2 => ∃ z, Wd z ∧ z.length ≤ 4 ∧ σ' = S0 (some (.str z)) ∧ H2 = Hb, ?_, ?_⟩
    · refine ⟨_, rfl, rfl, _, rfl, ite2 (fun _ => ?_) (fun _ => ⟨z1, w1, by omega, rfl, rfl⟩)⟩
      refine ⟨_, rfl, _, rfl, _, rfl, d, _, rfl, hd1, by decide, fun n n0 n1 => ?_⟩
      obtain ⟨c, hc, hm⟩ := at_in (xs := tl "abcdefghijklmnopqrstuvwxyz") n0 (show n < 26 from n1)
      refine ⟨_, n, c, rfl, rfl, by decide, hc, _, _, rfl, rfl, sz_of (by rw [one]; omega), _, wd_back w1 (y := ⟨#[c]⟩) (fun q hq => ?_) (by rw [one]; omega), ?_, rfl, rfl⟩
      · rw [List.mem_singleton.mp (show q ∈ [c] from hq)]
        exact hm
      · rw [len_tl, tl_append, List.length_append, ← len_tl, ← len_tl, one]
        omega
    rintro σ' H2 ⟨z2, w2, l2, rfl, rfl⟩
    -- shape 3
    refine ⟨fun σ' H3 => ∃ z, Wd z ∧ z.length ≤ 5 ∧ σ' = S0 (some (.str z)) ∧ H3 = H2, ?_, ?_⟩
    · refine ⟨_, rfl, rfl, _, rfl, ite2 (fun _ => ?_) (fun _ => ⟨z2, w2, by omega, rfl, rfl⟩)⟩
      refine ⟨_, rfl, _, rfl, d, _, rfl, hd1, by decide, fun n n0 n1 => ?_⟩
      obtain ⟨c, hc, hm⟩ := at_in (xs := tl "abcdefghijklmnopqrstuvwxyz") n0 (show n < 26 from n1)
      refine ⟨_, n, c, rfl, rfl, by decide, hc, _, rfl, _, _, rfl, rfl, sz_of (by rw [one]; omega), _, wd_front w2 hm (by omega), ?_, rfl, rfl⟩
      rw [len_tl, tl_append, List.length_append, ← len_tl, ← len_tl, one]
      omega
    rintro σ' H3 ⟨z3, w3, l3, rfl, rfl⟩
    -- shape 4
    refine ⟨fun σ' H4 => ∃ z, Wd z ∧ σ' = S0 (some (.str z)) ∧ H4 = H3, ?_, ?_⟩
    · refine ⟨_, rfl, rfl, _, rfl, ite2 (fun _ => ?_) (fun _ => ⟨z3, w3, rfl, rfl⟩)⟩
      obtain ⟨q1, q2⟩ := cut_q (z := z3) (by omega)
      refine ⟨_, rfl, _, rfl, z3, rfl, sz_of (by omega), _, rfl, _, rfl, by decide, _, _, rfl, rfl, sz_of (by omega), _, wd_back w3 q1 (by omega), rfl, rfl⟩
    rintro σ' H4 ⟨z4, w4, rfl, rfl⟩
    exact ⟨_, rfl, q z4 _ w4.ok e1⟩
end
end K11

set_option Elab.async false
set_option linter.all false
set_option maxRecDepth 100000
namespace K11
open PySem PySem.Spec PyProof.Rows L2 Evl TL UL StX
section
variable {P : Program} {w : World} {K : PySem.W.Frag} {mg : Str → Option Value} {base : Heap} {A : Adr}
/-! ### the reader -/
theorem cut_seg {z : Str} {s e : Nat} (h1 : s ≤ e) (h2 : e ≤ z.length) : cutS z (some (s : Int)) (some (e : Int)) = ofL (((tl z).take e).drop s) := by
  have hl : z.cps.toList.length = z.length := by simp [Str.length]
  unfold cutS
  rw [HT.sIx_nat, HT.sIx_nat, Nat.min_eq_left (show s ≤ z.length by omega), Nat.min_eq_left h2, ← List.drop_take]
  rfl
theorem cut_tail {z : Str} {s : Nat} (h1 : s ≤ z.length) : cutS z (some (s : Int)) none = ofL ((tl z).drop s) := by
  have hl : z.cps.toList.length = z.length := by simp [Str.length]
  unfold cutS
  rw [HT.sIx_nat, HT.sIx_none, Nat.min_eq_left h1, List.take_of_length_le (by rw [List.length_drop]; omega)]
  rfl
theorem sgn_eq (c d : Nat) : decide (V.str ⟨#[c]⟩ = V.str ⟨#[d]⟩) = decide (c = d) := decide_eq_decide.mpr ⟨fun h => by injection h with h; injection h with h; simpa using h, fun h => by rw [h]⟩
theorem piece_eq (l : List Nat) (d : Nat) : decide (V.str (ofL l) = V.str ⟨#[d]⟩) = decide (l = [d]) := decide_eq_decide.mpr ⟨fun h => by injection h with h; injection h with h; simpa using h, fun h => by rw [h]; rfl⟩
def spCut : Sp := fun vs H Q _ => ∃ z : Str, vs = [.str z] ∧ z.length ≤ 2000 ∧ ∀ p H', Ex H H' → H' p = some (.lst ((cutGo [] (tl z)).map fun l => V.str (ofL l))) → H p = none → Q (.ref p) H'
/-- where it is -/
structure CutAt (H H' : Hp) (p : Addr) (z : Str) (i st : Nat) (P : List (List Nat)) : Prop where
  ex : Ex H H'
  at_ : H' p = some (.lst (P.map fun l => V.str (ofL l)))
  le : st ≤ i
  eq : P ++ cutGo (((tl z).take i).drop st) ((tl z).drop i) = cutGo [] (tl z)
  len : P.length ≤ 2 * i
theorem ok_cut (T : Tx0 w K mg A) : FnOk P w K mg base CX0 1 A.cut A.d_cut p_cut spCut := by
  refine T.F_cut.ok sc_cut (fun vs H Q E h => ?_) (fun cdv Ar outer s H vs Q E hr h => ?_)
  · obtain ⟨z, rfl, _⟩ := h
    rfl
  · obtain ⟨z, rfl, hz, k⟩ := h
    refine ⟨_, (pss_cons (ps_set (i := 1) sc_cut.nd rfl (Or.inl rfl) (pe_lst pa_nil))
      (pss_cons (ps_set (i := 2) sc_cut.nd rfl (Or.inl rfl) pe_int)
      (pss_cons (ps_for PassesOwn.never rfl (UL.pi_enumS (by rfl) T.m_enumerate (pa_cons (pv 0) pa_nil)) (pg_tup (n := 2) rfl (pgs_cons (pg_name (i := 3) sc_cut.nd rfl (Or.inl rfl)) (pgs_cons (pg_name (i := 4) sc_cut.nd rfl (Or.inl rfl)) pgs_nil))) (pss_one (ps_if (pt_cmpR op_eq (pv 4) pe_str (nomark _)) (pss_cons (ps_expr (pe_bm PySem.F.plainAttrs_list PySem.F.slot_list_append PySem.F.type_list_append mt_append (pv 1) (pa_cons (pe_slice sl_str (pv 0) (po_some (pv 2)) (po_some (pe_op op_add (pv 3) pe_int))) pa_nil)))
          (pss_one (ps_set (i := 2) sc_cut.nd rfl (Or.inl rfl) (pe_op op_add (pv 3) pe_int)))) (pss_one (ps_if (PW.pt (pw_or (pt_cmpR op_eq (pv 4) pe_str (nomark _)) (pw_or1 (pt_cmpR op_eq (pv 4) pe_str (nomark _))))) (Evl.pss_cut (ps_if (pt_cmpR op_lt (pv 2) (pv 3) (nomark _)) (pss_one (ps_expr (pe_bm PySem.F.plainAttrs_list PySem.F.slot_list_append PySem.F.type_list_append mt_append (pv 1) (pa_cons (pe_slice sl_str (pv 0) (po_some (pv 2)) (po_some (pv 3))) pa_nil)))) pss_nil)
            (pss_cons (ps_expr (pe_bm PySem.F.plainAttrs_list PySem.F.slot_list_append PySem.F.type_list_append mt_append (pv 1) (pa_cons (pv 4) pa_nil)))
            (pss_one (ps_set (i := 2) sc_cut.nd rfl (Or.inl rfl) (pe_op op_add (pv 3) pe_int))))) pss_nil)))))
      (pss_cons (ps_if (pt_cmpR op_lt (pv 2) (pe_callB call_len_str (by rfl) T.m_len PySem.boot_len (pa_cons (pv 0) pa_nil)) (nomark _)) (pss_one (ps_expr (pe_bm PySem.F.plainAttrs_list PySem.F.slot_list_append PySem.F.type_list_append mt_append (pv 1) (pa_cons (pe_slice sl_str (pv 0) (po_some (pv 2)) po_none) pa_nil)))) pss_nil)
      (pss_one (ps_ret (pv 1))))))), ?_⟩
    refine ⟨Nat.zero_le _, fun p hp => ?_⟩
    have hlz : (tl z).length = z.length := (len_tl z).symm
    refine ⟨_, rfl, z, rfl, ?_⟩
    refine for_it UL.walk_enumS (fun i σ' H' => ∃ st P v3 v4, σ' = [some (.str z), some (.ref p), some (.int ((st : Nat) : Int)), v3, v4] ∧ CutAt H H' p z i st P) ⟨0, [], none, none, rfl, Ex.new hp, upd_same, Nat.le_refl _, rfl, Nat.le_refl _⟩ (fun _ _ _ _ _ => trivial) ?_ ?_
    · rintro i x σ' H1 H2 hi ⟨st, P, v3, v4, rfl, ⟨e1, hL, hle, heq, hlen⟩⟩ ⟨Tt, c, rfl, hT, rfl, hc⟩
      have hi' : i < z.length := hi
      have hcl : (tl z)[i]? = some c := by
        rw [show (tl z)[i]? = z.cps[i]? from Array.getElem?_toList]
        exact hc
      have hd : (tl z).drop i = c :: (tl z).drop (i + 1) := by
        obtain ⟨h1, h2⟩ := List.getElem?_eq_some_iff.mp hcl
        rw [List.drop_eq_getElem_cons h1, h2]
      have ht : ((tl z).take (i + 1)).drop st = ((tl z).take i).drop st ++ [c] := by
        rw [List.take_succ, hcl, List.drop_append_of_le_length (by rw [List.length_take]; omega)]
        rfl
      have hpl : (((tl z).take i).drop st).length = i - st := by rw [List.length_drop, List.length_take]; omega
      have e2 := Ex.new (o := .tup [.int (i : Nat), .str ⟨#[c]⟩]) hT
      have hL2 := e2 _ _ hL
      have e12 := e1.trans e2
      rw [hd] at heq
      have hTt : upd H1 Tt (.tup [.int (i : Nat), .str ⟨#[c]⟩]) Tt = some (.tup [.int (i : Nat), .str ⟨#[c]⟩]) := upd_same
      have hpT : p ≠ Tt := fun z => by rw [z] at hL; rw [hL] at hT; cases hT
      revert hTt e2 hL2 e12
      show Ex H1 (upd H1 Tt (.tup [.int (i : Nat), .str ⟨#[c]⟩])) → (upd H1 Tt (.tup [.int (i : Nat), .str ⟨#[c]⟩])) p = _ → Ex H (upd H1 Tt (.tup [.int (i : Nat), .str ⟨#[c]⟩])) → (upd H1 Tt (.tup [.int (i : Nat), .str ⟨#[c]⟩])) Tt = _ → gTup _ _ _ _ _ (upd H1 Tt (.tup [.int (i : Nat), .str ⟨#[c]⟩])) _
      generalize upd H1 Tt (.tup [.int (i : Nat), .str ⟨#[c]⟩]) = H2
      intro e2 hL2 e12 hTt
      refine ⟨Tt, _, rfl, SqT.of hTt, rfl, _, _, rfl, _, _, rfl, rfl, ?_⟩
      have seg : ∀ e : Nat, st ≤ e → e ≤ i + 1 → cutS z (some (st : Int)) (some (e : Int)) = ofL (((tl z).take e).drop st) := fun e h1 h2 => cut_seg h1 (by omega)
      have hsz : z.length ≤ sizeLine := sz_of (by omega)
      have psz : ∀ {l : List V}, l.length = P.length → l.length < sizeLine := fun h => sz_lt (by omega)
      have muts : ∀ xs, Ex H (upd H2 p (.lst xs)) := fun xs => e12.mut hp
      refine ⟨_, rfl, rfl, _, rfl, ?_⟩
      rw [show decide (V.str ⟨#[c]⟩ = V.str "(") = decide (c = 40) from sgn_eq c 40]
      refine ite2 (fun e => ?_) (fun n40 => ?_)
      · obtain rfl : c = 40 := of_decide_eq_true e
        refine ⟨_, rfl, .inl ⟨rfl, _, SqL.of hL2⟩, _, rfl, _, rfl, _, rfl, _, rfl, (i : Int), 1, rfl, rfl, _, rfl, z, rfl, hsz, p, _, _, rfl, rfl, hL2, psz (by rw [List.length_map]), ?_⟩
        refine ⟨_, rfl, (i : Int), 1, rfl, rfl, i + 1, P ++ [((tl z).take i).drop st ++ [40]], _, _, rfl, muts _, ?_, Nat.le_refl _, ?_, ?_⟩
        · rw [upd_same, List.map_append, show (i : Int) + 1 = ((i + 1 : Nat) : Int) by omega, seg (i + 1) (by omega) (Nat.le_refl _), ht]
          rfl
        · rw [← heq, cutGo_cons, if_pos rfl, List.drop_eq_nil_of_le (as := (tl z).take (i + 1)) (by rw [List.length_take]; omega), List.append_assoc]
          rfl
        · rw [List.length_append, List.length_singleton]
          omega
      have n1 : c ≠ 40 := fun z => n40 (decide_eq_true z)
      rw [cutGo_cons, if_neg n1] at heq
      refine ⟨_, rfl, rfl, _, rfl, ?_⟩
      rw [show decide (V.str ⟨#[c]⟩ = V.str ",") = decide (c = 44) from sgn_eq c 44]
      by_cases hc2 : c = 44 ∨ c = 41
      · rw [if_pos hc2] at heq
        rcases hc2 with h44 | h41
        · rw [decide_eq_true h44]
          refine iteT (iteT ?_)
          refine ⟨fun σ' H' => ∃ P', σ' = [some (.str z), some (.ref p), some (.int ((st : Nat) : Int)), some (.int (i : Int)), some (.str ⟨#[c]⟩)] ∧ Ex H H' ∧ H' p = some (.lst (P'.map fun l => V.str (ofL l))) ∧ P' ++ [c] :: cutGo [] ((tl z).drop (i + 1)) = cutGo [] (tl z) ∧ P'.length ≤ 2 * i + 1, ?_, ?_⟩
          · refine ⟨_, rfl, _, rfl, (st : Int), (i : Int), rfl, rfl, _, rfl, ite2 (fun e => ?_) (fun n => ?_)⟩
            · have e3 : (st : Int) < i := of_decide_eq_true e
              rw [if_neg (fun h => by rw [h] at hpl; rw [List.length_nil] at hpl; omega)] at heq
              refine ⟨_, rfl, .inl ⟨rfl, _, SqL.of hL2⟩, _, rfl, _, rfl, _, rfl, _, rfl, _, rfl, z, rfl, hsz, p, _, _, rfl, rfl, hL2, psz (by rw [List.length_map]), P ++ [((tl z).take i).drop st], rfl, muts _, ?_, ?_, ?_⟩
              · rw [upd_same, List.map_append, seg i hle (by omega)]
                rfl
              · rw [← heq, List.append_assoc]
              · rw [List.length_append, List.length_singleton]
                omega
            · have e3 : ¬ (st : Int) < i := fun z => n (decide_eq_true z)
              rw [if_pos (List.eq_nil_of_length_eq_zero (by omega)), List.nil_append] at heq
              exact ⟨P, rfl, e12, hL2, heq, by omega⟩
          · rintro σ' H3 ⟨P', rfl, e13, hL3, heq3, hl3⟩
            refine ⟨_, rfl, .inl ⟨rfl, _, SqL.of hL3⟩, _, rfl, p, _, _, rfl, rfl, hL3, sz_lt (by rw [List.length_map]; omega), ?_⟩
            refine ⟨_, rfl, (i : Int), 1, rfl, rfl, i + 1, P' ++ [[c]], _, _, rfl, e13.mut hp, ?_, Nat.le_refl _, ?_, ?_⟩
            · rw [upd_same, List.map_append]
              rfl
            · rw [← heq3, List.drop_eq_nil_of_le (as := (tl z).take (i + 1)) (by rw [List.length_take]; omega), List.append_assoc]
              rfl
            · rw [List.length_append, List.length_singleton]
              omega
        · rw [decide_eq_false (show ¬ c = 44 by omega)]
          refine iteF ⟨_, rfl, rfl, _, rfl, ?_⟩
          rw [show decide (V.str ⟨#[c]⟩ = V.str ")") = decide (c = 41) from sgn_eq c 41, decide_eq_true h41]
          refine iteT ?_
          refine ⟨fun σ' H' => ∃ P', σ' = [some (.str z), some (.ref p), some (.int ((st : Nat) : Int)), some (.int (i : Int)), some (.str ⟨#[c]⟩)] ∧ Ex H H' ∧ H' p = some (.lst (P'.map fun l => V.str (ofL l))) ∧ P' ++ [c] :: cutGo [] ((tl z).drop (i + 1)) = cutGo [] (tl z) ∧ P'.length ≤ 2 * i + 1, ?_, ?_⟩
          · refine ⟨_, rfl, _, rfl, (st : Int), (i : Int), rfl, rfl, _, rfl, ite2 (fun e => ?_) (fun n => ?_)⟩
            · have e3 : (st : Int) < i := of_decide_eq_true e
              rw [if_neg (fun h => by rw [h] at hpl; rw [List.length_nil] at hpl; omega)] at heq
              refine ⟨_, rfl, .inl ⟨rfl, _, SqL.of hL2⟩, _, rfl, _, rfl, _, rfl, _, rfl, _, rfl, z, rfl, hsz, p, _, _, rfl, rfl, hL2, psz (by rw [List.length_map]), P ++ [((tl z).take i).drop st], rfl, muts _, ?_, ?_, ?_⟩
              · rw [upd_same, List.map_append, seg i hle (by omega)]
                rfl
              · rw [← heq, List.append_assoc]
              · rw [List.length_append, List.length_singleton]
                omega
            · have e3 : ¬ (st : Int) < i := fun z => n (decide_eq_true z)
              rw [if_pos (List.eq_nil_of_length_eq_zero (by omega)), List.nil_append] at heq
              exact ⟨P, rfl, e12, hL2, heq, by omega⟩
          · rintro σ' H3 ⟨P', rfl, e13, hL3, heq3, hl3⟩
            refine ⟨_, rfl, .inl ⟨rfl, _, SqL.of hL3⟩, _, rfl, p, _, _, rfl, rfl, hL3, sz_lt (by rw [List.length_map]; omega), ?_⟩
            refine ⟨_, rfl, (i : Int), 1, rfl, rfl, i + 1, P' ++ [[c]], _, _, rfl, e13.mut hp, ?_, Nat.le_refl _, ?_, ?_⟩
            · rw [upd_same, List.map_append]
              rfl
            · rw [← heq3, List.drop_eq_nil_of_le (as := (tl z).take (i + 1)) (by rw [List.length_take]; omega), List.append_assoc]
              rfl
            · rw [List.length_append, List.length_singleton]
              omega
      · have n44 : c ≠ 44 := fun z => hc2 (.inl z)
        have n41 : c ≠ 41 := fun z => hc2 (.inr z)
        rw [if_neg hc2] at heq
        rw [decide_eq_false n44]
        refine iteF ⟨_, rfl, rfl, _, rfl, ?_⟩
        rw [show decide (V.str ⟨#[c]⟩ = V.str ")") = decide (c = 41) from sgn_eq c 41, decide_eq_false n41]
        refine iteF ?_
        exact ⟨st, P, _, _, rfl, e12, hL2, by omega, by rw [ht]; exact heq, by omega⟩
    · rintro σ' H1 ⟨st, P, v3, v4, rfl, ⟨e1, hL, hle, heq, hlen⟩⟩
      have hd : (tl z).drop z.cps.size = [] := List.drop_eq_nil_of_le (by rw [hlz]; exact Nat.le_refl _)
      have ht : (tl z).take z.cps.size = tl z := List.take_of_length_le (by rw [hlz]; exact Nat.le_refl _)
      have hle' : st ≤ z.length := hle
      have hlen' : P.length ≤ 2 * z.length := hlen
      have hpl : ((tl z).drop st).length = z.length - st := by rw [List.length_drop, hlz]
      rw [hd, ht, cutGo_nil] at heq
      refine ⟨_, rfl, _, rfl, z, rfl, sz_of (by omega), (st : Int), (z.length : Int), rfl, rfl, _, rfl, ite2 (fun e => ?_) (fun n => ?_)⟩
      · have e2 : (st : Int) < z.length := of_decide_eq_true e
        rw [if_neg (fun h => by rw [h] at hpl; rw [List.length_nil] at hpl; omega)] at heq
        refine ⟨_, rfl, .inl ⟨rfl, _, SqL.of hL⟩, _, rfl, _, rfl, _, rfl, z, rfl, sz_of (by omega), p, _, _, rfl, rfl, hL, sz_lt (by rw [List.length_map]; omega), _, rfl, k p _ (e1.mut hp) ?_ hp⟩
        rw [upd_same, cut_tail hle', ← heq, List.map_append]
        rfl
      · have e2 : ¬ (st : Int) < z.length := fun z => n (decide_eq_true z)
        rw [if_pos (List.eq_nil_of_length_eq_zero (by omega)), List.append_nil] at heq
        exact ⟨_, rfl, k p _ e1 (by rw [hL, heq]) hp⟩
end
end K11

set_option Elab.async false
set_option linter.all false
set_option maxRecDepth 100000
namespace K11
open PySem PySem.Spec PyProof.Rows L2 Evl TL UL StX
section
variable {P : Program} {w : World} {K : PySem.W.Frag} {mg : Str → Option Value} {base : Heap} {A : Adr}
/-! ### nodes and what waits, on the heap -/
def ni (os : List Nat) : List V := os.map fun n : Nat => V.int (n : Int)
def NdAt (H : Hp) (a : Addr) : Nd → Prop
  | .name w => H a = some (.tup [.str "name", .str w])
  | .call w os => ∃ t, H a = some (.tup [.str "call", .str w, .ref t]) ∧ H t = some (.tup (ni os))
  | .op w os => H a = some (.tup (.str w :: ni os))
theorem NdAt.mono {H H' : Hp} {a : Addr} {nd : Nd} (e : Ex H H') (h : NdAt H a nd) : NdAt H' a nd := by
  cases nd with
  | name w => exact e _ _ h
  | call w os =>
    obtain ⟨t, h1, h2⟩ := h
    exact ⟨t, e _ _ h1, e _ _ h2⟩
  | op w os => exact e _ _ h
/-- a list is written: the nodes stay -/
theorem NdAt.put {H : Hp} {a l : Addr} {nd : Nd} {xs ys : List V} (hl : H l = some (.lst xs)) (h : NdAt H a nd) : NdAt (upd H l (.lst ys)) a nd := by
  have kp : ∀ {b : Addr} {ts : List V}, H b = some (.tup ts) → upd H l (.lst ys) b = some (.tup ts) := fun {b ts} e => by
    rw [upd_ne (fun z => by rw [z, hl] at e; cases e)]
    exact e
  cases nd with
  | name w => exact kp h
  | call w os =>
    obtain ⟨t, h1, h2⟩ := h
    exact ⟨t, kp h1, kp h2⟩
  | op w os => exact kp h
def spOper (K : PySem.W.Frag) : Sp := fun vs H Q _ => ∃ (w : Str) (o : Addr) (os : List Nat) (nd : Nd), vs = [.str w, .ref o] ∧ H o = some (.lst (ni os)) ∧ os.length ≤ 1000 ∧ oper okS w os = some nd ∧ ∀ a H', Ex H H' → NdAt H' a nd → Q (.ref a) H'
theorem ok_operation (T : Tx0 w K mg A) : FnOk P w K mg base CX0 2 A.operation A.d_operation p_operation (spOper K) := by
  refine T.F_operation.ok sc_operation (fun vs H Q E h => ?_) (fun cdv Ar outer s H vs Q E hr h => ?_)
  · obtain ⟨w, o, os, nd, rfl, _⟩ := h
    rfl
  · obtain ⟨wd, o, os, nd, rfl, ho, hl, hop, k⟩ := h
    refine ⟨_, (pss_cons (ps_if (pt_cmpR UL.op_inW (pv 0) (pe_glob (v := .ref A.OPERATIONS) (by rfl) T.c_OPERATIONS rfl) (by rfl)) (pss_one (ps_ret (pe_ifExp (pt_cmpR op_eq (pe_callB call_len_seq (by rfl) T.m_len PySem.boot_len (pa_cons (pv 1) pa_nil)) (pe_ix UL.ix_W (pe_glob (v := .ref A.OPERATIONS) (by rfl) T.c_OPERATIONS rfl) (pv 0) (fun _ _ => rfl)) (nomark _)) (pe_tup (pa_cons (pv 0) (pa_star (pv 1) pa_nil))) pe_non))) pss_nil)
      (pss_cons (ps_if (PW.pt (pw_and (pt_val (pe_call (ok_is_name T) (hr.mono (by decide)) (by rfl) T.g_is_name T.F_is_name.kp T.b_is_name .nil pass0 (pa_cons (pv 0) pa_nil))) (pw_and1 (pt_cmpR op_le (pe_callB call_len_seq (by rfl) T.m_len PySem.boot_len (pa_cons (pv 1) pa_nil)) (pe_glob (v := .int 4) (by rfl) T.c_MOST_ARGUMENTS ⟨_, rfl⟩) (nomark _))))) (pss_one (ps_ret (pe_tup (pa_cons pe_str (pa_cons (pv 0) (pa_cons (pe_callTy call_tuple_of (by rfl) T.m_tuple (by decide +kernel) (pa_cons (pv 1) pa_nil)) pa_nil)))))) pss_nil)
      (pss_one (ps_ret pe_non)))), ?_⟩
    refine ⟨_, rfl, wd, A.OPERATIONS, opsT, rfl, rfl, T.w_OPERATIONS, _, rfl, ?_⟩
    cases hlk : opsT.lookup wd with
    | some n =>
      rw [oper_at hlk] at hop
      obtain ⟨hn, rfl⟩ := some_if hop
      refine iteT ⟨_, rfl, o, _, rfl, .inl (SqL.of ho), _, rfl, wd, A.OPERATIONS, opsT, n, rfl, rfl, T.w_OPERATIONS, hlk, rfl, _, rfl, ?_⟩
      rw [show decide (V.int ((ni os).length : Int) = V.int n) = true from decide_eq_true (by rw [show (ni os).length = os.length from List.length_map _, hn])]
      exact iteT ⟨_, rfl, _, rfl, o, _, rfl, .inr (SqL.of ho), sz_of (by show (V.str wd :: (ni os ++ [])).length ≤ 100000; rw [List.append_nil, List.length_cons, show (ni os).length = os.length from List.length_map _]; omega), fun p hp => k p _ (Ex.new hp) (by rw [List.append_nil]; exact upd_same)⟩
    | none =>
      rw [oper_no hlk] at hop
      obtain ⟨hn, rfl⟩ := some_if hop
      refine iteF ⟨_, rfl, _, rfl, .inl ⟨wd, rfl, by have := okS_len hn.1; omega⟩, fun H1 e1 => ?_⟩
      rw [show nm (.str wd) = true from hn.1]
      refine ⟨_, rfl, iteT ⟨_, rfl, o, _, rfl, .inl (SqL.of (e1 _ _ ho)), _, 4, rfl, rfl, _, rfl, ?_⟩⟩
      rw [show decide (((ni os).length : Int) ≤ 4) = true from decide_eq_true (by rw [show (ni os).length = os.length from List.length_map _]; omega)]
      refine iteT ⟨_, rfl, _, rfl, o, _, rfl, .inl ⟨SqL.of (e1 _ _ ho), fun t ht => ?_⟩⟩
      refine ⟨sz_of (by show 3 ≤ 100000; decide), fun p hp => k p _ ((e1.trans (Ex.new ht)).trans (Ex.new hp)) ⟨t, upd_same, (Ex.new hp) _ _ upd_same⟩⟩
/-! ### closing, adding -/
def es1 (it : List (Addr × Addr)) : List V := it.map fun x => V.ref x.1
def spClosed (K : PySem.W.Frag) : Sp := fun vs H Q _ => ∃ (l e o : Addr) (r : List V) (w : Str) (os : List Nat) (b : Bool) (nd : Nd), vs = [.ref l, .bl b] ∧ H l = some (.lst (r ++ [.ref e])) ∧ H e = some (.tup [.str w, .ref o]) ∧ H o = some (.lst (ni os)) ∧ o ≠ l ∧ os.length ≤ 1000 ∧ (os = [] ∨ b = true) ∧ oper okS w os = some nd ∧
  ∀ a H', Ex (upd H l (.lst r)) H' → NdAt H' a nd → Q (.ref a) H'
theorem ok_closed (T : Tx0 w K mg A) : FnOk P w K mg base CX0 3 A.closed A.d_closed p_closed (spClosed K) := by
  refine T.F_closed.ok sc_closed (fun vs H Q E h => ?_) (fun cdv Ar outer s H vs Q E hr h => ?_)
  · obtain ⟨l, e, o, r, w, os, b, nd, rfl, _⟩ := h
    rfl
  · obtain ⟨l, e, o, r, wd, os, b, nd, rfl, hl, he, ho, hne, hz, hb, hop, k⟩ := h
    refine ⟨_, (pss_cons (ps_if (pt_not (pt_truth (pv 0) (fun _ => rfl))) (pss_one (ps_ret pe_non)) pss_nil)
      (pss_cons (ps_asg (pe_bm0 PySem.F.plainAttrs_list PySem.F.slot_list_pop PySem.F.type_list_pop mt_pop (pv 0)) (pg_tup (n := 2) rfl (pgs_cons (pg_name (i := 2) sc_closed.nd rfl (Or.inl rfl)) (pgs_cons (pg_name (i := 3) sc_closed.nd rfl (Or.inl rfl)) pgs_nil))))
      (pss_cons (ps_if (PW.pt (pw_and (pt_truth (pv 3) (fun _ => rfl)) (pw_and1 (pt_not (pt_val (pv 1)))))) (pss_one (ps_ret pe_non)) pss_nil)
      (pss_one (ps_ret (pe_call (ok_operation T) (hr.mono (by decide)) (by rfl) T.g_operation T.F_operation.kp T.b_operation .nil pass0 (pa_cons (pv 2) (pa_cons (pv 3) pa_nil)))))))), ?_⟩
    have hel : e ≠ l := fun z => by rw [z, hl] at he; cases he
    have he1 : upd H l (.lst r) e = some (.tup [.str wd, .ref o]) := by rw [upd_ne hel]; exact he
    have ho1 : upd H l (.lst r) o = some (.lst (ni os)) := by rw [upd_ne hne]; exact ho
    refine ⟨_, rfl, true, .inl ⟨_, SqL.of hl, by simp⟩, iteF ?_⟩
    refine ⟨_, rfl, .inl ⟨rfl, _, SqL.of hl⟩, l, _, .ref e, rfl, rfl, hl, by simp, ?_⟩
    rw [List.dropLast_concat]
    refine ⟨e, _, rfl, SqT.of he1, rfl, _, _, rfl, _, _, rfl, rfl, ?_⟩
    have fin : tRet (tCall (spOper K) [] E0 (tCons (tVar 2) (tCons (tVar 3) tNil))) { nx := fun x H' => Q .non H', rt := Q } [some (.ref l), some (.bl b), some (.str wd), some (.ref o)] (upd H l (.lst r)) :=
      ⟨_, rfl, _, rfl, wd, o, os, nd, rfl, ho1, hz, hop, fun a H' e1 h1 => k a H' e1 h1⟩
    cases os with
    | nil => exact ⟨_, rfl, false, .inl ⟨_, SqL.of ho1, rfl⟩, iteF fin⟩
    | cons n os =>
      rcases hb with h | rfl
      · cases h
      exact ⟨_, rfl, true, .inl ⟨_, SqL.of ho1, rfl⟩, _, rfl, _, rfl, iteF fin⟩
def spAdd (K : PySem.W.Frag) : Sp := fun vs H Q _ => ∃ (N l x : Addr) (xs : List V), vs = [.ref N, .ref l, .ref x] ∧ H N = some (.lst xs) ∧ xs.length ≤ 1000 ∧ N ≠ l ∧
  ((H l = some (.lst []) ∧ Q .non (upd H N (.lst (xs ++ [.ref x])))) ∨
   ∃ (e o : Addr) (r : List V) (w : Str) (os : List Nat), H l = some (.lst (r ++ [.ref e])) ∧ r.length ≤ 1000 ∧ H e = some (.tup [.str w, .ref o]) ∧ H o = some (.lst (ni os)) ∧ o ≠ l ∧ o ≠ N ∧ os.length ≤ 1000 ∧ Q .non (upd (upd H o (.lst (ni (os ++ [xs.length])))) N (.lst (xs ++ [.ref x]))))
theorem ok_add_node (T : Tx0 w K mg A) : FnOk P w K mg base CX0 1 A.add_node A.d_add_node p_add_node (spAdd K) := by
  refine T.F_add_node.ok sc_add_node (fun vs H Q E h => ?_) (fun cdv Ar outer s H vs Q E hr h => ?_)
  · obtain ⟨N, l, x, xs, rfl, _⟩ := h
    rfl
  · obtain ⟨N, l, x, xs, rfl, hN, hz, hNl, h⟩ := h
    refine ⟨_, (pss_cons (ps_if (pt_truth (pv 1) (fun _ => rfl)) (pss_one (ps_expr (pe_bm PySem.F.plainAttrs_list PySem.F.slot_list_append PySem.F.type_list_append mt_append (pe_ix ix_tup (pe_ix ix_list (pv 1) (pe_un un_neg pe_int) (fun _ _ => rfl)) pe_int (fun _ _ => rfl)) (pa_cons (pe_callB call_len_seq (by rfl) T.m_len PySem.boot_len (pa_cons (pv 0) pa_nil)) pa_nil)))) pss_nil)
      (pss_one (ps_expr (pe_bm PySem.F.plainAttrs_list PySem.F.slot_list_append PySem.F.type_list_append mt_append (pv 0) (pa_cons (pv 2) pa_nil))))), ?_⟩
    rcases h with ⟨hl, k⟩ | ⟨e, o, r, wd, os, hl, hr2, he, ho, hol, hoN, hz2, k⟩
    · exact ⟨_, rfl, false, .inl ⟨_, SqL.of hl, rfl⟩, iteF ⟨_, rfl, .inl ⟨rfl, _, SqL.of hN⟩, _, rfl, N, xs, _, rfl, rfl, hN, sz_lt (by omega), k⟩⟩
    · refine ⟨_, rfl, true, .inl ⟨_, SqL.of hl, by simp⟩, iteT ?_⟩
      have hN2 : upd H o (.lst (ni (os ++ [xs.length]))) N = some (.lst xs) := by rw [upd_ne hoN.symm]; exact hN
      refine ⟨_, rfl, 1, rfl, l, _, -1, .ref e, rfl, rfl, SqL.of hl, UL.last_at (List.getLast?_concat ..), e, _, 1, .ref o, rfl, rfl, SqT.of he, atI_nat (j := 1) rfl, .inl ⟨rfl, _, SqL.of ho⟩, _, rfl, N, xs, rfl, .inl (SqL.of hN), o, _, _, rfl, rfl, ho, sz_lt (by rw [show (ni os).length = os.length from List.length_map _]; omega), ?_⟩
      rw [show ni os ++ [V.int (xs.length : Int)] = ni (os ++ [xs.length]) by unfold ni; rw [List.map_append]; rfl]
      exact ⟨_, rfl, .inl ⟨rfl, _, SqL.of hN2⟩, _, rfl, N, xs, _, rfl, rfl, hN2, sz_lt (by omega), k⟩
/-! ### reading -/
def WAt (H : Hp) (x : Addr × Addr) (y : Str × List Nat) : Prop := H x.1 = some (.tup [.str y.1, .ref x.2]) ∧ H x.2 = some (.lst (ni y.2))
structure RdAt (H H' : Hp) (p N l : Addr) (ps : List (List Nat)) (s : Rd) (as : List Addr) (it : List (Addr × Addr)) (i : Nat) : Prop where
  ex : Ex H H'
  hp : H' p = some (.lst (ps.map fun q => V.str (ofL q)))
  hN : H' N = some (.lst (as.map V.ref))
  hA : Al2 (NdAt H') as s.N
  hl : H' l = some (.lst (es1 it))
  hW : Al2 (WAt H') it s.W
  nd : (p :: N :: l :: it.map (·.2)).Nodup
  fr : ∀ a ∈ p :: N :: l :: it.map (·.2), H a = none
  zN : as.length ≤ i
  zW : it.length ≤ i
  zo : ∀ y ∈ s.W, y.2.length ≤ i
section
variable {H H' H'' : Hp} {p N l : Addr} {ps : List (List Nat)} {s : Rd} {as : List Addr} {it : List (Addr × Addr)} {i : Nat}
theorem WAt.mono {x : Addr × Addr} {y : Str × List Nat} (e : Ex H' H'') (h : WAt H' x y) : WAt H'' x y := ⟨e _ _ h.1, e _ _ h.2⟩
theorem RdAt.mono (R : RdAt H H' p N l ps s as it i) (e : Ex H' H'') : RdAt H H'' p N l ps s as it i :=
  ⟨R.ex.trans e, e _ _ R.hp, e _ _ R.hN, R.hA.imp fun _ _ h => h.mono e, e _ _ R.hl, R.hW.imp fun _ _ h => h.mono e, R.nd, R.fr, R.zN, R.zW, R.zo⟩
/-- a list is written that is none of those that wait -/
theorem WAt.put {x : Addr × Addr} {y : Str × List Nat} {q : Addr} {xs ys : List V} (hq : H' q = some (.lst xs)) (hne : x.2 ≠ q) (h : WAt H' x y) : WAt (upd H' q (.lst ys)) x y :=
  ⟨by rw [upd_ne (fun z => by rw [← z, h.1] at hq; cases hq)]; exact h.1, by rw [upd_ne hne]; exact h.2⟩
theorem al2_put {q : Addr} {xs ys : List V} (hq : H' q = some (.lst xs)) : ∀ {it : List (Addr × Addr)} {W : Wt}, (∀ x ∈ it, x.2 ≠ q) → Al2 (WAt H') it W → Al2 (WAt (upd H' q (.lst ys))) it W
  | [], [], _, .nil => .nil
  | _ :: _, _ :: _, hn, .cons h t => .cons (h.put hq (hn _ List.mem_cons_self)) (al2_put hq (fun x hx => hn x (List.mem_cons_of_mem _ hx)) t)
theorem RdAt.ne (R : RdAt H H' p N l ps s as it i) : p ≠ N ∧ p ≠ l ∧ N ≠ l ∧ ∀ x ∈ it, x.2 ≠ p ∧ x.2 ≠ N ∧ x.2 ≠ l := by
  have h := R.nd
  simp only [List.nodup_cons, List.mem_cons, List.mem_map, not_or, not_exists, not_and] at h
  obtain ⟨⟨h1, h2, h3⟩, ⟨h4, h5⟩, h6, h7⟩ := h
  exact ⟨h1, h2, h4, fun x hx => ⟨h3 x hx, h5 x hx, h6 x hx⟩⟩
theorem RdAt.pop {W : Wt} {y : Str × List Nat} (R : RdAt H H' p N l ps s as it i) (hW : s.W = W ++ [y]) :
    ∃ (it' : List (Addr × Addr)) (x : Addr × Addr), it = it' ++ [x] ∧ WAt H' x y ∧ RdAt H (upd H' l (.lst (es1 it'))) p N l ps ⟨s.N, W, s.b⟩ as it' i := by
  obtain ⟨n1, n2, n3, n4⟩ := R.ne
  have hw := R.hW
  rw [hW] at hw
  obtain ⟨it', x, rfl, h1, h2⟩ := hw.unsnoc
  refine ⟨it', x, rfl, h2, R.ex.mut (R.fr l (by simp)), by rw [upd_ne n2]; exact R.hp, by rw [upd_ne n3]; exact R.hN, R.hA.imp fun _ _ h => h.put R.hl, upd_same, ?_, ?_, ?_, R.zN, ?_, ?_⟩
  · exact al2_put R.hl (fun x hx => (n4 x (List.mem_append_left _ hx)).2.2) h1
  · have h := R.nd
    rw [List.map_append, ← List.cons_append, ← List.cons_append, ← List.cons_append] at h
    exact (List.nodup_append.mp h).1
  · exact fun a ha => R.fr a (by rw [List.map_append, ← List.cons_append, ← List.cons_append, ← List.cons_append]; exact List.mem_append_left _ ha)
  · have := R.zW
    rw [List.length_append] at this
    omega
  · exact fun y hy => R.zo y (by rw [hW]; exact List.mem_append_left _ hy)
theorem RdAt.add {P : Program} {K : PySem.W.Frag} {x : Addr} {nd : Nd} {Q : VK} {E : XK} (R : RdAt H H' p N l ps s as it i) (hi : i < 1000) (hx : NdAt H' x nd)
    (k : ∀ H'', RdAt H H'' p N l ps ⟨s.N ++ [nd], addTop s.W s.N.length, true⟩ (as ++ [x]) it (i + 1) → Q .non H'') : spAdd K [.ref N, .ref l, .ref x] H' Q E := by
  obtain ⟨n1, n2, n3, n4⟩ := R.ne
  have hlen : s.N.length = as.length := R.hA.len.symm
  have zN := R.zN
  have zW := R.zW
  refine ⟨N, l, x, _, rfl, R.hN, by rw [List.length_map]; omega, n3, ?_⟩
  rcases List.eq_nil_or_concat s.W with e | ⟨W, ⟨w, os⟩, e⟩
  · have hw := R.hW
    rw [e] at hw
    have hit : it = [] := by cases hw; rfl
    refine .inl ⟨by rw [R.hl, hit]; rfl, k _ ⟨R.ex.mut (R.fr N (by simp)), by rw [upd_ne n1]; exact R.hp, by rw [upd_same, List.map_append]; rfl, (R.hA.imp fun _ _ h => h.put R.hN).snoc (hx.put R.hN), by rw [upd_ne n3.symm]; exact R.hl, ?_, R.nd, R.fr, ?_, by omega, ?_⟩⟩
    · rw [e, hit]
      exact .nil
    · rw [List.length_append, List.length_singleton]
      omega
    · rw [e]
      intro y hy
      cases hy
  · rw [List.concat_eq_append] at e
    have hw := R.hW
    rw [e] at hw
    obtain ⟨it', ⟨ea, o⟩, rfl, h1, h2⟩ := hw.unsnoc
    have ho := n4 (ea, o) (by simp)
    have hzo := R.zo (w, os) (by rw [e]; simp)
    have hN2 : upd H' o (.lst (ni (os ++ [as.length]))) N = some (.lst (as.map V.ref)) := by rw [upd_ne ho.2.1.symm]; exact R.hN
    have h2a : H' ea = some (.tup [.str w, .ref o]) := h2.1
    have h2b : H' o = some (.lst (ni os)) := h2.2
    refine .inr ⟨ea, o, es1 it', w, os, by rw [R.hl]; unfold es1; rw [List.map_append]; rfl, ?_, h2a, h2b, ho.2.2, ho.2.1, by show os.length ≤ 1000; have : os.length ≤ i := hzo; omega, ?_⟩
    · rw [List.length_append, List.length_singleton] at zW
      rw [show (es1 it').length = it'.length from List.length_map _]
      omega
    rw [List.length_map]
    refine k _ ⟨(R.ex.mut (R.fr o (by simp))).mut (R.fr N (by simp)), ?_, ?_, ?_, ?_, ?_, R.nd, R.fr, ?_, by omega, ?_⟩
    · rw [upd_ne n1, upd_ne ho.1.symm]
      exact R.hp
    · rw [upd_same, List.map_append]
      rfl
    · exact ((R.hA.imp fun _ _ h => (h.put h2b).put hN2)).snoc ((hx.put h2b).put hN2)
    · rw [upd_ne n3.symm, upd_ne ho.2.2.symm]
      exact R.hl
    · rw [e, addTop_snoc, hlen]
      refine Al2.snoc ?_ ⟨?_, ?_⟩
      · have nd := R.nd
        rw [List.map_append, ← List.cons_append, ← List.cons_append, ← List.cons_append] at nd
        have nd2 := (List.nodup_append.mp nd).2.2
        refine al2_put hN2 (fun x hx => (n4 x (List.mem_append_left _ hx)).2.1) (al2_put h2b (fun x hx => ?_) h1)
        exact nd2 x.2 (by simp only [List.mem_cons, List.mem_map]; exact .inr (.inr (.inr ⟨x, hx, rfl⟩))) o (by simp)
      · show upd (upd H' o _) N _ ea = _
        rw [upd_ne (fun z => by have q := R.hN; rw [← z, h2a] at q; cases q), upd_ne (fun z => by rw [← z, h2a] at h2b; cases h2b)]
        exact h2a
      · show upd (upd H' o _) N _ o = _
        rw [upd_ne ho.2.1, upd_same]
    · rw [List.length_append, List.length_singleton]
      omega
    · rw [e, addTop_snoc]
      intro y hy
      rcases List.mem_append.mp hy with h | h
      · have := R.zo y (by rw [e]; exact List.mem_append_left _ h)
        omega
      · rw [List.mem_singleton.mp h]
        show (os ++ [s.N.length]).length ≤ i + 1
        have : os.length ≤ i := hzo
        rw [List.length_append, List.length_singleton]
        omega
theorem RdAt.push {w : Str} {o e : Addr} (R : RdAt H H' p N l ps s as it i) (ho : H' o = none) (he : upd H' o (.lst []) e = none) :
    RdAt H (upd (upd (upd H' o (.lst [])) e (.tup [.str w, .ref o])) l (.lst (es1 it ++ [.ref e]))) p N l ps ⟨s.N, s.W ++ [(w, [])], false⟩ as (it ++ [(e, o)]) (i + 1) := by
  have R2 := (R.mono (Ex.new (o := .lst []) ho)).mono (Ex.new (o := .tup [.str w, .ref o]) he)
  obtain ⟨n1, n2, n3, n4⟩ := R2.ne
  have hz : ∀ {a : Addr} {u : HO}, H' a = some u → a ≠ o := fun h z => by rw [z, ho] at h; cases h
  have hoe : o ≠ e := fun z => by rw [← z, upd_same] at he; cases he
  have hw1 : WAt (upd (upd H' o (.lst [])) e (.tup [.str w, .ref o])) (e, o) (w, []) := ⟨upd_same, by show upd _ e _ o = _; rw [upd_ne hoe, upd_same]; rfl⟩
  have zN := R.zN
  have zW := R.zW
  refine ⟨R2.ex.mut (R.fr l (by simp)), by rw [upd_ne n2]; exact R2.hp, by rw [upd_ne n3]; exact R2.hN, R2.hA.imp fun _ _ h => h.put R2.hl, by rw [upd_same]; unfold es1; rw [List.map_append]; rfl, ?_, ?_, ?_, by omega, ?_, ?_⟩
  · exact (al2_put R2.hl (fun x hx => (n4 x hx).2.2) R2.hW).snoc (hw1.put R2.hl (hz R.hl).symm)
  · rw [List.map_append, ← List.cons_append, ← List.cons_append, ← List.cons_append]
    refine List.nodup_append.mpr ⟨R.nd, by simp, fun a ha b hb => ?_⟩
    rw [List.mem_singleton.mp (show b ∈ [o] from hb)]
    simp only [List.mem_cons, List.mem_map] at ha
    rcases ha with rfl | rfl | rfl | ⟨x, hx, rfl⟩
    · exact hz R.hp
    · exact hz R.hN
    · exact hz R.hl
    · obtain ⟨y, _, hy⟩ : ∃ y, y ∈ s.W ∧ WAt H' x y := by
        obtain ⟨j, hj⟩ := List.getElem?_of_mem hx
        obtain ⟨y, h1, h2⟩ := R.hW.get j x hj
        exact ⟨y, List.mem_of_getElem? h1, h2⟩
      exact hz hy.2
  · intro a ha
    rw [List.map_append, ← List.cons_append, ← List.cons_append, ← List.cons_append] at ha
    rcases List.mem_append.mp ha with h | h
    · exact R.fr a h
    · rw [List.mem_singleton.mp (show a ∈ [o] from h)]
      exact R.ex.free' ho
  · rw [List.length_append, List.length_singleton]
    omega
  · intro y hy
    rcases List.mem_append.mp hy with h | h
    · have := R.zo y h
      omega
    · rw [List.mem_singleton.mp h]
      exact Nat.zero_le _
end
def spNodesOf : Sp := fun vs H Q _ => ∃ (z : Str) (ns : List Nd), vs = [.str z] ∧ z.length ≤ 400 ∧ rrun okS ⟨[], [], false⟩ (cutGo [] (tl z)) = some ⟨ns, [], true⟩ ∧
  ∀ N as H', Ex H H' → H N = none → H' N = some (.lst (as.map V.ref)) → Al2 (NdAt H') as ns → Q (.ref N) H'
theorem ok_nodes_of (T : Tx0 w K mg A) : FnOk P w K mg base CX0 4 A.nodes_of A.d_nodes_of p_nodes_of spNodesOf := by
  refine T.F_nodes_of.ok sc_nodes_of (fun vs H Q E h => ?_) (fun cdv Ar outer s H vs Q E hr h => ?_)
  · obtain ⟨z, ns, rfl, _⟩ := h
    rfl
  · obtain ⟨z, ns, rfl, hz, hrun, k⟩ := h
    refine ⟨_, (pss_cons (ps_set (i := 1) sc_nodes_of.nd rfl (Or.inl rfl) (pe_lst pa_nil))
      (pss_cons (ps_set (i := 2) sc_nodes_of.nd rfl (Or.inl rfl) (pe_lst pa_nil))
      (pss_cons (ps_set (i := 3) sc_nodes_of.nd rfl (Or.inl rfl) pe_bl)
      (pss_cons (ps_for PassesOwn.never rfl (pi_list (pe_call (ok_cut T) (hr.mono (by decide)) (by rfl) T.g_cut T.F_cut.kp T.b_cut .nil pass0 (pa_cons (pv 0) pa_nil))) (pg_name (i := 4) sc_nodes_of.nd rfl (Or.inl rfl)) (pss_one (ps_if (pt_cmpR op_eq (pv 4) pe_str (nomark _)) (pss_cons (ps_if (PW.pt (pw_or (pt_not (pt_truth (pv 2) (fun _ => rfl))) (pw_or1 (pt_not (pt_val (pv 3)))))) (pss_one (ps_ret pe_non)) pss_nil)
          (pss_one (ps_set (i := 3) sc_nodes_of.nd rfl (Or.inl rfl) pe_bl))) (pss_one (ps_if (pt_cmpR op_eq (pv 4) pe_str (nomark _)) (pss_cons (ps_set (i := 5) sc_nodes_of.nd rfl (Or.inl rfl) (pe_call (ok_closed T) (hr.mono (by decide)) (by rfl) T.g_closed T.F_closed.kp T.b_closed .nil pass0 (pa_cons (pv 2) (pa_cons (pv 3) pa_nil))))
            (pss_cons (ps_if (pt_cmpR op_isN (pv 5) pe_non (nomark _)) (pss_one (ps_ret pe_non)) pss_nil)
            (pss_cons (ps_expr (pe_call (ok_add_node T) (hr.mono (by decide)) (by rfl) T.g_add_node T.F_add_node.kp T.b_add_node .nil pass0 (pa_cons (pv 1) (pa_cons (pv 2) (pa_cons (pv 5) pa_nil)))))
            (pss_one (ps_set (i := 3) sc_nodes_of.nd rfl (Or.inl rfl) pe_bl))))) (pss_one (ps_if (pt_val (pv 3)) (pss_one (ps_ret pe_non)) (pss_one (ps_if (pt_cmpR op_eq (pe_ix ix_str (pv 4) (pe_un un_neg pe_int) (fun _ _ => rfl)) pe_str (nomark _)) (pss_one (ps_expr (pe_bm PySem.F.plainAttrs_list PySem.F.slot_list_append PySem.F.type_list_append mt_append (pv 2) (pa_cons (pe_tup (pa_cons (pe_slice sl_str (pv 4) po_none (po_some (pe_un un_neg pe_int))) (pa_cons (pe_lst pa_nil) pa_nil))) pa_nil)))) (pss_one (ps_if (pt_val (pe_call (ok_is_name T) (hr.mono (by decide)) (by rfl) T.g_is_name T.F_is_name.kp T.b_is_name .nil pass0 (pa_cons (pv 4) pa_nil))) (pss_cons (ps_expr (pe_call (ok_add_node T) (hr.mono (by decide)) (by rfl) T.g_add_node T.F_add_node.kp T.b_add_node .nil pass0 (pa_cons (pv 1) (pa_cons (pv 2) (pa_cons (pe_tup (pa_cons pe_str (pa_cons (pv 4) pa_nil))) pa_nil)))))
                  (pss_one (ps_set (i := 3) sc_nodes_of.nd rfl (Or.inl rfl) pe_bl))) (pss_one (ps_ret pe_non)))))))))))))
      (pss_one (ps_ret (pe_ifExp (PW.pt (pw_and (pt_val (pv 3)) (pw_and1 (pt_not (pt_truth (pv 2) (fun _ => rfl)))))) (pv 1) pe_non))))))), ?_⟩
    refine ⟨Nat.zero_le _, fun N hNn => ⟨Nat.zero_le _, fun l hln => ?_⟩⟩
    have hlN : l ≠ N := fun z => by rw [z, upd_same] at hln; cases hln
    refine ⟨_, rfl, z, rfl, by omega, fun p H1 e1 hp1 hpn => ?_⟩
    have hps : ∀ q ∈ cutGo [] (tl z), q ≠ [] ∧ q.length ≤ 400 := fun q hq => by
      have := cut_mem (tl z) [] q hq
      rw [← len_tl, List.length_nil] at this
      exact ⟨this.1, by omega⟩
    have hcnt : (cutGo [] (tl z)).length ≤ 801 := by
      have := cut_count (tl z) []
      rw [← len_tl] at this
      omega
    generalize cutGo [] (tl z) = ps at hrun hp1 hps hcnt
    have eN := Ex.new (o := .lst []) hNn
    have el := Ex.new (o := .lst []) hln
    have hlH : H l = none := by rw [upd_ne hlN] at hln; exact hln
    have hpN : p ≠ N := fun z => by rw [z, upd_ne hlN.symm, upd_same] at hpn; cases hpn
    have hpl : p ≠ l := fun z => by rw [z, upd_same] at hpn; cases hpn
    have hpH : H p = none := by rw [upd_ne hpl, upd_ne hpN] at hpn; exact hpn
    have R0 : RdAt H H1 p N l ps ⟨[], [], false⟩ [] [] 0 := ⟨(eN.trans el).trans e1, hp1, e1 _ _ (el _ _ upd_same), .nil, e1 _ _ upd_same, .nil, by simp [hpN, hpl, hlN.symm], fun a ha => by
      simp only [List.map_nil, List.mem_cons, List.not_mem_nil, or_false] at ha
      rcases ha with rfl | rfl | rfl
      · exact hpH
      · exact hNn
      · exact hlH, Nat.le_refl _, Nat.le_refl _, fun y hy => by cases hy⟩
    refine ⟨p, rfl, ⟨_, SqL.of hp1⟩, ?_⟩
    refine for_it (walk_list (xs := ps.map fun q => V.str (ofL q))) (fun i σ' H' => ∃ (s : Rd) (as : List Addr) (it : List (Addr × Addr)) (v4 v5 : Option V), σ' = [some (.str z), some (.ref N), some (.ref l), some (.bl s.b), v4, v5] ∧ RdAt H H' p N l ps s as it i ∧ rrun okS s (ps.drop i) = some ⟨ns, [], true⟩) ⟨_, [], [], none, none, rfl, R0, hrun⟩ (fun i σ' H' _ ⟨_, _, _, _, _, _, R, _⟩ => SqL.of R.hp) ?_ ?_
    · rintro i x σ' H2 H3 hi ⟨s, as, it, v4, v5, rfl, R, hrr⟩ ⟨rfl, hx⟩
      rw [List.length_map] at hi
      obtain ⟨pc, hpc, rfl⟩ : ∃ pc, ps[i]? = some pc ∧ V.str (ofL pc) = x := by
        rw [List.getElem?_map] at hx
        exact Option.map_eq_some_iff.mp hx
      have hmem := hps pc (List.mem_of_getElem? hpc)
      have hd : ps.drop i = pc :: ps.drop (i + 1) := by
        obtain ⟨h1, h2⟩ := List.getElem?_eq_some_iff.mp hpc
        rw [List.drop_eq_getElem_cons h1, h2]
      rw [hd, rrun] at hrr
      obtain ⟨s', hst, hrr'⟩ := Option.bind_eq_some_iff.mp hrr
      have hlen : (ofL pc).length = pc.length := by rw [len_tl, tl_ofL]
      refine ⟨_, rfl, rfl, _, rfl, ?_⟩
      rw [show decide (V.str (ofL pc) = V.str ",") = decide (pc = [44]) from piece_eq pc 44]
      by_cases h44 : pc = [44]
      · subst h44
        obtain ⟨w1, w2, rfl⟩ := rstep_comma hst
        rw [decide_eq_true (rfl : [44] = [44])]
        refine iteT ?_
        have hne : it ≠ [] := fun z => by
          have hw := R.hW
          rw [z] at hw
          cases hW : s.W with
          | nil => exact w1 hW
          | cons a r =>
            rw [hW] at hw
            cases hw
        refine ⟨_, rfl, true, .inl ⟨_, SqL.of R.hl, by cases it with | nil => exact absurd rfl hne | cons a r => rfl⟩, iteF ?_⟩
        refine ⟨_, rfl, s.b, rfl, ?_⟩
        rw [w2]
        refine iteF ⟨_, as, it, _, _, rfl, ?_, hrr'⟩
        exact ⟨R.ex, R.hp, R.hN, R.hA, R.hl, R.hW, R.nd, R.fr, Nat.le_succ_of_le R.zN, Nat.le_succ_of_le R.zW, fun y hy => Nat.le_succ_of_le (R.zo y hy)⟩
      rw [decide_eq_false h44]
      refine iteF ⟨_, rfl, rfl, _, rfl, ?_⟩
      rw [show decide (V.str (ofL pc) = V.str ")") = decide (pc = [41]) from piece_eq pc 41]
      by_cases h41 : pc = [41]
      · subst h41
        obtain ⟨W, w1, os, nd, hW, hb, hop, rfl⟩ := rstep_close hst
        rw [decide_eq_true (rfl : [41] = [41])]
        refine iteT ?_
        obtain ⟨it', ⟨e, o⟩, rfl, hwa, R2⟩ := R.pop hW
        have hwe : H3 e = some (.tup [.str w1, .ref o]) := hwa.1
        have hwo : H3 o = some (.lst (ni os)) := hwa.2
        have hol := (R.ne.2.2.2 (e, o) (by simp)).2.2
        have hzo := R.zo (w1, os) (by rw [hW]; simp)
        refine ⟨_, rfl, _, rfl, l, e, o, es1 it', w1, os, s.b, nd, rfl, by rw [R.hl]; unfold es1; rw [List.map_append]; rfl, hwe, hwo, hol, by have : os.length ≤ i := hzo; omega, hb, hop, fun a H4 e4 ha => ?_⟩
        refine ⟨_, rfl, rfl, _, rfl, ?_⟩
        rw [decide_eq_false (show ¬ V.ref a = V.non by intro z; cases z)]
        refine iteF ⟨_, rfl, _, rfl, _, rfl, ?_⟩
        dsimp only [tNil]
        refine (R2.mono e4).add (P := P) (by omega) ha fun H5 R5 => ?_
        exact ⟨_, _, _, _, _, rfl, R5, hrr'⟩
      rw [decide_eq_false h41]
      refine iteF ?_
      obtain ⟨hb, hcase⟩ := rstep_else h44 h41 hst
      refine ⟨_, rfl, s.b, rfl, ?_⟩
      rw [hb]
      refine iteF ?_
      obtain ⟨r, c, rfl⟩ : ∃ r c, pc = r ++ [c] := by
        rcases List.eq_nil_or_concat pc with h | ⟨r, c, h⟩
        · exact absurd h hmem.1
        · exact ⟨r, c, by rw [h, List.concat_eq_append]⟩
      have hz1 : (ofL (r ++ [c])).length ≤ sizeLine := sz_of (by have := hmem.2; omega)
      refine ⟨_, rfl, 1, rfl, ofL (r ++ [c]), -1, c, rfl, rfl, hz1, by rw [show (ofL (r ++ [c])).cps.toList = r ++ [c] from tl_ofL _]; exact UL.last_at (List.getLast?_concat ..), rfl, _, rfl, ?_⟩
      rw [show decide (V.str ⟨#[c]⟩ = V.str "(") = decide (c = 40) from sgn_eq c 40]
      rcases hcase with ⟨hl, rfl⟩ | ⟨hl, hk, rfl⟩
      · obtain rfl : c = 40 := by rw [List.getLast?_concat] at hl; exact Option.some.inj hl
        rw [decide_eq_true (rfl : 40 = 40)]
        refine iteT ?_
        rw [List.dropLast_concat] at hrr'
        refine ⟨_, rfl, .inl ⟨rfl, _, SqL.of R.hl⟩, _, rfl, 1, rfl, _, rfl, _, rfl, hz1, Nat.zero_le _, fun o ho => ⟨sz_of (by show 2 ≤ 100000; decide), fun e he => ?_⟩⟩
        have R2 := R.push (w := ofL r) ho he
        rw [show cutS (ofL (r ++ [40])) none (some (-1)) = ofL r by rw [UL.cut_last, List.dropLast_concat]]
        have hl3 : upd (upd H3 o (.lst [])) e (.tup [.str (ofL r), .ref o]) l = some (.lst (es1 it)) := ((R.mono (Ex.new (o := .lst []) ho)).mono (Ex.new (o := .tup [.str (ofL r), .ref o]) he)).hl
        exact ⟨l, _, _, rfl, rfl, hl3, sz_lt (by rw [show (es1 it).length = it.length from List.length_map _]; have := R.zW; omega), _, as, it ++ [(e, o)], _, _, rfl, R2, hrr'⟩
      · have hc : c ≠ 40 := fun z => hl (by rw [z, List.getLast?_concat])
        rw [decide_eq_false hc]
        refine iteF ?_
        have hk8 := okS_len hk
        refine ⟨_, rfl, _, rfl, .inl ⟨_, rfl, by omega⟩, fun H4 e4 => ?_⟩
        rw [show nm (.str (ofL (r ++ [c]))) = true from hk]
        refine ⟨_, rfl, iteT ⟨_, rfl, _, rfl, _, rfl, sz_of (by show 2 ≤ 100000; decide), fun a ha => ?_⟩⟩
        dsimp only [tNil]
        refine ((R.mono e4).mono (Ex.new ha)).add (P := P) (nd := .name (ofL (r ++ [c]))) (by omega) upd_same fun H5 R5 => ?_
        exact ⟨_, _, _, _, _, rfl, R5, hrr'⟩
    · rintro σ' H2 ⟨s, as, it, v4, v5, rfl, R, hrr⟩
      rw [List.length_map, List.drop_length] at hrr
      obtain rfl := Option.some.inj hrr
      have hit : it = [] := by
        have hw := R.hW
        cases hw
        rfl
      refine ⟨_, rfl, true, rfl, iteT ⟨_, rfl, false, .inl ⟨_, SqL.of R.hl, by rw [hit]; rfl⟩, iteT ⟨_, rfl, ?_⟩⟩⟩
      exact k N as H2 R.ex hNn R.hN R.hA
end
end K11

set_option Elab.async false
set_option linter.all false
set_option maxRecDepth 100000
namespace K11
open PySem PySem.Spec PyProof.Rows L2 Evl TL UL StX
section
variable {P : Program} {w : World} {K : PySem.W.Frag} {mg : Str → Option Value} {base : Heap} {A : Adr}
/-! ### operands, ranges -/
theorem no_name : opsT.lookup ("name" : Str) = none := by decide +kernel
theorem no_call : opsT.lookup ("call" : Str) = none := by decide +kernel
theorem opw_ne {w : Str} {os : List Nat} (h : WfNd (.op w os)) : w ≠ "name" ∧ w ≠ "call" := by
  have h : opsT.lookup w = some (os.length : Int) := h
  exact ⟨(fun z => by rw [z, no_name] at h; cases h), (fun z => by rw [z, no_call] at h; cases h)⟩
theorem str_eqb (a b : Str) : decide (V.str a = V.str b) = decide (a = b) := decide_eq_decide.mpr ⟨fun h => by injection h, fun h => by rw [h]⟩
theorem ni_len (os : List Nat) : (ni os).length = os.length := List.length_map _
def spOpsOf : Sp := fun vs H Q _ => ∃ a nd, vs = [.ref a] ∧ NdAt H a nd ∧ WfNd nd ∧ ∀ p H', Ex H H' → H' p = some (.tup (ni (opsOf nd))) → Q (.ref p) H'
theorem ok_operands_of (T : Tx0 w K mg A) : FnOk P w K mg base CX0 1 A.operands_of A.d_operands_of p_operands_of spOpsOf := by
  refine T.F_operands_of.ok sc_operands_of (fun vs H Q E h => ?_) (fun cdv Ar outer s H vs Q E hr h => ?_)
  · obtain ⟨a, nd, rfl, _⟩ := h
    rfl
  · obtain ⟨a, nd, rfl, ha, hw, k⟩ := h
    refine ⟨_, (pss_cons (ps_if (pt_cmpR op_eq (pe_ix ix_tup (pv 0) pe_int (fun _ _ => rfl)) pe_str (nomark _)) (pss_one (ps_ret (pe_tup pa_nil))) pss_nil)
      (pss_cons (ps_if (pt_cmpR op_eq (pe_ix ix_tup (pv 0) pe_int (fun _ _ => rfl)) pe_str (nomark _)) (pss_one (ps_ret (pe_ix ix_tup (pv 0) pe_int (fun _ _ => rfl)))) pss_nil)
      (pss_one (ps_ret (pe_slice sl_tup (pv 0) (po_some pe_int) po_none))))), ?_⟩
    cases nd with
    | name wd =>
      have h : H a = some (.tup [.str "name", .str wd]) := ha
      refine ⟨_, rfl, a, _, 0, .str "name", rfl, rfl, SqT.of h, atI_nat (j := 0) rfl, rfl, _, rfl, ?_⟩
      rw [str_eqb, decide_eq_true rfl]
      exact iteT ⟨Nat.zero_le _, fun p hp => k p _ (Ex.new hp) upd_same⟩
    | call wd os =>
      obtain ⟨t, h, ht⟩ := ha
      refine ⟨_, rfl, a, _, 0, .str "call", rfl, rfl, SqT.of h, atI_nat (j := 0) rfl, rfl, _, rfl, ?_⟩
      rw [str_eqb, decide_eq_false (by decide +kernel)]
      refine iteF ⟨_, rfl, a, _, 0, .str "call", rfl, rfl, SqT.of h, atI_nat (j := 0) rfl, rfl, _, rfl, ?_⟩
      rw [str_eqb, decide_eq_true rfl]
      exact iteT ⟨_, rfl, a, _, 2, .ref t, rfl, rfl, SqT.of h, atI_nat (j := 2) rfl, k t _ (Ex.refl H) ht⟩
    | op wd os =>
      have h : H a = some (.tup (.str wd :: ni os)) := ha
      obtain ⟨n1, n2⟩ := opw_ne hw
      refine ⟨_, rfl, a, _, 0, .str wd, rfl, rfl, SqT.of h, atI_nat (j := 0) rfl, rfl, _, rfl, ?_⟩
      rw [str_eqb, decide_eq_false n1]
      refine iteF ⟨_, rfl, a, _, 0, .str wd, rfl, rfl, SqT.of h, atI_nat (j := 0) rfl, rfl, _, rfl, ?_⟩
      rw [str_eqb, decide_eq_false n2]
      refine iteF ⟨_, rfl, 1, rfl, a, _, rfl, SqT.of h, fun z => ?_, fun p hp => k p _ (Ex.new hp) (by rw [upd_same, show cutV (V.str wd :: ni os) (some 1) none = (V.str wd :: ni os).drop 1 from UL.cut_from _ 1]; rfl)⟩
      have z1 := z.1
      rw [show HT.sIx (V.str wd :: ni os).length 0 (some 1) = min 1 (V.str wd :: ni os).length from HT.sIx_nat _ 0 1, List.length_cons] at z1
      omega
def spFirsts : Sp := fun vs H Q _ => ∃ N as ns, vs = [.ref N] ∧ H N = some (.lst (as.map V.ref)) ∧ Al2 (NdAt H) as ns ∧ WfN ns ∧ ns.length ≤ 1000 ∧ ∀ p H', Ex H H' → H' p = some (.lst (ni (firstsL ns))) → H p = none → Q (.ref p) H'
theorem ok_firsts_of (T : Tx0 w K mg A) : FnOk P w K mg base CX0 2 A.firsts_of A.d_firsts_of p_firsts_of spFirsts := by
  refine T.F_firsts_of.ok sc_firsts_of (fun vs H Q E h => ?_) (fun cdv Ar outer s H vs Q E hr h => ?_)
  · obtain ⟨N, as, ns, rfl, _⟩ := h
    rfl
  · obtain ⟨N, as, ns, rfl, hN, hA, hwf, hz, k⟩ := h
    refine ⟨_, (pss_cons (ps_set (i := 1) sc_firsts_of.nd rfl (Or.inl rfl) (pe_lst pa_nil))
      (pss_cons (ps_for PassesOwn.never rfl (pi_enum (by rfl) T.m_enumerate (pa_cons (pv 0) pa_nil)) (pg_tup (n := 2) rfl (pgs_cons (pg_name (i := 2) sc_firsts_of.nd rfl (Or.inl rfl)) (pgs_cons (pg_name (i := 3) sc_firsts_of.nd rfl (Or.inl rfl)) pgs_nil))) (pss_cons (ps_set (i := 4) sc_firsts_of.nd rfl (Or.inl rfl) (pe_call (ok_operands_of T) (hr.mono (by decide)) (by rfl) T.g_operands_of T.F_operands_of.kp T.b_operands_of .nil pass0 (pa_cons (pv 3) pa_nil)))
        (pss_one (ps_expr (pe_bm PySem.F.plainAttrs_list PySem.F.slot_list_append PySem.F.type_list_append mt_append (pv 1) (pa_cons (pe_ifExp (pt_truth (pv 4) (fun _ => rfl)) (pe_ix ix_list (pv 1) (pe_ix ix_tup (pv 4) pe_int (fun _ _ => rfl)) (fun _ _ => rfl)) (pv 2)) pa_nil))))))
      (pss_one (ps_ret (pv 1))))), ?_⟩
    refine ⟨Nat.zero_le _, fun p hp => ?_⟩
    have hlen := hA.len
    refine ⟨_, rfl, N, _, rfl, SqL.of ((Ex.new hp) _ _ hN), ?_⟩
    refine for_it (walk_enum (xs := as.map V.ref)) (fun i σ' H' => ∃ v2 v3 v4, σ' = [some (.ref N), some (.ref p), v2, v3, v4] ∧ Ex H H' ∧ H' p = some (.lst (ni (firstsL (ns.take i))))) ⟨_, _, _, rfl, Ex.new hp, upd_same⟩ (fun i σ' H' _ ⟨_, _, _, _, e, _⟩ => SqL.of (e _ _ hN)) ?_ ?_
    · rintro i x σ' H1 H2 hi ⟨v2, v3, v4, rfl, e1, hL⟩ ⟨Tt, y1, y2, rfl, hT, rfl, h1, h2⟩
      rw [List.length_map] at hi
      cases h1
      obtain ⟨a, ha, rfl⟩ : ∃ a, as[i]? = some a ∧ V.ref a = y2 := by
        have h3 : (as.map V.ref)[i]? = some y2 := h2
        rw [List.getElem?_map] at h3
        exact Option.map_eq_some_iff.mp h3
      obtain ⟨nd, hnd, had⟩ := hA.get i a ha
      obtain ⟨w1, w2⟩ := hwf i nd hnd
      have e2 := Ex.new (o := .tup [.int (i : Nat), .ref a]) hT
      have hL2 := e2 _ _ hL
      have e12 := e1.trans e2
      have hTt : upd H1 Tt (.tup [.int (i : Nat), .ref a]) Tt = some (.tup [.int (i : Nat), .ref a]) := upd_same
      refine ⟨Tt, _, rfl, SqT.of hTt, rfl, _, _, rfl, _, _, rfl, rfl, ?_⟩
      refine ⟨_, rfl, a, nd, rfl, had.mono e12, w1, fun q H3 e3 hq => ?_⟩
      have hL3 := e3 _ _ hL2
      have e13 := e12.trans e3
      have hfl : (firstsL (ns.take i)).length = i := by rw [firstsL_len, List.length_take]; omega
      have htk : ns.take (i + 1) = ns.take i ++ [nd] := by rw [List.take_succ, hnd]; rfl
      have fin : ∀ n : Nat, n = fstOf (firstsL (ns.take i)) nd → upd H3 p (.lst (ni (firstsL (ns.take i)) ++ [.int (n : Int)])) p = some (.lst (ni (firstsL (ns.take (i + 1))))) := fun n e => by
        rw [upd_same, htk, firstsL_snoc, e]
        unfold ni
        rw [List.map_append]
        rfl
      have hsz : (ni (firstsL (ns.take i))).length < sizeLine := sz_lt (by rw [ni_len]; omega)
      refine ⟨_, rfl, .inl ⟨rfl, _, SqL.of hL3⟩, _, rfl, ?_⟩
      cases ho : opsOf nd with
      | nil =>
        rw [ho] at hq
        exact ⟨false, .inr (.inl ⟨_, SqT.of hq, rfl⟩), iteF ⟨_, rfl, p, _, _, rfl, rfl, hL3, hsz, _, _, _, rfl, e13.mut hp, fin i (by unfold fstOf; rw [ho, hfl])⟩⟩
      | cons n r =>
        rw [ho] at hq
        have hn : n < i := w2 n (by rw [ho]; exact List.mem_cons_self)
        have hg : (ni (firstsL (ns.take i)))[n]? = some (.int (((firstsL (ns.take i)).getD n 0 : Nat) : Int)) := by
          unfold ni
          rw [List.getElem?_map, List.getD_eq_getElem?_getD, List.getElem?_eq_getElem (by omega)]
          rfl
        exact ⟨true, .inr (.inl ⟨_, SqT.of hq, rfl⟩), iteT ⟨_, rfl, _, rfl, q, _, 0, .int (n : Int), rfl, rfl, SqT.of hq, atI_nat (j := 0) rfl, p, _, (n : Int), _, rfl, rfl, SqL.of hL3, atI_nat hg, p, _, _, rfl, rfl, hL3, hsz, _, _, _, rfl, e13.mut hp, fin _ (by unfold fstOf; rw [ho])⟩⟩
    · rintro σ' H1 ⟨v2, v3, v4, rfl, e1, hL⟩
      rw [List.length_map, hlen, List.take_length] at hL
      exact ⟨_, rfl, k p H1 e1 hL hp⟩
/-! ### the class -/
def exF (t f : Addr) : List (Str × V) := putF "_firsts" (.ref f) (putF "_nodes" (.ref t) [])
def ExAt (C : Addr) (H : Hp) (x : Addr) (ns : List Nd) : Prop := ∃ dx t f as, H x = some (.ins C dx (exF t f)) ∧ H t = some (.tup (as.map V.ref)) ∧ Al2 (NdAt H) as ns ∧ H f = some (.lst (ni (firstsL ns)))
theorem ExAt.mono {C : Addr} {H H' : Hp} {x : Addr} {ns : List Nd} (e : Ex H H') (h : ExAt C H x ns) : ExAt C H' x ns := by
  obtain ⟨dx, t, f, as, h1, h2, h3, h4⟩ := h
  exact ⟨dx, t, f, as, e _ _ h1, e _ _ h2, h3.imp fun _ _ h => h.mono e, e _ _ h4⟩
theorem NdAt.ins {C dx : Addr} {fs gs : List (Str × V)} {H : Hp} {a x : Addr} {nd : Nd} (hx : H x = some (.ins C dx fs)) (h : NdAt H a nd) : NdAt (upd H x (.ins C dx gs)) a nd := by
  have kp : ∀ {b : Addr} {ts : List V}, H b = some (.tup ts) → upd H x (.ins C dx gs) b = some (.tup ts) := fun {b ts} e => by
    rw [upd_ne (fun z => by rw [z, hx] at e; cases e)]
    exact e
  cases nd with
  | name w => exact kp h
  | call w os =>
    obtain ⟨t, h1, h2⟩ := h
    exact ⟨t, kp h1, kp h2⟩
  | op w os => exact kp h
def spExInit (C : Addr) : Sp := fun vs H Q _ => ∃ x dx N as ns, vs = [.ref x, .ref N] ∧ H x = some (.ins C dx []) ∧ H N = some (.lst (as.map V.ref)) ∧ Al2 (NdAt H) as ns ∧ WfN ns ∧ ns.length ≤ 1000 ∧ ∀ H', (∀ b o, b ≠ x → H b = some o → H' b = some o) → ExAt C H' x ns → Q .non H'
theorem ok_ex_init (T : Tx0 w K mg A) : FnOk P w K mg base CX0 3 A.ex_init A.d_ex_init p_ex_init (spExInit A.Expression) := by
  refine T.F_ex_init.ok sc_ex_init (fun vs H Q E h => ?_) (fun cdv Ar outer s H vs Q E hr h => ?_)
  · obtain ⟨x, dx, N, as, ns, rfl, _⟩ := h
    rfl
  · obtain ⟨x, dx, N, as, ns, rfl, hx, hN, hA, hwf, hz, k⟩ := h
    refine ⟨_, (pss_cons (ps_fld (pv 0) (pe_callTy call_tuple_of (by rfl) T.m_tuple (by decide +kernel) (pa_cons (pv 1) pa_nil)) rfl)
      (pss_one (ps_fld (pv 0) (pe_call (ok_firsts_of T) (hr.mono (by decide)) (by rfl) T.g_firsts_of T.F_firsts_of.kp T.b_firsts_of .nil pass0 (pa_cons (pv 1) pa_nil)) rfl))), ?_⟩
    refine ⟨_, rfl, N, _, rfl, .inl ⟨SqL.of hN, fun t ht => ?_⟩⟩
    have e1 := Ex.new (o := .tup (as.map V.ref)) ht
    have hxt : x ≠ t := fun z => by rw [← z, hx] at ht; cases ht
    refine ⟨_, rfl, x, _, dx, _, rfl, e1 _ _ hx, T.cl_Expression, T.na_Expression__nodes, (by decide), ?_⟩
    have hx1 := e1 _ _ hx
    generalize hH1 : upd H t (.tup (as.map V.ref)) = H1 at e1 hx1
    have ht1 : H1 t = some (.tup (as.map V.ref)) := by rw [← hH1, upd_same]
    have hA1 := hA.imp fun _ _ h => h.mono e1
    have hN1 := e1 _ _ hN
    have hNx : N ≠ x := fun z => by rw [z, hx1] at hN1; cases hN1
    have htx : t ≠ x := hxt.symm
    refine ⟨_, rfl, N, as, ns, rfl, by rw [upd_ne hNx]; exact hN1, hA1.imp fun _ _ h => h.ins hx1, hwf, hz, fun p H3 e3 hp hpn => ?_⟩
    have hx3 : H3 x = some (.ins A.Expression dx (putF "_nodes" (.ref t) [])) := e3 _ _ upd_same
    have hpx : p ≠ x := fun z => by rw [z, hx3] at hp; cases hp
    refine ⟨_, rfl, x, _, dx, _, rfl, hx3, T.cl_Expression, T.na_Expression__firsts, (by show 1 < 1000; decide), ?_⟩
    have kp : ∀ b o, b ≠ x → H1 b = some o → upd H3 x (.ins A.Expression dx (exF t p)) b = some o := fun b o n h => by
      rw [upd_ne n]
      exact e3 _ _ (by rw [upd_ne n]; exact h)
    refine k _ (fun b o n h => kp b o n (e1 _ _ h)) ⟨dx, t, p, as, upd_same, kp _ _ htx ht1, ?_, by rw [upd_ne hpx]; exact hp⟩
    exact ((hA1.imp fun _ _ h => h.ins hx1).imp fun _ _ h => h.mono e3).imp fun _ _ h => h.ins hx3
theorem ex_look (t f : Addr) : (exF t f).lookup ("_nodes" : Str) = some (.ref t) := rfl
theorem ex_look2 (t f : Addr) : (exF t f).lookup ("_firsts" : Str) = some (.ref f) := rfl
def spExLen (C : Addr) : Sp := fun vs H Q _ => ∃ x ns, vs = [.ref x] ∧ ExAt C H x ns ∧ Q (.int (ns.length : Int)) H
theorem ok_ex_len (T : Tx0 w K mg A) : FnOk P w K mg base CX0 1 A.ex_len A.d_ex_len p_ex_len (spExLen A.Expression) := by
  refine T.F_ex_len.ok sc_ex_len (fun vs H Q E h => ?_) (fun cdv Ar outer s H vs Q E hr h => ?_)
  · obtain ⟨x, ns, rfl, _⟩ := h
    rfl
  · obtain ⟨x, ns, rfl, ⟨dx, t, f, as, h1, h2, h3, h4⟩, k⟩ := h
    refine ⟨_, (pss_one (ps_ret (pe_callB call_len_seq (by rfl) T.m_len PySem.boot_len (pa_cons (pe_fld (pv 0) rfl) pa_nil)))), ?_⟩
    refine ⟨_, rfl, x, _, dx, _, _, rfl, h1, T.cl_Expression, T.na_Expression__nodes, ex_look _ _, t, _, rfl, .inr (SqT.of h2), ?_⟩
    rw [List.length_map, h3.len]
    exact k
def spExNodes (C : Addr) : Sp := fun vs H Q _ => ∃ x ns, vs = [.ref x] ∧ ExAt C H x ns ∧ ∀ p as, H p = none → Al2 (NdAt H) as ns → Q (.ref p) (upd H p (.lst (as.map V.ref)))
theorem ok_ex_nodes (T : Tx0 w K mg A) : FnOk P w K mg base CX0 1 A.ex_nodes A.d_ex_nodes p_ex_nodes (spExNodes A.Expression) := by
  refine T.F_ex_nodes.ok sc_ex_nodes (fun vs H Q E h => ?_) (fun cdv Ar outer s H vs Q E hr h => ?_)
  · obtain ⟨x, ns, rfl, _⟩ := h
    rfl
  · obtain ⟨x, ns, rfl, ⟨dx, t, f, as, h1, h2, h3, h4⟩, k⟩ := h
    refine ⟨_, (pss_one (ps_ret (pe_callTy call_list_of (by rfl) T.m_list (by decide +kernel) (pa_cons (pe_fld (pv 0) rfl) pa_nil)))), ?_⟩
    exact ⟨_, rfl, x, _, dx, _, _, rfl, h1, T.cl_Expression, T.na_Expression__nodes, ex_look _ _, t, _, rfl, .inr (SqT.of h2), fun p hp => k p as hp h3⟩
def spRead (C : Addr) : Sp := fun vs H Q _ => ∃ (z : Str) (ns : List Nd), vs = [.ref C, .str z] ∧ z.length ≤ 400 ∧ rrun okS ⟨[], [], false⟩ (cutGo [] (tl z)) = some ⟨ns, [], true⟩ ∧ ns.length ≤ 20 ∧ ∀ x H', Ex H H' → ExAt C H' x ns → Q (.ref x) H'
theorem ok_ex_read (T : Tx0 w K mg A) : FnOk P w K mg base CX0 7 A.ex_read A.d_ex_read p_ex_read (spRead A.Expression) := by
  refine T.F_ex_read.ok sc_ex_read (fun vs H Q E h => ?_) (fun cdv Ar outer s H vs Q E hr h => ?_)
  · obtain ⟨z, ns, rfl, _⟩ := h
    rfl
  · obtain ⟨z, ns, rfl, hz, hrun, hn, k⟩ := h
    refine ⟨_, (pss_cons (ps_set (i := 2) sc_ex_read.nd rfl (Or.inl rfl) (pe_call (ok_nodes_of T) (hr.mono (by decide)) (by rfl) T.g_nodes_of T.F_nodes_of.kp T.b_nodes_of .nil pass0 (pa_cons (pv 1) pa_nil)))
      (pss_cons (ps_if (pt_cmpR op_isN (pv 2) pe_non (nomark _)) (pss_one ps_never) pss_nil)
      (pss_cons (ps_if (pt_cmpR op_gt (pe_callB call_len_seq (by rfl) T.m_len PySem.boot_len (pa_cons (pv 2) pa_nil)) (ClX.pe_cval (pv 0)) (nomark _)) (pss_one ps_never) pss_nil)
      (pss_one (ps_ret (UL.pe_makeL (i := 0) T.mk_Expression (ok_ex_init T) (hr.mono (by decide)) rfl (Or.inl rfl) T.b_ex_init .nil pass0 (pa_cons (pv 2) pa_nil))))))), ?_⟩
    have hwf := (rrun_wf (s := ⟨[], [], false⟩) ⟨(fun j nd h => by cases h), (fun y hy => by cases hy)⟩ hrun).wn
    refine ⟨_, rfl, z, ns, rfl, hz, hrun, fun N as H1 e1 hNn hN hA => ?_⟩
    have hlen := hA.len
    obtain ⟨u, hu⟩ := T.cv_Expression_MOST_NODES
    refine ⟨_, rfl, rfl, _, rfl, ?_⟩
    rw [decide_eq_false (show ¬ V.ref N = V.non by intro z; cases z)]
    refine iteF ⟨_, rfl, N, _, rfl, .inl (SqL.of hN), _, rfl, A.Expression, .type "type", .int 20, u, rfl, T.cr_Expression, hu, _, 20, rfl, rfl, _, rfl, ?_⟩
    rw [decide_eq_false (by rw [List.length_map]; omega)]
    refine iteF ⟨rfl, _, rfl, fun x dx hx hdx hne => ?_⟩
    have e2 := Ex.new (o := .own x) hdx
    have hx2 : upd H1 dx (.own x) x = none := by rw [upd_ne hne.symm]; exact hx
    have e3 := e2.trans (Ex.new (o := .ins A.Expression dx []) hx2)
    refine ⟨x, dx, N, as, ns, rfl, upd_same, e3 _ _ hN, hA.imp fun _ _ h => h.mono e3, hwf, by omega, fun H' kp hE => ⟨rfl, k x H' (fun b o hb => kp b o (fun z => ?_) (e3 _ _ (e1 _ _ hb))) hE⟩⟩
    have q := e1 _ _ hb
    rw [z, hx] at q
    cases q
end
end K11

set_option Elab.async false
set_option linter.all false
set_option maxRecDepth 100000
namespace K11
open PySem PySem.Spec PyProof.Rows L2 Evl TL UL StX
section
variable {P : Program} {w : World} {K : PySem.W.Frag} {mg : Str → Option Value} {base : Heap} {A : Adr}
/-! ### drawn functions -/
def FnRow (H : Hp) (a : Addr) : Prop := ∃ (w : Str) (c : Int) (m : Addr), H a = some (.lst [.str w, .int c, .ref m]) ∧ okS w = true ∧ 0 ≤ c ∧ c ≤ 4
theorem FnRow.mono {H H' : Hp} {a : Addr} (e : Ex H H') (h : FnRow H a) : FnRow H' a := by
  obtain ⟨w, c, m, h1, h2⟩ := h
  exact ⟨w, c, m, e _ _ h1, h2⟩
theorem FnRow.put {H : Hp} {F a : Addr} {as : List Addr} {ys : List V} (hF : H F = some (.lst (as.map V.ref))) (h : FnRow H a) : FnRow (upd H F (.lst ys)) a := by
  obtain ⟨w, c, m, h1, h2⟩ := h
  refine ⟨w, c, m, ?_, h2⟩
  rw [upd_ne]
  · exact h1
  · intro z
    rw [z, hF] at h1
    cases as with
    | nil => cases h1
    | cons x r => cases h1
def spFunctions : Sp := fun vs H Q _ => ∃ d, vs = [.ref d] ∧ H d = some (DrO d) ∧ ∀ p as H', Ex H H' → H' p = some (.lst (as.map V.ref)) → (∀ a ∈ as, FnRow H' a) → as ≠ [] → as.length ≤ 8 → Q (.ref p) H'
theorem ok_functions (T : Tx0 w K mg A) : FnOk P w K mg base CX0 3 A.functions A.d_functions p_functions spFunctions := by
  refine T.F_functions.ok sc_functions (fun vs H Q E h => ?_) (fun cdv Ar outer s H vs Q E hr h => ?_)
  · obtain ⟨d, rfl, _⟩ := h
    rfl
  · obtain ⟨d, rfl, hd, k⟩ := h
    refine ⟨_, (pss_cons (ps_set (i := 1) sc_functions.nd rfl (Or.inl rfl) (pe_lst (pa_cons (pe_lst (pa_cons pe_str (pa_cons pe_int (pa_cons (pe_lst pa_nil) pa_nil)))) (pa_cons (pe_lst (pa_cons pe_str (pa_cons pe_int (pa_cons (pe_lst pa_nil) pa_nil)))) pa_nil))))
      (pss_cons (ps_for PassesOwn.never rfl (pi_range1 (by rfl) T.m_range (pa_cons (pe_call (ok_take T) (hr.mono (by decide)) (by rfl) T.g_take T.F_take.kp T.b_take .nil pass0 (pa_cons (pv 0) (pa_cons pe_int pa_nil))) pa_nil)) (pg_name (i := 2) sc_functions.nd rfl (Or.inl rfl)) (pss_cons (ps_set (i := 3) sc_functions.nd rfl (Or.inl rfl) (pe_call (ok_name T) (hr.mono (by decide)) (by rfl) T.g_name T.F_name.kp T.b_name .nil pass0 (pa_cons (pv 0) (pa_cons (pv 2) pa_nil))))
        (Evl.pss_cut (ps_if (pt_cmpR op_eq (pv 3) pe_str (nomark _)) (pss_one (ps_set (i := 3) sc_functions.nd rfl (Or.inl rfl) pe_str)) pss_nil)
        (Evl.pss_cut (ps_if (pt_cmpR op_eq (pv 3) pe_str (nomark _)) (pss_one (ps_set (i := 3) sc_functions.nd rfl (Or.inl rfl) pe_str)) pss_nil)
        (pss_cons (ps_set (i := 4) sc_functions.nd rfl (Or.inl rfl) (pe_call (ok_take T) (hr.mono (by decide)) (by rfl) T.g_take T.F_take.kp T.b_take .nil pass0 (pa_cons (pv 0) (pa_cons pe_int pa_nil))))
        (pss_cons (ps_set (i := 5) sc_functions.nd rfl (Or.inr rfl) (pe_call (ok_take T) (hr.mono (by decide)) (by rfl) T.g_take T.F_take.kp T.b_take .nil pass0 (pa_cons (pv 0) (pa_cons pe_int pa_nil))))
        (pss_cons (ps_setLc (i := 6) (own := [("_law_j", 7)]) (g := gName 7) rfl sc_functions.nd rfl rfl (sw_true rfl rfl rfl (by decide +kernel)) (pi_range1 (by rfl) T.m_range (pa_cons (pv 4) pa_nil)) (blkOk_by (N := n_functions) (sc := defScope s_functions) (by decide +kernel)) (fun _ _ _ _ _ => pg_name (i := 7) sc_functions.nd rfl (Or.inl rfl)) (fun _ _ _ _ _ => pts_one (pt_cmpR op_eq (pe_op op_mod (pe_callTy call_int1 (by rfl) T.m_int (by decide +kernel) (pa_cons (pe_op op_fdiv (pv 5) (pe_ix (show IxR _ (rIxL K) from ix_list) (pe_lst (pa_cons pe_int (pa_cons pe_int (pa_cons pe_int (pa_cons pe_int pa_nil))))) (pv 7) (fun _ _ => rfl))) pa_nil)) pe_int) pe_int (nomark _))) (fun _ _ _ _ _ => (pe_op op_add (pv 7) pe_int)))
        (pss_one (ps_expr (pe_bm PySem.F.plainAttrs_list PySem.F.slot_list_append PySem.F.type_list_append mt_append (pv 1) (pa_cons (pe_lst (pa_cons (pv 3) (pa_cons (pv 4) (pa_cons (pv 6) pa_nil)))) pa_nil)))))))))))
      (pss_one (ps_ret (pv 1))))), ?_⟩
    refine ⟨Nat.zero_le _, fun l1 hl1 => ⟨sz_of (by show 3 ≤ 100000; decide), fun r1 hr1 => ⟨Nat.zero_le _, fun l2 hl2 => ⟨sz_of (by show 3 ≤ 100000; decide), fun r2 hr2 => ⟨sz_of (by show 2 ≤ 100000; decide), fun F hF => ?_⟩⟩⟩⟩⟩
    have e1 := Ex.new (o := .lst []) hl1
    have e2 := Ex.new (o := .lst [.str "new", .int 0, .ref l1]) hr1
    have e3 := Ex.new (o := .lst []) hl2
    have e4 := Ex.new (o := .lst [.str "copy", .int 1, .ref l2]) hr2
    have e5 := Ex.new (o := .lst [.ref r1, .ref r2]) hF
    have f1 : FnRow (upd (upd H l1 (.lst [])) r1 (.lst [.str "new", .int 0, .ref l1])) r1 := ⟨"new", 0, l1, upd_same, by decide +kernel, by decide, by decide⟩
    have f2 : FnRow (upd (upd (upd (upd H l1 (.lst [])) r1 (.lst [.str "new", .int 0, .ref l1])) l2 (.lst [])) r2 (.lst [.str "copy", .int 1, .ref l2])) r2 := ⟨"copy", 1, l2, upd_same, by decide +kernel, by decide, by decide⟩
    have eA := (((e1.trans e2).trans e3).trans e4)
    have e0 := eA.trans e5
    have g1 := ((f1.mono e3).mono e4).mono e5
    have g2 := f2.mono e5
    have hFH : H F = none := eA.free' hF
    have inv0 : ∃ as : List Addr, upd (upd (upd (upd (upd H l1 (.lst [])) r1 (.lst [.str "new", .int 0, .ref l1])) l2 (.lst [])) r2 (.lst [.str "copy", .int 1, .ref l2])) F (.lst [.ref r1, .ref r2]) F = some (.lst (as.map V.ref)) ∧ (∀ a ∈ as, FnRow (upd (upd (upd (upd (upd H l1 (.lst [])) r1 (.lst [.str "new", .int 0, .ref l1])) l2 (.lst [])) r2 (.lst [.str "copy", .int 1, .ref l2])) F (.lst [.ref r1, .ref r2])) a) ∧ as.length = 2 + 0 :=
      ⟨[r1, r2], upd_same, fun a ha => by
        simp only [List.mem_cons, List.not_mem_nil, or_false] at ha
        rcases ha with rfl | rfl
        · exact g1
        · exact g2, rfl⟩
    obtain ⟨as0, i1, i2, i3⟩ := inv0
    refine ⟨_, rfl, d, _, rfl, e0 _ _ hd, by decide, fun m m0 m1 => ⟨m, rfl, forR1 ⟨by omega, by omega⟩ (fun i σ' H' => ∃ v2 v3 v4 v5 v6 v7 as, σ' = [some (.ref d), some (.ref F), v2, v3, v4, v5, v6, v7] ∧ Ex H H' ∧ H' F = some (.lst (as.map V.ref)) ∧ (∀ a ∈ as, FnRow H' a) ∧ as.length = 2 + i) ⟨_, _, _, _, _, _, as0, rfl, e0, i1, i2, i3⟩ ?_ ?_⟩⟩
    · rintro i σ' H' hi ⟨v2, v3, v4, v5, v6, v7, as, rfl, e6, hL, hf, hl⟩
      have hi' : i < 5 := by omega
      refine ⟨_, rfl, _, rfl, d, (i : Int), rfl, e6 _ _ hd, by omega, by omega, fun z H2 hz e7 => ?_⟩
      refine ⟨fun σ2 H3 => ∃ z, okS z = true ∧ σ2 = [some (.ref d), some (.ref F), some (.int (i : Int)), some (.str z), v4, v5, v6, v7] ∧ H3 = H2, ?_, ?_⟩
      · refine ⟨_, rfl, rfl, _, rfl, ite2 (fun _ => ?_) (fun _ => ?_)⟩
        · exact ⟨"news", by decide +kernel, rfl, rfl⟩
        · exact ⟨z, hz, rfl, rfl⟩
      rintro σ2 H3 ⟨z1, hz1, rfl, rfl⟩
      refine ⟨fun σ2 H3' => ∃ z, okS z = true ∧ σ2 = [some (.ref d), some (.ref F), some (.int (i : Int)), some (.str z), v4, v5, v6, v7] ∧ H3' = H3, ?_, ?_⟩
      · refine ⟨_, rfl, rfl, _, rfl, ite2 (fun _ => ?_) (fun _ => ?_)⟩
        · exact ⟨"copys", by decide +kernel, rfl, rfl⟩
        · exact ⟨z1, hz1, rfl, rfl⟩
      rintro σ3 H4 ⟨z2, hz2, rfl, rfl⟩
      have e8 := e6.trans e7
      refine ⟨_, rfl, d, _, rfl, e8 _ _ hd, by decide, fun n n0 n1 => ⟨_, rfl, d, _, rfl, e8 _ _ hd, by decide, fun q q0 q1 => ?_⟩⟩
      refine ⟨_, rfl, n, rfl, by omega, by omega, fun D hD => ?_⟩
      refine lc_range (lo := 0) (n := n.toNat) (fun j H' => Ex H4 H' ∧ ∃ ns : List V, H' D = some (.lst ns) ∧ ns.length ≤ j) ⟨Ex.new hD, [], upd_same, Nat.le_refl _⟩ ?_ ?_
      · rintro j H5 hj ⟨e9, ns, hLn, hln⟩
        have z0 : (0 : Int) + (j : Int) = (j : Int) := Int.zero_add _
        refine ⟨rfl, ?_⟩
        rw [z0]
        refine ⟨_, rfl, sz_of (by show 4 ≤ 100000; decide), fun p hp => ?_⟩
        have hj4 : j < 4 := by omega
        obtain ⟨r, hr⟩ : ∃ r : Int, atI [V.int 1, V.int 2, V.int 4, V.int 8] (j : Int) = some (.int r) ∧ 0 < r ∧ r < 1073741824 := by
          have : j = 0 ∨ j = 1 ∨ j = 2 ∨ j = 3 := by omega
          rcases this with h | h | h | h <;> subst h
          · exact ⟨1, atI_nat (j := 0) rfl, by decide, by decide⟩
          · exact ⟨2, atI_nat (j := 1) rfl, by decide, by decide⟩
          · exact ⟨4, atI_nat (j := 2) rfl, by decide, by decide⟩
          · exact ⟨8, atI_nat (j := 3) rfl, by decide, by decide⟩
        have eP := Ex.new (o := .lst [.int 1, .int 2, .int 4, .int 8]) hp
        refine ⟨_, rfl, p, _, _, _, rfl, rfl, SqL.of upd_same, hr.1, q, r, rfl, rfl, ⟨hr.2.1, hr.2.2⟩, .inl ⟨_, rfl, _, 2, rfl, rfl, (show (0 : Int) < 2 by decide), rfl, _, rfl, ite2 (fun _ => ?_) (fun _ => ?_)⟩⟩
        · exact ⟨_, rfl, _, 1, rfl, rfl, _, eP _ _ hLn, sz_lt (by omega), (e9.trans eP).mut hD, _, upd_same, by rw [List.length_append, List.length_singleton]; omega⟩
        · exact ⟨e9.trans eP, ns, eP _ _ hLn, by omega⟩
      · rintro H5 ⟨e9, ns, hLn, hln⟩
        have eB := e8.trans e9
        refine ⟨_, rfl, .inl ⟨rfl, _, SqL.of (e9 _ _ (e7 _ _ hL))⟩, _, rfl, _, rfl, _, rfl, sz_of (by show 3 ≤ 100000; decide), fun p hp => ?_⟩
        have eP := Ex.new (o := .lst [.str z2, .int n, .ref D]) hp
        have hL6 := eP _ _ (e9 _ _ (e7 _ _ hL))
        refine ⟨F, _, _, rfl, rfl, hL6, sz_lt (by rw [List.length_map]; omega), _, _, _, _, _, _, as ++ [p], rfl, (eB.trans eP).mut hFH, by rw [upd_same, List.map_append]; rfl, fun a ha => ?_, by rw [List.length_append, List.length_singleton]; omega⟩
        rcases List.mem_append.mp ha with h | h
        · exact ((((hf a h).mono e7).mono e9).mono eP).put hL6
        · rw [List.mem_singleton.mp h]
          exact FnRow.put hL6 ⟨z2, n, D, upd_same, hz2, n0, by omega⟩
    · rintro σ' H' ⟨v2, v3, v4, v5, v6, v7, as, rfl, e6, hL, hf, hl⟩
      exact ⟨_, rfl, k F as H' e6 hL hf (fun z => by rw [z] at hl; rw [List.length_nil] at hl; omega) (by omega)⟩
end
end K11

set_option Elab.async false
set_option linter.all false
set_option maxRecDepth 100000
namespace K11
open PySem PySem.Spec PyProof.Rows L2 Evl TL UL StX
section
variable {P : Program} {w : World} {K : PySem.W.Frag} {mg : Str → Option Value} {base : Heap} {A : Adr}
/-! ### expressions made on a stack -/
theorem joinL_C : ∀ ts : List (List Nat), joinL [44] ts = joinC ts
  | [] => rfl
  | [t] => rfl
  | t :: u :: r => by
    rw [joinL, joinC, joinL_C (u :: r)]
    rfl
theorem join_C (ts : List (List Nat)) : Txt.join "," (ts.map ofL) = ofL (joinC ts) := by
  have h : tl (Txt.join "," (ts.map ofL)) = joinC ts := by
    rw [join_eq, tl_join, List.map_map, show tl "," = [44] by decide +kernel, show (tl ∘ ofL) = id from funext fun l => tl_ofL l, List.map_id, joinL_C]
  rw [← ofL_tl (Txt.join "," (ts.map ofL)), h]
theorem joinC_len : ∀ ts : List (List Nat), (joinC ts).length ≤ (ts.map List.length).sum + ts.length
  | [] => Nat.le_refl _
  | [t] => by simp [joinC]
  | t :: u :: r => by
    have := joinC_len (u :: r)
    rw [joinC, List.length_append, List.length_cons, List.map_cons, List.sum_cons, List.length_cons]
    omega
theorem ofL_app (a b : List Nat) : ofL a ++ ofL b = ofL (a ++ b) := by
  have h : tl (ofL a ++ ofL b) = a ++ b := by rw [tl_append, tl_ofL, tl_ofL]
  rw [← ofL_tl (ofL a ++ ofL b), h]
theorem len_app (x y : Str) : (x ++ y).length = x.length + y.length := by rw [len_tl, tl_append, List.length_append, ← len_tl, ← len_tl]
theorem ofL_len (l : List Nat) : (ofL l).length = l.length := by rw [len_tl, tl_ofL]
theorem alnum_plain {c : Nat} (h : alnum c = true) : c ≠ 40 ∧ c ≠ 41 ∧ c ≠ 44 :=
  ⟨fun z => by rw [z] at h; revert h; decide +kernel, fun z => by rw [z] at h; revert h; decide +kernel, fun z => by rw [z] at h; revert h; decide +kernel⟩
theorem okS_all {z : Str} (h : okS z = true) : (tl z).all alnum = true ∧ tl z ≠ [] := by
  unfold okS at h
  rw [Bool.and_eq_true, Bool.and_eq_true, Bool.and_eq_true, Bool.and_eq_true] at h
  refine ⟨h.2, fun e => ?_⟩
  have := h.1.1.2
  rw [e] at this
  cases this
theorem okS_plain {z : Str} (h : okS z = true) : plainL (tl z) := fun c hc => alnum_plain (List.all_eq_true.mp (okS_all h).1 c hc)
theorem ops_cases {w : Str} {n : Int} (h : opsT.lookup w = some n) : (w = "part" ∧ n = 1) ∨ (w = "pick" ∧ n = 2) ∨ (w = "then" ∧ n = 2) := by
  unfold opsT at h
  by_cases h1 : w = "part"
  · subst h1
    rw [List.lookup_cons_self] at h
    exact .inl ⟨rfl, (Option.some.inj h).symm⟩
  rw [lookup_put2 h1] at h
  by_cases h2 : w = "pick"
  · subst h2
    rw [List.lookup_cons_self] at h
    exact .inr (.inl ⟨rfl, (Option.some.inj h).symm⟩)
  rw [lookup_put2 h2] at h
  by_cases h3 : w = "then"
  · subst h3
    rw [List.lookup_cons_self] at h
    exact .inr (.inr ⟨rfl, (Option.some.inj h).symm⟩)
  rw [lookup_put2 h3] at h
  cases h
theorem op_plain {w : Str} {n : Int} (h : opsT.lookup w = some n) : plainL (tl w) ∧ w.length ≤ 8 := by
  rcases ops_cases h with ⟨rfl, _⟩ | ⟨rfl, _⟩ | ⟨rfl, _⟩ <;> exact ⟨by unfold plainL; decide +kernel, by decide +kernel⟩
theorem okS_noop {w : Str} (h : okS w = true) : opsT.lookup w = none := by
  cases e : opsT.lookup w with
  | none => rfl
  | some n =>
    rcases ops_cases e with ⟨rfl, _⟩ | ⟨rfl, _⟩ | ⟨rfl, _⟩
    · rw [show okS "part" = false by decide +kernel] at h; cases h
    · rw [show okS "pick" = false by decide +kernel] at h; cases h
    · rw [show okS "then" = false by decide +kernel] at h; cases h
/-- the texts and the nodes so far -/
structure LawAt (H : Hp) (h N R X : Addr) (its : List It1) (as : List Addr) : Prop where
  hh : H h = some (.lst [.ref N, .ref R, .ref X])
  hN : H N = some (.lst (as.map V.ref))
  hA : Al2 (NdAt H) as (flat its)
  hR : H R = some (.lst (ni (rootsL 0 its)))
  hX : H X = some (.lst (its.map fun i => V.str (ofL i.1)))
  nd : [h, N, R, X].Nodup
  ok : Stk okS 0 its
  le : ∀ i ∈ its, i.1.length ≤ 14 * i.2.length
theorem sum_le : ∀ b : List It1, (∀ i ∈ b, i.1.length ≤ 14 * i.2.length) → ((b.map (·.1)).map List.length).sum ≤ 14 * (flat b).length
  | [], _ => Nat.le_refl _
  | i :: b, h => by
    have := sum_le b fun j hj => h j (List.mem_cons_of_mem _ hj)
    have := h i List.mem_cons_self
    rw [show (flat (i :: b)).length = i.2.length + (flat b).length by simp [flat], List.map_cons, List.map_cons, List.sum_cons]
    omega
theorem flat_len2 : ∀ (b : List It1) (lo : Nat), Stk okS lo b → b.length ≤ (flat b).length
  | [], _, _ => Nat.le_refl _
  | (t, ns) :: b, lo, h => by
    have := flat_len2 b _ h.2
    have := List.length_pos_iff.mpr h.1.1
    rw [show (flat ((t, ns) :: b)).length = ns.length + (flat b).length by simp [flat], List.length_cons]
    omega
theorem flat_app (a b : List It1) : flat (a ++ b) = flat a ++ flat b := List.flatMap_append ..
theorem NdAt.fr {H H' : Hp} {a : Addr} {nd : Nd} {bad : Addr → Prop} (hb : ∀ x, bad x → ∃ xs, H x = some (.lst xs)) (fr : ∀ x o, ¬ bad x → H x = some o → H' x = some o) (h : NdAt H a nd) : NdAt H' a nd := by
  have kp : ∀ {b : Addr} {ts : List V}, H b = some (.tup ts) → H' b = some (.tup ts) := fun {b ts} e => fr b _ (fun z => by
    obtain ⟨xs, q⟩ := hb b z
    rw [e] at q
    cases q) e
  cases nd with
  | name w => exact kp h
  | call w os =>
    obtain ⟨t, h1, h2⟩ := h
    exact ⟨t, kp h1, kp h2⟩
  | op w os => exact kp h
theorem ni_app (a b : List Nat) : ni (a ++ b) = ni a ++ ni b := List.map_append
theorem take_pop {α : Type} {l : List α} {m : Nat} (h : m ≤ l.length) : (l.take m).dropLast = l.take (m - 1) := by
  rw [List.dropLast_eq_take, List.length_take, List.take_take, Nat.min_eq_left h]
  congr 1
  omega
theorem take_last {α : Type} {l : List α} {m : Nat} (h0 : 0 < m) (h : m ≤ l.length) : ∃ y, (l.take m)[(l.take m).length - 1]? = some y := by
  rw [List.length_take, Nat.min_eq_left h]
  exact ⟨(l.take m)[m - 1]'(by rw [List.length_take]; omega), List.getElem?_eq_getElem _⟩
def spAddL : Sp := fun vs H Q _ => ∃ (h N R X : Addr) (a b : List It1) (as : List Addr) (kind wd : Str), vs = [.ref h, .str kind, .str wd, .int (b.length : Int)] ∧ LawAt H h N R X (a ++ b) as ∧ (flat (a ++ b)).length ≤ 20 ∧ b.length ≤ 4 ∧
  ((kind = "name" ∧ okS wd = true ∧ b = []) ∨ (kind = "call" ∧ okS wd = true) ∨ (kind = wd ∧ opsT.lookup wd = some (b.length : Int))) ∧
  ∀ H' it as', (∀ x o, x ≠ N → x ≠ R → x ≠ X → H x = some o → H' x = some o) → LawAt H' h N R X (a ++ [it]) as' → it.2.length = (flat b).length + 1 → Q .non H'
theorem ok_add (T : Tx0 w K mg A) : FnOk P w K mg base CX0 1 A.add A.d_add p_add spAddL := by
  refine T.F_add.ok sc_add (fun vs H Q E h => ?_) (fun cdv Ar outer s H vs Q E hr h => ?_)
  · obtain ⟨hp, N, R, X, a, b, as, kind, wd, rfl, _⟩ := h
    rfl
  · obtain ⟨hp, N, R, X, a, b, as, kind, wd, rfl, L, h20, hb4, hk, k⟩ := h
    refine ⟨_, (pss_cons (ps_set (i := 4) sc_add.nd rfl (Or.inl rfl) (pe_ix ix_list (pv 0) pe_int (fun _ _ => rfl)))
      (pss_cons (ps_set (i := 5) sc_add.nd rfl (Or.inl rfl) (pe_ix ix_list (pv 0) pe_int (fun _ _ => rfl)))
      (pss_cons (ps_set (i := 6) sc_add.nd rfl (Or.inl rfl) (pe_ix ix_list (pv 0) pe_int (fun _ _ => rfl)))
      (pss_cons (ps_set (i := 7) sc_add.nd rfl (Or.inl rfl) (pe_op op_sub (pe_callB call_len_seq (by rfl) T.m_len PySem.boot_len (pa_cons (pv 5) pa_nil)) (pv 3)))
      (pss_cons (ps_set (i := 8) sc_add.nd rfl (Or.inl rfl) (pe_callTy call_tuple_of (by rfl) T.m_tuple (by decide +kernel) (pa_cons (pe_slice sl_list (pv 5) (po_some (pv 7)) po_none) pa_nil)))
      (pss_cons (ps_set (i := 9) sc_add.nd rfl (Or.inl rfl) (pe_op op_add_str (pe_op op_add_str (pe_op op_add_str (pv 2) pe_str) (pe_bm PySem.F.plainAttrs_str PySem.F.slot_str_join PySem.F.type_str_join mt_join pe_str (pa_cons (pe_slice sl_list (pv 6) (po_some (pv 7)) po_none) pa_nil))) pe_str))
      (pss_cons (ps_set (i := 10) sc_add.nd rfl (Or.inl rfl) (pe_op op_catT (pe_tup (pa_cons (pv 1) pa_nil)) (pv 8)))
      (Evl.pss_cut (ps_if (pt_cmpR op_eq (pv 1) pe_str (nomark _)) (pss_cons (ps_set (i := 9) sc_add.nd rfl (Or.inl rfl) (pv 2))
        (pss_one (ps_set (i := 10) sc_add.nd rfl (Or.inl rfl) (pe_tup (pa_cons (pv 1) (pa_cons (pv 2) pa_nil)))))) pss_nil)
      (Evl.pss_cut (ps_if (pt_cmpR op_eq (pv 1) pe_str (nomark _)) (pss_one (ps_set (i := 10) sc_add.nd rfl (Or.inl rfl) (pe_tup (pa_cons (pv 1) (pa_cons (pv 2) (pa_cons (pv 8) pa_nil)))))) pss_nil)
      (pss_cons (ps_for PassesOwn.never rfl (pi_range1 (by rfl) T.m_range (pa_cons (pv 3) pa_nil)) (pg_name (i := 11) sc_add.nd rfl (Or.inl rfl)) (pss_cons (ps_expr (pe_bm0 PySem.F.plainAttrs_list PySem.F.slot_list_pop PySem.F.type_list_pop mt_pop (pv 5)))
        (pss_one (ps_expr (pe_bm0 PySem.F.plainAttrs_list PySem.F.slot_list_pop PySem.F.type_list_pop mt_pop (pv 6))))))
      (pss_cons (ps_expr (pe_bm PySem.F.plainAttrs_list PySem.F.slot_list_append PySem.F.type_list_append mt_append (pv 5) (pa_cons (pe_callB call_len_seq (by rfl) T.m_len PySem.boot_len (pa_cons (pv 4) pa_nil)) pa_nil)))
      (pss_cons (ps_expr (pe_bm PySem.F.plainAttrs_list PySem.F.slot_list_append PySem.F.type_list_append mt_append (pv 6) (pa_cons (pv 9) pa_nil)))
      (pss_one (ps_expr (pe_bm PySem.F.plainAttrs_list PySem.F.slot_list_append PySem.F.type_list_append mt_append (pv 4) (pa_cons (pv 10) pa_nil)))))))))))))))), ?_⟩
    obtain ⟨hh, hN, hA, hR, hX, hnd, hok, hle⟩ := L
    have nds := hnd
    simp only [List.nodup_cons, List.mem_cons, List.not_mem_nil, or_false, not_or, List.nodup_nil, and_true, not_false_eq_true] at nds
    obtain ⟨⟨d1, d2, d3⟩, ⟨d4, d5⟩, d6⟩ := nds
    have hlen := hA.len
    have rl : (ni (rootsL 0 (a ++ b))).length = a.length + b.length := by rw [ni_len, roots_len, List.length_append]
    have hat : (((ni (rootsL 0 (a ++ b))).length : Int) - (b.length : Int)) = (a.length : Int) := by rw [rl]; omega
    have hrb : cutV (ni (rootsL 0 (a ++ b))) (some (((ni (rootsL 0 (a ++ b))).length : Int) - (b.length : Int))) none = ni (rootsL (flat a).length b) := by
      rw [hat, UL.cut_from, roots_append, ni_app, List.drop_append_of_le_length (by rw [ni_len, roots_len]; omega), List.drop_eq_nil_of_le (by rw [ni_len, roots_len]; omega), List.nil_append, Nat.zero_add]
    have hxb : cutV ((a ++ b).map fun i => V.str (ofL i.1)) (some (((ni (rootsL 0 (a ++ b))).length : Int) - (b.length : Int))) none = (b.map fun i => V.str (ofL i.1)) := by
      rw [hat, UL.cut_from, List.map_append, List.drop_append_of_le_length (by rw [List.length_map]; omega), List.drop_eq_nil_of_le (by rw [List.length_map]; omega), List.nil_append]
    obtain ⟨hoka, hokb⟩ := (stk_append okS a b 0).mp hok
    rw [Nat.zero_add] at hokb
    have hfab : (flat (a ++ b)).length = (flat a).length + (flat b).length := by rw [flat_app, List.length_append]
    have hbs : ((b.map (·.1)).map List.length).sum ≤ 14 * (flat b).length := sum_le b fun i hi => hle i (List.mem_append_right _ hi)
    have hjl : (joinC (b.map (·.1))).length ≤ 14 * (flat b).length + b.length := by
      have := joinC_len (b.map (·.1))
      rw [List.length_map] at this
      omega
    have hw8 : wd.length ≤ 8 := by
      rcases hk with ⟨_, h, _⟩ | ⟨_, h⟩ | ⟨_, h⟩
      · exact okS_len h
      · exact okS_len h
      · exact (op_plain h).2
    have b1 := Nat.le_of_eq hfab
    refine ⟨_, rfl, hp, _, 0, .ref N, rfl, rfl, SqL.of hh, atI_nat (j := 0) rfl, ?_⟩
    refine ⟨_, rfl, hp, _, 1, .ref R, rfl, rfl, SqL.of hh, atI_nat (j := 1) rfl, ?_⟩
    refine ⟨_, rfl, hp, _, 2, .ref X, rfl, rfl, SqL.of hh, atI_nat (j := 2) rfl, ?_⟩
    refine ⟨_, rfl, R, _, rfl, .inl (SqL.of hR), _, rfl, _, (b.length : Int), rfl, rfl, ?_⟩
    refine ⟨_, rfl, _, rfl, _, rfl, R, _, rfl, SqL.of hR, fun s1 hs1 => ?_⟩
    rw [hrb]
    refine ⟨s1, _, rfl, .inl ⟨SqL.of upd_same, fun t ht => ?_⟩⟩
    have e1 := Ex.new (o := .lst (ni (rootsL (flat a).length b))) hs1
    have e2 := e1.trans (Ex.new (o := .tup (ni (rootsL (flat a).length b))) ht)
    refine ⟨_, rfl, wd, _, rfl, rfl, sz_of (by show wd.length + 1 ≤ 100000; omega), ?_⟩
    have hX2 := e2 _ _ hX
    have ht2 : upd (upd H s1 (.lst (ni (rootsL (flat a).length b)))) t (.tup (ni (rootsL (flat a).length b))) t = some (.tup (ni (rootsL (flat a).length b))) := upd_same
    generalize upd (upd H s1 (.lst (ni (rootsL (flat a).length b)))) t (.tup (ni (rootsL (flat a).length b))) = H2 at e2 hX2 ht2 ⊢
    refine ⟨rfl, _, rfl, _, rfl, _, rfl, X, _, rfl, SqL.of hX2, fun s2 hs2 => ?_⟩
    rw [hxb]
    have e3 := e2.trans (Ex.new (o := .lst (b.map fun i => V.str (ofL i.1))) hs2)
    have ht3 := (Ex.new (o := .lst (b.map fun i => V.str (ofL i.1))) hs2) _ _ ht2
    have hs3 : upd H2 s2 (.lst (b.map fun i => V.str (ofL i.1))) s2 = some (.lst (((b.map (·.1)).map ofL).map V.str)) := by
      rw [upd_same, List.map_map, List.map_map]
      rfl
    generalize upd H2 s2 (.lst (b.map fun i => V.str (ofL i.1))) = H3 at e3 ht3 hs3 ⊢
    have hjn := join_C (b.map (·.1))
    have hjl2 : (Txt.join "," ((b.map (·.1)).map ofL)).length = (joinC (b.map (·.1))).length := by rw [hjn, ofL_len]
    refine ⟨",", s2, (b.map (·.1)).map ofL, rfl, rfl, .inl (SqL.of hs3), ?_, _, _, rfl, rfl, sz_of (by rw [len_app]; show wd.length + 1 + _ ≤ 100000; rw [hjl2]; omega), _, _, rfl, rfl, sz_of (by rw [len_app, len_app]; show wd.length + 1 + _ + 1 ≤ 100000; rw [hjl2]; omega), ?_⟩
    · rw [List.map_map, show (fun x : Str => x.length) ∘ ofL = List.length from funext fun l => ofL_len l, List.length_map, List.length_map]
      show _ + b.length * 1 ≤ 16777216
      omega
    have hT : tl (wd ++ "(" ++ Txt.join "," ((b.map (·.1)).map ofL) ++ ")") = tl wd ++ 40 :: joinC (b.map (·.1)) ++ [41] := by
      rw [tl_append, tl_append, tl_append, hjn, tl_ofL, show tl "(" = [40] by decide +kernel, show tl ")" = [41] by decide +kernel]
      simp
    generalize wd ++ "(" ++ Txt.join "," ((b.map (·.1)).map ofL) ++ ")" = tx at hT ⊢
    refine ⟨_, rfl, sz_of (by show 1 ≤ 100000; decide), fun k1 hk1 => ?_⟩
    have e4 := e3.trans (Ex.new (o := .tup [.str kind]) hk1)
    have ht4 := (Ex.new (o := .tup [.str kind]) hk1) _ _ ht3
    have hk4 : upd H3 k1 (.tup [.str kind]) k1 = some (.tup [.str kind]) := upd_same
    generalize upd H3 k1 (.tup [.str kind]) = H4 at e4 ht4 hk4 ⊢
    have hrn : (ni (rootsL (flat a).length b)).length = b.length := by rw [ni_len, roots_len]
    refine ⟨_, rfl, k1, t, _, _, rfl, rfl, SqT.of hk4, SqT.of ht4, by simp, sz_of (by rw [hrn]; show 1 + b.length ≤ 100000; omega), (fun e => ?_), (fun ne n0 hn0 => ?_)⟩
    · have hn0 : H4 k1 = some (.tup (.str kind :: ni (rootsL (flat a).length b))) := by rw [e]; exact hk4
      have e5 := e4
      have ht5 := ht4
      revert hn0
      generalize k1 = n0
      intro hn0
      refine ⟨fun σ' H' => ∃ (y : Str) (n : Addr), σ' = [some (.ref hp), some (.str kind), some (.str wd), some (.int (b.length : Int)), some (.ref N), some (.ref R), some (.ref X), some (.int (((ni (rootsL 0 (a ++ b))).length : Int) - (b.length : Int))), some (.ref t), some (.str y), some (.ref n), none] ∧ Ex H H' ∧ H' t = some (.tup (ni (rootsL (flat a).length b))) ∧ ((kind = "name" ∧ y = wd ∧ H' n = some (.tup [.str "name", .str wd])) ∨ (kind ≠ "name" ∧ y = tx ∧ H' n = some (.tup (.str kind :: ni (rootsL (flat a).length b))))), ?_, ?_⟩
      · refine ⟨_, rfl, rfl, _, rfl, ?_⟩
        rw [str_eqb]
        by_cases hkn : kind = "name"
        · rw [decide_eq_true hkn]
          refine iteT ⟨_, rfl, _, rfl, _, rfl, sz_of (by show 2 ≤ 100000; decide), fun n hn => ?_⟩
          exact ⟨wd, n, rfl, e5.trans (Ex.new hn), (Ex.new hn) _ _ ht5, .inl ⟨hkn, rfl, by rw [upd_same, hkn]⟩⟩
        · rw [decide_eq_false hkn]
          exact iteF ⟨tx, n0, rfl, e5, ht5, .inr ⟨hkn, rfl, hn0⟩⟩
      rintro σ' H5 ⟨y, n, rfl, e6, ht6, hcase⟩
      refine ⟨fun σ' H' => ∃ (y : Str) (n : Addr) (nd : Nd), σ' = [some (.ref hp), some (.str kind), some (.str wd), some (.int (b.length : Int)), some (.ref N), some (.ref R), some (.ref X), some (.int (((ni (rootsL 0 (a ++ b))).length : Int) - (b.length : Int))), some (.ref t), some (.str y), some (.ref n), none] ∧ Ex H H' ∧ NdAt H' n nd ∧ GoodE okS (tl y) (flat a).length (flat b ++ [nd]) ∧ y.length ≤ 14 * ((flat b).length + 1), ?_, ?_⟩
      · refine ⟨_, rfl, rfl, _, rfl, ?_⟩
        rw [str_eqb]
        have hTl : tx.length ≤ 14 * ((flat b).length + 1) := by
          rw [len_tl, hT, List.length_append, List.length_append, List.length_cons, ← len_tl]
          show wd.length + (_ + 1) + 1 ≤ _
          omega
        have hrl4 : (rootsL (flat a).length b).length = b.length := roots_len b _
        rcases hk with ⟨k1, k2, k3⟩ | ⟨k1, k2⟩ | ⟨k1, k2⟩
        · rw [decide_eq_false (by rw [k1]; decide +kernel)]
          rcases hcase with ⟨_, hy, hn⟩ | ⟨c1, _⟩
          · refine iteF ⟨y, n, .name wd, rfl, e6, hn, ?_, by rw [hy]; omega⟩
            rw [hy, k3]
            have g := good_name (okw := okS) (lo := (flat a).length) (okS_plain k2) (okS_all k2).2 (by rw [ofL_tl]; exact k2)
            rw [ofL_tl] at g
            exact g
          · exact absurd k1 c1
        · rw [decide_eq_true k1]
          rcases hcase with ⟨c1, _⟩ | ⟨_, hy, hn⟩
          · rw [k1] at c1
            exact absurd c1 (by decide +kernel)
          · refine iteT ⟨_, rfl, _, rfl, _, rfl, sz_of (by show 3 ≤ 100000; decide), fun q hq => ?_⟩
            refine ⟨y, q, .call wd (rootsL (flat a).length b), rfl, e6.trans (Ex.new hq), ⟨t, by rw [upd_same, k1], (Ex.new hq) _ _ ht6⟩, ?_, by rw [hy]; exact hTl⟩
            rw [hy, hT]
            exact good_op hokb (okS_plain k2) (by rw [ofL_tl, oper_no (okS_noop k2), if_pos ⟨k2, by omega⟩])
        · have hne := opw_ne (w := wd) (os := rootsL (flat a).length b) (by show opsT.lookup wd = some _; rw [hrl4]; exact k2)
          rw [decide_eq_false (by rw [k1]; exact hne.2)]
          rcases hcase with ⟨c1, _⟩ | ⟨_, hy, hn⟩
          · exact absurd (k1.symm.trans c1) hne.1
          · refine iteF ⟨y, n, .op wd (rootsL (flat a).length b), rfl, e6, by rw [k1] at hn; exact hn, ?_, by rw [hy]; exact hTl⟩
            rw [hy, hT]
            exact good_op hokb (op_plain k2).1 (by rw [ofL_tl, oper_at k2, if_pos (by rw [hrl4])])
      rintro σ' H6 ⟨y6, n6, nd, rfl, e7, hnd6, hgd, hyl⟩
      have hTXl : ((a ++ b).map fun i => V.str (ofL i.1)).length = a.length + b.length := by rw [List.length_map, List.length_append]
      have hR6 := e7 _ _ hR
      have hX6 := e7 _ _ hX
      refine ⟨_, rfl, (b.length : Int), rfl, forR1 ⟨by omega, by omega⟩ (fun j σ' H' => ∃ v11, σ' = [some (.ref hp), some (.str kind), some (.str wd), some (.int (b.length : Int)), some (.ref N), some (.ref R), some (.ref X), some (.int (((ni (rootsL 0 (a ++ b))).length : Int) - (b.length : Int))), some (.ref t), some (.str y6), some (.ref n6), v11] ∧ (∀ x o, x ≠ R → x ≠ X → H6 x = some o → H' x = some o) ∧ H' R = some (.lst ((ni (rootsL 0 (a ++ b))).take (a.length + b.length - j))) ∧ H' X = some (.lst (((a ++ b).map fun i => V.str (ofL i.1)).take (a.length + b.length - j)))) ⟨_, rfl, fun _ _ _ _ h => h, by rw [Nat.sub_zero, List.take_of_length_le (by rw [rl]; exact Nat.le_refl _)]; exact hR6, by rw [Nat.sub_zero, List.take_of_length_le (by rw [hTXl]; exact Nat.le_refl _)]; exact hX6⟩ ?_ ?_⟩
      · rintro j σ' H' hj ⟨v11, rfl, fr, hRj, hXj⟩
        have hj' : j < b.length := by omega
        obtain ⟨y1, hy1⟩ := take_last (l := ni (rootsL 0 (a ++ b))) (m := a.length + b.length - j) (by omega) (by rw [rl]; omega)
        obtain ⟨y2, hy2⟩ := take_last (l := (a ++ b).map fun i => V.str (ofL i.1)) (m := a.length + b.length - j) (by omega) (by rw [hTXl]; omega)
        refine ⟨_, rfl, .inl ⟨rfl, _, SqL.of hRj⟩, R, _, y1, rfl, rfl, hRj, hy1, ?_⟩
        have hXj2 : upd H' R (.lst ((ni (rootsL 0 (a ++ b))).take (a.length + b.length - j)).dropLast) X = some (.lst (((a ++ b).map fun i => V.str (ofL i.1)).take (a.length + b.length - j))) := by
          rw [upd_ne (fun z => d6 z.symm)]
          exact hXj
        refine ⟨_, rfl, .inl ⟨rfl, _, SqL.of hXj2⟩, X, _, y2, rfl, rfl, hXj2, hy2, _, rfl, fun x o h1 h2 h3 => ?_, ?_, ?_⟩
        · rw [upd_ne h2, upd_ne h1]
          exact fr x o h1 h2 h3
        · rw [upd_ne d6, upd_same, take_pop (by rw [rl]; omega)]
          rfl
        · rw [upd_same, take_pop (by rw [hTXl]; omega)]
          rfl
      · rintro σ' H7 ⟨v11, rfl, fr, hR7, hX7⟩
        rw [Int.toNat_natCast, show a.length + b.length - b.length = a.length by omega] at hR7 hX7
        rw [roots_append, ni_app, List.take_append_of_le_length (by rw [ni_len, roots_len]; omega), List.take_of_length_le (by rw [ni_len, roots_len]; omega)] at hR7
        rw [List.map_append, List.take_append_of_le_length (by rw [List.length_map]; omega), List.take_of_length_le (by rw [List.length_map]; omega)] at hX7
        have hN7 := fr N _ d4 d5 (e7 _ _ hN)
        have hh7 := fr hp _ d2 d3 (e7 _ _ hh)
        refine ⟨_, rfl, .inl ⟨rfl, _, SqL.of hR7⟩, _, rfl, N, _, rfl, .inl (SqL.of hN7), R, _, _, rfl, rfl, hR7, sz_lt (by rw [ni_len, roots_len]; have := flat_len2 a 0 hoka; omega), ?_⟩
        have hX8 : upd H7 R (.lst (ni (rootsL 0 a) ++ [.int ((as.map V.ref).length : Int)])) X = some (.lst (a.map fun i => V.str (ofL i.1))) := by
          rw [upd_ne (fun z => d6 z.symm)]
          exact hX7
        refine ⟨_, rfl, .inl ⟨rfl, _, SqL.of hX8⟩, _, rfl, X, _, _, rfl, rfl, hX8, sz_lt (by rw [List.length_map]; have := flat_len2 a 0 hoka; omega), ?_⟩
        have hN9 : upd (upd H7 R (.lst (ni (rootsL 0 a) ++ [.int ((as.map V.ref).length : Int)]))) X (.lst ((a.map fun i => V.str (ofL i.1)) ++ [.str y6])) N = some (.lst (as.map V.ref)) := by
          rw [upd_ne d5, upd_ne d4]
          exact hN7
        refine ⟨_, rfl, .inl ⟨rfl, _, SqL.of hN9⟩, _, rfl, N, _, _, rfl, rfl, hN9, sz_lt (by rw [List.length_map]; omega), ?_⟩
        have kp : ∀ {q : Addr} {nd : Nd}, NdAt H6 q nd → NdAt (upd (upd (upd H7 R (.lst (ni (rootsL 0 a) ++ [.int ((as.map V.ref).length : Int)]))) X (.lst ((a.map fun i => V.str (ofL i.1)) ++ [.str y6]))) N (.lst (as.map V.ref ++ [.ref n6]))) q nd := fun {q nd} h => by
          refine (((h.fr (bad := fun x => x = R ∨ x = X) ?_ fun x o hx => fr x o (fun z => hx (.inl z)) (fun z => hx (.inr z))).put hR7).put hX8).put hN9
          rintro x (rfl | rfl)
          · exact ⟨_, hR6⟩
          · exact ⟨_, hX6⟩
        refine k _ (tl y6, flat b ++ [nd]) (as ++ [n6]) (fun x o h1 h2 h3 h4 => ?_) ⟨?_, ?_, ?_, ?_, ?_, hnd, ?_, ?_⟩ (by rw [List.length_append]; rfl)
        · rw [upd_ne h1, upd_ne h3, upd_ne h2]
          exact fr x o h2 h3 (e7 _ _ h4)
        · rw [upd_ne d1, upd_ne d3, upd_ne d2]
          exact hh7
        · rw [upd_same, List.map_append]
          rfl
        · have e : flat (a ++ [(tl y6, flat b ++ [nd])]) = flat (a ++ b) ++ [nd] := by rw [flat_app, flat_app]; simp [flat]
          rw [e]
          exact (hA.imp fun _ _ h => kp (h.mono e7)).snoc (kp hnd6)
        · rw [upd_ne (fun z => d4 z.symm), upd_ne d6, upd_same, roots_append, ni_app, List.length_map, hlen, hfab]
          show _ = some (HO.lst (ni (rootsL 0 a) ++ [.int ((0 + (flat a).length + (flat b ++ [nd]).length - 1 : Nat) : Int)]))
          rw [List.length_append, List.length_singleton, show 0 + (flat a).length + ((flat b).length + 1) - 1 = (flat a).length + (flat b).length by omega]
        · rw [upd_ne (fun z => d5 z.symm), upd_same, List.map_append]
          show _ = some (HO.lst (_ ++ [.str (ofL (tl y6))]))
          rw [ofL_tl]
        · exact (stk_append okS a _ 0).mpr ⟨hoka, by rw [Nat.zero_add]; exact ⟨hgd, trivial⟩⟩
        · intro i hi
          rcases List.mem_append.mp hi with h | h
          · exact hle i (List.mem_append_left _ h)
          · rw [List.mem_singleton.mp h]
            show (tl y6).length ≤ 14 * (flat b ++ [nd]).length
            rw [← len_tl, List.length_append]
            exact hyl
    · have e5 := e4.trans (Ex.new (o := .tup ([V.str kind] ++ ni (rootsL (flat a).length b))) hn0)
      have ht5 := (Ex.new (o := .tup ([V.str kind] ++ ni (rootsL (flat a).length b))) hn0) _ _ ht4
      have hn0 : upd H4 n0 (.tup ([V.str kind] ++ ni (rootsL (flat a).length b))) n0 = some (.tup (.str kind :: ni (rootsL (flat a).length b))) := upd_same
      generalize upd H4 n0 (.tup ([V.str kind] ++ ni (rootsL (flat a).length b))) = H4 at e5 ht5 hn0 ⊢
      refine ⟨fun σ' H' => ∃ (y : Str) (n : Addr), σ' = [some (.ref hp), some (.str kind), some (.str wd), some (.int (b.length : Int)), some (.ref N), some (.ref R), some (.ref X), some (.int (((ni (rootsL 0 (a ++ b))).length : Int) - (b.length : Int))), some (.ref t), some (.str y), some (.ref n), none] ∧ Ex H H' ∧ H' t = some (.tup (ni (rootsL (flat a).length b))) ∧ ((kind = "name" ∧ y = wd ∧ H' n = some (.tup [.str "name", .str wd])) ∨ (kind ≠ "name" ∧ y = tx ∧ H' n = some (.tup (.str kind :: ni (rootsL (flat a).length b))))), ?_, ?_⟩
      · refine ⟨_, rfl, rfl, _, rfl, ?_⟩
        rw [str_eqb]
        by_cases hkn : kind = "name"
        · rw [decide_eq_true hkn]
          refine iteT ⟨_, rfl, _, rfl, _, rfl, sz_of (by show 2 ≤ 100000; decide), fun n hn => ?_⟩
          exact ⟨wd, n, rfl, e5.trans (Ex.new hn), (Ex.new hn) _ _ ht5, .inl ⟨hkn, rfl, by rw [upd_same, hkn]⟩⟩
        · rw [decide_eq_false hkn]
          exact iteF ⟨tx, n0, rfl, e5, ht5, .inr ⟨hkn, rfl, hn0⟩⟩
      rintro σ' H5 ⟨y, n, rfl, e6, ht6, hcase⟩
      refine ⟨fun σ' H' => ∃ (y : Str) (n : Addr) (nd : Nd), σ' = [some (.ref hp), some (.str kind), some (.str wd), some (.int (b.length : Int)), some (.ref N), some (.ref R), some (.ref X), some (.int (((ni (rootsL 0 (a ++ b))).length : Int) - (b.length : Int))), some (.ref t), some (.str y), some (.ref n), none] ∧ Ex H H' ∧ NdAt H' n nd ∧ GoodE okS (tl y) (flat a).length (flat b ++ [nd]) ∧ y.length ≤ 14 * ((flat b).length + 1), ?_, ?_⟩
      · refine ⟨_, rfl, rfl, _, rfl, ?_⟩
        rw [str_eqb]
        have hTl : tx.length ≤ 14 * ((flat b).length + 1) := by
          rw [len_tl, hT, List.length_append, List.length_append, List.length_cons, ← len_tl]
          show wd.length + (_ + 1) + 1 ≤ _
          omega
        have hrl4 : (rootsL (flat a).length b).length = b.length := roots_len b _
        rcases hk with ⟨k1, k2, k3⟩ | ⟨k1, k2⟩ | ⟨k1, k2⟩
        · rw [decide_eq_false (by rw [k1]; decide +kernel)]
          rcases hcase with ⟨_, hy, hn⟩ | ⟨c1, _⟩
          · refine iteF ⟨y, n, .name wd, rfl, e6, hn, ?_, by rw [hy]; omega⟩
            rw [hy, k3]
            have g := good_name (okw := okS) (lo := (flat a).length) (okS_plain k2) (okS_all k2).2 (by rw [ofL_tl]; exact k2)
            rw [ofL_tl] at g
            exact g
          · exact absurd k1 c1
        · rw [decide_eq_true k1]
          rcases hcase with ⟨c1, _⟩ | ⟨_, hy, hn⟩
          · rw [k1] at c1
            exact absurd c1 (by decide +kernel)
          · refine iteT ⟨_, rfl, _, rfl, _, rfl, sz_of (by show 3 ≤ 100000; decide), fun q hq => ?_⟩
            refine ⟨y, q, .call wd (rootsL (flat a).length b), rfl, e6.trans (Ex.new hq), ⟨t, by rw [upd_same, k1], (Ex.new hq) _ _ ht6⟩, ?_, by rw [hy]; exact hTl⟩
            rw [hy, hT]
            exact good_op hokb (okS_plain k2) (by rw [ofL_tl, oper_no (okS_noop k2), if_pos ⟨k2, by omega⟩])
        · have hne := opw_ne (w := wd) (os := rootsL (flat a).length b) (by show opsT.lookup wd = some _; rw [hrl4]; exact k2)
          rw [decide_eq_false (by rw [k1]; exact hne.2)]
          rcases hcase with ⟨c1, _⟩ | ⟨_, hy, hn⟩
          · exact absurd (k1.symm.trans c1) hne.1
          · refine iteF ⟨y, n, .op wd (rootsL (flat a).length b), rfl, e6, by rw [k1] at hn; exact hn, ?_, by rw [hy]; exact hTl⟩
            rw [hy, hT]
            exact good_op hokb (op_plain k2).1 (by rw [ofL_tl, oper_at k2, if_pos (by rw [hrl4])])
      rintro σ' H6 ⟨y6, n6, nd, rfl, e7, hnd6, hgd, hyl⟩
      have hTXl : ((a ++ b).map fun i => V.str (ofL i.1)).length = a.length + b.length := by rw [List.length_map, List.length_append]
      have hR6 := e7 _ _ hR
      have hX6 := e7 _ _ hX
      refine ⟨_, rfl, (b.length : Int), rfl, forR1 ⟨by omega, by omega⟩ (fun j σ' H' => ∃ v11, σ' = [some (.ref hp), some (.str kind), some (.str wd), some (.int (b.length : Int)), some (.ref N), some (.ref R), some (.ref X), some (.int (((ni (rootsL 0 (a ++ b))).length : Int) - (b.length : Int))), some (.ref t), some (.str y6), some (.ref n6), v11] ∧ (∀ x o, x ≠ R → x ≠ X → H6 x = some o → H' x = some o) ∧ H' R = some (.lst ((ni (rootsL 0 (a ++ b))).take (a.length + b.length - j))) ∧ H' X = some (.lst (((a ++ b).map fun i => V.str (ofL i.1)).take (a.length + b.length - j)))) ⟨_, rfl, fun _ _ _ _ h => h, by rw [Nat.sub_zero, List.take_of_length_le (by rw [rl]; exact Nat.le_refl _)]; exact hR6, by rw [Nat.sub_zero, List.take_of_length_le (by rw [hTXl]; exact Nat.le_refl _)]; exact hX6⟩ ?_ ?_⟩
      · rintro j σ' H' hj ⟨v11, rfl, fr, hRj, hXj⟩
        have hj' : j < b.length := by omega
        obtain ⟨y1, hy1⟩ := take_last (l := ni (rootsL 0 (a ++ b))) (m := a.length + b.length - j) (by omega) (by rw [rl]; omega)
        obtain ⟨y2, hy2⟩ := take_last (l := (a ++ b).map fun i => V.str (ofL i.1)) (m := a.length + b.length - j) (by omega) (by rw [hTXl]; omega)
        refine ⟨_, rfl, .inl ⟨rfl, _, SqL.of hRj⟩, R, _, y1, rfl, rfl, hRj, hy1, ?_⟩
        have hXj2 : upd H' R (.lst ((ni (rootsL 0 (a ++ b))).take (a.length + b.length - j)).dropLast) X = some (.lst (((a ++ b).map fun i => V.str (ofL i.1)).take (a.length + b.length - j))) := by
          rw [upd_ne (fun z => d6 z.symm)]
          exact hXj
        refine ⟨_, rfl, .inl ⟨rfl, _, SqL.of hXj2⟩, X, _, y2, rfl, rfl, hXj2, hy2, _, rfl, fun x o h1 h2 h3 => ?_, ?_, ?_⟩
        · rw [upd_ne h2, upd_ne h1]
          exact fr x o h1 h2 h3
        · rw [upd_ne d6, upd_same, take_pop (by rw [rl]; omega)]
          rfl
        · rw [upd_same, take_pop (by rw [hTXl]; omega)]
          rfl
      · rintro σ' H7 ⟨v11, rfl, fr, hR7, hX7⟩
        rw [Int.toNat_natCast, show a.length + b.length - b.length = a.length by omega] at hR7 hX7
        rw [roots_append, ni_app, List.take_append_of_le_length (by rw [ni_len, roots_len]; omega), List.take_of_length_le (by rw [ni_len, roots_len]; omega)] at hR7
        rw [List.map_append, List.take_append_of_le_length (by rw [List.length_map]; omega), List.take_of_length_le (by rw [List.length_map]; omega)] at hX7
        have hN7 := fr N _ d4 d5 (e7 _ _ hN)
        have hh7 := fr hp _ d2 d3 (e7 _ _ hh)
        refine ⟨_, rfl, .inl ⟨rfl, _, SqL.of hR7⟩, _, rfl, N, _, rfl, .inl (SqL.of hN7), R, _, _, rfl, rfl, hR7, sz_lt (by rw [ni_len, roots_len]; have := flat_len2 a 0 hoka; omega), ?_⟩
        have hX8 : upd H7 R (.lst (ni (rootsL 0 a) ++ [.int ((as.map V.ref).length : Int)])) X = some (.lst (a.map fun i => V.str (ofL i.1))) := by
          rw [upd_ne (fun z => d6 z.symm)]
          exact hX7
        refine ⟨_, rfl, .inl ⟨rfl, _, SqL.of hX8⟩, _, rfl, X, _, _, rfl, rfl, hX8, sz_lt (by rw [List.length_map]; have := flat_len2 a 0 hoka; omega), ?_⟩
        have hN9 : upd (upd H7 R (.lst (ni (rootsL 0 a) ++ [.int ((as.map V.ref).length : Int)]))) X (.lst ((a.map fun i => V.str (ofL i.1)) ++ [.str y6])) N = some (.lst (as.map V.ref)) := by
          rw [upd_ne d5, upd_ne d4]
          exact hN7
        refine ⟨_, rfl, .inl ⟨rfl, _, SqL.of hN9⟩, _, rfl, N, _, _, rfl, rfl, hN9, sz_lt (by rw [List.length_map]; omega), ?_⟩
        have kp : ∀ {q : Addr} {nd : Nd}, NdAt H6 q nd → NdAt (upd (upd (upd H7 R (.lst (ni (rootsL 0 a) ++ [.int ((as.map V.ref).length : Int)]))) X (.lst ((a.map fun i => V.str (ofL i.1)) ++ [.str y6]))) N (.lst (as.map V.ref ++ [.ref n6]))) q nd := fun {q nd} h => by
          refine (((h.fr (bad := fun x => x = R ∨ x = X) ?_ fun x o hx => fr x o (fun z => hx (.inl z)) (fun z => hx (.inr z))).put hR7).put hX8).put hN9
          rintro x (rfl | rfl)
          · exact ⟨_, hR6⟩
          · exact ⟨_, hX6⟩
        refine k _ (tl y6, flat b ++ [nd]) (as ++ [n6]) (fun x o h1 h2 h3 h4 => ?_) ⟨?_, ?_, ?_, ?_, ?_, hnd, ?_, ?_⟩ (by rw [List.length_append]; rfl)
        · rw [upd_ne h1, upd_ne h3, upd_ne h2]
          exact fr x o h2 h3 (e7 _ _ h4)
        · rw [upd_ne d1, upd_ne d3, upd_ne d2]
          exact hh7
        · rw [upd_same, List.map_append]
          rfl
        · have e : flat (a ++ [(tl y6, flat b ++ [nd])]) = flat (a ++ b) ++ [nd] := by rw [flat_app, flat_app]; simp [flat]
          rw [e]
          exact (hA.imp fun _ _ h => kp (h.mono e7)).snoc (kp hnd6)
        · rw [upd_ne (fun z => d4 z.symm), upd_ne d6, upd_same, roots_append, ni_app, List.length_map, hlen, hfab]
          show _ = some (HO.lst (ni (rootsL 0 a) ++ [.int ((0 + (flat a).length + (flat b ++ [nd]).length - 1 : Nat) : Int)]))
          rw [List.length_append, List.length_singleton, show 0 + (flat a).length + ((flat b).length + 1) - 1 = (flat a).length + (flat b).length by omega]
        · rw [upd_ne (fun z => d5 z.symm), upd_same, List.map_append]
          show _ = some (HO.lst (_ ++ [.str (ofL (tl y6))]))
          rw [ofL_tl]
        · exact (stk_append okS a _ 0).mpr ⟨hoka, by rw [Nat.zero_add]; exact ⟨hgd, trivial⟩⟩
        · intro i hi
          rcases List.mem_append.mp hi with h | h
          · exact hle i (List.mem_append_left _ h)
          · rw [List.mem_singleton.mp h]
            show (tl y6).length ≤ 14 * (flat b ++ [nd]).length
            rw [← len_tl, List.length_append]
            exact hyl
end
end K11

set_option Elab.async false
set_option linter.all false
set_option maxRecDepth 100000
namespace K11
open PySem PySem.Spec PyProof.Rows L2 Evl TL UL StX
section
variable {P : Program} {w : World} {K : PySem.W.Frag} {mg : Str → Option Value} {base : Heap} {A : Adr}
/-! ### an expression -/
theorem LawAt.mono {H H' : Hp} {h N R X : Addr} {its : List It1} {as : List Addr} (e : Ex H H') (L : LawAt H h N R X its as) : LawAt H' h N R X its as :=
  ⟨e _ _ L.hh, e _ _ L.hN, L.hA.imp fun _ _ q => q.mono e, e _ _ L.hR, e _ _ L.hX, L.nd, L.ok, L.le⟩
structure Fresh4 (H : Hp) (h N R X : Addr) : Prop where
  h0 : H h = none
  h1 : H N = none
  h2 : H R = none
  h3 : H X = none
theorem Fresh4.keep {H H' H'' : Hp} {h N R X : Addr} (f : Fresh4 H h N R X) (e : Ex H H') (fr : ∀ x o, x ≠ N → x ≠ R → x ≠ X → H' x = some o → H'' x = some o) : Ex H H'' := fun x o hx => fr x o (ne_of_none hx f.h1) (ne_of_none hx f.h2) (ne_of_none hx f.h3) (e _ _ hx)
def spExpr : Sp := fun vs H Q _ => ∃ (d nm fn : Addr) (most : Int) (ws : List Str) (fs : List Addr), vs = [.ref d, .ref nm, .ref fn, .int most] ∧ H d = some (DrO d) ∧ H nm = some (.lst (ws.map V.str)) ∧ (∀ w ∈ ws, okS w = true) ∧ ws.length ≤ 100 ∧ H fn = some (.lst (fs.map V.ref)) ∧ (∀ a ∈ fs, FnRow H a) ∧ fs ≠ [] ∧ fs.length ≤ 8 ∧ 1 ≤ most ∧ most ≤ 20 ∧
  ∀ p N as z ns H', Ex H H' → H' p = some (.lst [.ref N, .str z]) → H' N = some (.lst (as.map V.ref)) → Al2 (NdAt H') as ns → GoodE okS (tl z) 0 ns → z.length ≤ 280 → ns.length ≤ 20 → H p = none → H N = none → p ≠ N → Q (.ref p) H'
/-- which node is to be made -/
def Want (kind w : Str) (c : Int) : Prop := 0 ≤ c ∧ c ≤ 4 ∧ ((kind = "name" ∧ okS w = true ∧ c = 0) ∨ (kind = "call" ∧ okS w = true) ∨ (kind = w ∧ opsT.lookup w = some c))
theorem ok_expression (T : Tx0 w K mg A) : FnOk P w K mg base CX0 2 A.expression A.d_expression p_expression spExpr := by
  refine T.F_expression.ok sc_expression (fun vs H Q E h => ?_) (fun cdv Ar outer s H vs Q E hr h => ?_)
  · obtain ⟨d, nm, fn, most, ws, fs, rfl, _⟩ := h
    rfl
  · obtain ⟨d, nm, fn, most, ws, fs, rfl, hd, hnm, hws, hwl, hfn, hfs, hf0, hfl, hm0, hm1, k⟩ := h
    refine ⟨_, (pss_cons (ps_set (i := 4) sc_expression.nd rfl (Or.inl rfl) (pe_lst (pa_cons (pe_lst pa_nil) (pa_cons (pe_lst pa_nil) (pa_cons (pe_lst pa_nil) pa_nil)))))
      (pss_cons (ps_for PassesOwn.never rfl (pi_range1 (by rfl) T.m_range (pa_cons (pe_op op_add pe_int (pe_call (ok_take T) (hr.mono (by decide)) (by rfl) T.g_take T.F_take.kp T.b_take .nil pass0 (pa_cons (pv 0) (pa_cons (pv 3) pa_nil)))) pa_nil)) (pg_name (i := 5) sc_expression.nd rfl (Or.inl rfl)) (pss_cons (ps_set (i := 6) sc_expression.nd rfl (Or.inl rfl) (pe_call (ok_take T) (hr.mono (by decide)) (by rfl) T.g_take T.F_take.kp T.b_take .nil pass0 (pa_cons (pv 0) (pa_cons pe_int pa_nil))))
        (pss_cons (ps_set (i := 7) sc_expression.nd rfl (Or.inl rfl) pe_str)
        (pss_cons (ps_set (i := 8) sc_expression.nd rfl (Or.inl rfl) pe_str)
        (pss_cons (ps_set (i := 9) sc_expression.nd rfl (Or.inl rfl) pe_int)
        (Evl.pss_cut (ps_if (pt_cmpR op_gt (pv 6) pe_int (nomark _)) (pss_cons (ps_set (i := 10) sc_expression.nd rfl (Or.inl rfl) (pe_ix ix_list (pv 2) (pe_call (ok_take T) (hr.mono (by decide)) (by rfl) T.g_take T.F_take.kp T.b_take .nil pass0 (pa_cons (pv 0) (pa_cons (pe_callB call_len_seq (by rfl) T.m_len PySem.boot_len (pa_cons (pv 2) pa_nil)) pa_nil))) (fun _ _ => rfl)))
          (pss_cons (ps_set (i := 8) sc_expression.nd rfl (Or.inl rfl) (pe_ix ix_list (pv 10) pe_int (fun _ _ => rfl)))
          (pss_one (ps_set (i := 9) sc_expression.nd rfl (Or.inl rfl) (pe_ix ix_list (pv 10) pe_int (fun _ _ => rfl)))))) pss_nil)
        (Evl.pss_cut (ps_if (PW.pt (pw_and (pt_cmpR op_lt pe_int (pv 6) (nomark _)) (pw_and1 (pt_cmpR op_lt (pv 6) pe_int (nomark _))))) (pss_cons (ps_set (i := 7) sc_expression.nd rfl (Or.inl rfl) (pe_ix ix_list (pe_lst (pa_cons pe_str (pa_cons pe_str (pa_cons pe_str pa_nil)))) (pe_op op_sub (pv 6) pe_int) (fun _ _ => rfl)))
          (pss_cons (ps_set (i := 8) sc_expression.nd rfl (Or.inl rfl) (pv 7))
          (pss_one (ps_set (i := 9) sc_expression.nd rfl (Or.inl rfl) (pe_ix ix_list (pe_lst (pa_cons pe_int (pa_cons pe_int (pa_cons pe_int pa_nil)))) (pe_op op_sub (pv 6) pe_int) (fun _ _ => rfl)))))) pss_nil)
        (Evl.pss_cut (ps_if (PW.pt (pw_or (pt_cmpR op_lt (pv 6) pe_int (nomark _)) (pw_or1 (pt_cmpR op_gt (pv 9) (pe_callB call_len_seq (by rfl) T.m_len PySem.boot_len (pa_cons (pe_ix ix_list (pv 4) pe_int (fun _ _ => rfl)) pa_nil)) (nomark _))))) (pss_cons (ps_set (i := 7) sc_expression.nd rfl (Or.inl rfl) pe_str)
          (pss_cons (ps_set (i := 8) sc_expression.nd rfl (Or.inl rfl) pe_str)
          (pss_cons (ps_set (i := 9) sc_expression.nd rfl (Or.inl rfl) pe_int)
          (pss_one (ps_if (pt_cmpR op_gt (pe_callB call_len_seq (by rfl) T.m_len PySem.boot_len (pa_cons (pv 1) pa_nil)) pe_int (nomark _)) (pss_cons (ps_set (i := 7) sc_expression.nd rfl (Or.inl rfl) pe_str)
            (pss_one (ps_set (i := 8) sc_expression.nd rfl (Or.inl rfl) (pe_ix ix_list (pv 1) (pe_call (ok_take T) (hr.mono (by decide)) (by rfl) T.g_take T.F_take.kp T.b_take .nil pass0 (pa_cons (pv 0) (pa_cons (pe_callB call_len_seq (by rfl) T.m_len PySem.boot_len (pa_cons (pv 1) pa_nil)) pa_nil))) (fun _ _ => rfl))))) pss_nil))))) pss_nil)
        (pss_one (ps_if (pt_cmpR op_le (pe_op op_sub (pe_op op_add (pe_op op_add (pe_callB call_len_seq (by rfl) T.m_len PySem.boot_len (pa_cons (pe_ix ix_list (pv 4) pe_int (fun _ _ => rfl)) pa_nil)) (pe_callB call_len_seq (by rfl) T.m_len PySem.boot_len (pa_cons (pe_ix ix_list (pv 4) pe_int (fun _ _ => rfl)) pa_nil))) pe_int) (pv 9)) (pv 3) (nomark _)) (pss_one (ps_expr (pe_call (ok_add T) (hr.mono (by decide)) (by rfl) T.g_add T.F_add.kp T.b_add .nil pass0 (pa_cons (pv 4) (pa_cons (pv 7) (pa_cons (pv 8) (pa_cons (pv 9) pa_nil))))))) pss_nil))))))))))
      (pss_cons (ps_for PassesOwn.never rfl (pi_range1 (by rfl) T.m_range (pa_cons (pv 3) pa_nil)) (pg_name (i := 5) sc_expression.nd rfl (Or.inl rfl)) (pss_one (ps_if (pt_cmpR op_gt (pe_callB call_len_seq (by rfl) T.m_len PySem.boot_len (pa_cons (pe_ix ix_list (pv 4) pe_int (fun _ _ => rfl)) pa_nil)) pe_int (nomark _)) (pss_cons (ps_set (i := 8) sc_expression.nd rfl (Or.inl rfl) (pe_ix ix_list (pe_lst (pa_cons pe_str (pa_cons pe_str pa_nil))) (pe_call (ok_take T) (hr.mono (by decide)) (by rfl) T.g_take T.F_take.kp T.b_take .nil pass0 (pa_cons (pv 0) (pa_cons pe_int pa_nil))) (fun _ _ => rfl)))
          (pss_one (ps_expr (pe_call (ok_add T) (hr.mono (by decide)) (by rfl) T.g_add T.F_add.kp T.b_add .nil pass0 (pa_cons (pv 4) (pa_cons (pv 8) (pa_cons (pv 8) (pa_cons pe_int pa_nil)))))))) pss_nil)))
      (pss_one (ps_ret (pe_lst (pa_cons (pe_ix ix_list (pv 4) pe_int (fun _ _ => rfl)) (pa_cons (pe_ix ix_list (pe_ix ix_list (pv 4) pe_int (fun _ _ => rfl)) pe_int (fun _ _ => rfl)) pa_nil)))))))), ?_⟩
    refine ⟨Nat.zero_le _, fun N hN => ⟨Nat.zero_le _, fun R hR => ⟨Nat.zero_le _, fun X hX => ⟨sz_of (by show 3 ≤ 100000; decide), fun h hh => ?_⟩⟩⟩⟩
    have e1 := Ex.new (o := .lst []) hN
    have e2 := Ex.new (o := .lst []) hR
    have e3 := Ex.new (o := .lst []) hX
    have e4 := Ex.new (o := .lst [.ref N, .ref R, .ref X]) hh
    have q1 : upd H N (.lst []) N = some (.lst []) := upd_same
    have n1 : N ≠ R := ne_of_none q1 hR
    have n2 : N ≠ X := ne_of_none (e2 _ _ q1) hX
    have q2 : upd (upd H N (.lst [])) R (.lst []) R = some (.lst []) := upd_same
    have n3 : R ≠ X := ne_of_none q2 hX
    have q3 : upd (upd (upd H N (.lst [])) R (.lst [])) X (.lst []) X = some (.lst []) := upd_same
    have m1 := e3 _ _ (e2 _ _ q1)
    have m2 := e3 _ _ q2
    have n4 : h ≠ N := (ne_of_none m1 hh).symm
    have n5 : h ≠ R := (ne_of_none m2 hh).symm
    have n6 : h ≠ X := (ne_of_none q3 hh).symm
    have F4 : Fresh4 H h N R X := ⟨e1.free' (e2.free' (e3.free' hh)), hN, e1.free' hR, e1.free' (e2.free' hX)⟩
    have L0 : LawAt (upd (upd (upd (upd H N (.lst [])) R (.lst [])) X (.lst [])) h (.lst [.ref N, .ref R, .ref X])) h N R X [] [] :=
      ⟨upd_same, e4 _ _ m1, .nil, e4 _ _ m2, e4 _ _ q3, by simp [n1, n2, n3, n4, n5, n6], trivial, fun i hi => by cases hi⟩
    have e0 := ((e1.trans e2).trans e3).trans e4
    generalize upd (upd (upd (upd H N (.lst [])) R (.lst [])) X (.lst [])) h (.lst [.ref N, .ref R, .ref X]) = H0 at e0 L0 ⊢
    clear e1 e2 e3 e4 q1 q2 q3 m1 m2 hR hX hh
    refine ⟨_, rfl, _, rfl, d, most, rfl, e0 _ _ hd, by omega, fun m mm0 mm1 => ?_⟩
    refine ⟨1, m, rfl, rfl, 1 + m, rfl, forR1 ⟨by omega, by omega⟩ (fun i σ' H' => ∃ v5 v6 v7 v8 v9 v10 its as, σ' = [some (.ref d), some (.ref nm), some (.ref fn), some (.int most), some (.ref h), v5, v6, v7, v8, v9, v10] ∧ Ex H H' ∧ LawAt H' h N R X its as ∧ (flat its).length + its.length ≤ most.toNat + 1 ∧ (1 ≤ i → its ≠ [])) ⟨_, _, _, _, _, _, [], [], rfl, e0, L0, Nat.zero_le _, fun z => by omega⟩ ?_ ?_⟩
    · rintro i σ' H1 hi ⟨v5, v6, v7, v8, v9, v10, its, as, rfl, e1, L, hsum, hne⟩
      have hitl : its.length ≤ (flat its).length := flat_len2 its 0 L.ok
      refine ⟨_, rfl, d, _, rfl, e1 _ _ hd, by decide, fun f f0 f1 => ?_⟩
      -- of the functions
      refine ⟨fun σ' H' => ∃ (w : Str) (c : Int) (v10 : Option V), σ' = [some (.ref d), some (.ref nm), some (.ref fn), some (.int most), some (.ref h), some (.int (i : Int)), some (.int f), some (.str "call"), some (.str w), some (.int c), v10] ∧ H' = H1 ∧ okS w = true ∧ 0 ≤ c ∧ c ≤ 4, ?_, ?_⟩
      · refine ⟨_, rfl, f, 5, rfl, rfl, _, rfl, ite2 (fun _ => ?_) (fun _ => ?_)⟩
        · have hfp : 0 < (fs.map V.ref).length := by rw [List.length_map]; exact List.length_pos_iff.mpr hf0
          refine ⟨_, rfl, _, rfl, _, rfl, fn, _, rfl, .inl (SqL.of (e1 _ _ hfn)), d, _, rfl, e1 _ _ hd, by omega, fun q q0 q1 => ?_⟩
          obtain ⟨qn, rfl⟩ := Int.eq_ofNat_of_zero_le q0
          have hq : qn < fs.length := by rw [List.length_map] at q1; omega
          obtain ⟨w, c, mm, h1, h2, h3, h4⟩ := hfs fs[qn] (List.getElem_mem _)
          refine ⟨fn, _, (qn : Int), .ref fs[qn], rfl, rfl, SqL.of (e1 _ _ hfn), atI_nat (by rw [List.getElem?_map, List.getElem?_eq_getElem hq]; rfl), ?_⟩
          have h1' := e1 _ _ h1
          refine ⟨_, rfl, fs[qn], _, 0, .str w, rfl, rfl, SqL.of h1', atI_nat (j := 0) rfl, _, rfl, fs[qn], _, 1, .int c, rfl, rfl, SqL.of h1', atI_nat (j := 1) rfl, ?_⟩
          exact ⟨w, c, _, rfl, rfl, h2, h3, h4⟩
        · exact ⟨"new", 0, _, rfl, rfl, by decide +kernel, by decide, by decide⟩
      rintro σ' H1' ⟨w1, c1, v10, rfl, rfl, hw1, hc0, hc4⟩
      -- an operation
      refine ⟨fun σ' H' => ∃ (kd w : Str) (c : Int) (v10 : Option V), σ' = [some (.ref d), some (.ref nm), some (.ref fn), some (.int most), some (.ref h), some (.int (i : Int)), some (.int f), some (.str kd), some (.str w), some (.int c), v10] ∧ Ex H1' H' ∧ Want kd w c, ?_, ?_⟩
      · refine ⟨_, rfl, 2, f, rfl, rfl, _, rfl, ite2 (fun z => ?_) (fun _ => ?_)⟩
        · have f2 : 2 < f := of_decide_eq_true z
          refine ⟨_, rfl, f, 6, rfl, rfl, _, rfl, ite2 (fun z => ?_) (fun _ => ?_)⟩
          · have f6 : f < 6 := of_decide_eq_true z
            refine ⟨sz_of (by show 3 ≤ 100000; decide), fun p1 hp1 => ?_⟩
            have eP := Ex.new (o := .lst [.str "part", .str "pick", .str "then"]) hp1
            obtain ⟨kd, c, hkd, hc, hlk⟩ : ∃ (kd : Str) (c : Int), atI [V.str "part", V.str "pick", V.str "then"] (f - 3) = some (.str kd) ∧ atI [V.int 1, V.int 2, V.int 2] (f - 3) = some (.int c) ∧ opsT.lookup kd = some c ∧ 0 ≤ c ∧ c ≤ 4 := by
              have : f = 3 ∨ f = 4 ∨ f = 5 := by omega
              rcases this with rfl | rfl | rfl
              · exact ⟨"part", 1, rfl, rfl, by decide +kernel, by decide, by decide⟩
              · exact ⟨"pick", 2, rfl, rfl, by decide +kernel, by decide, by decide⟩
              · exact ⟨"then", 2, rfl, rfl, by decide +kernel, by decide, by decide⟩
            refine ⟨_, rfl, f, 3, rfl, rfl, p1, _, f - 3, .str kd, rfl, rfl, SqL.of upd_same, hkd, _, rfl, sz_of (by show 3 ≤ 100000; decide), fun p2 hp2 => ?_⟩
            exact ⟨_, rfl, f, 3, rfl, rfl, p2, _, f - 3, .int c, rfl, rfl, SqL.of upd_same, hc, kd, kd, c, _, rfl, eP.trans (Ex.new hp2), hlk.2.1, hlk.2.2, .inr (.inr ⟨rfl, hlk.1⟩)⟩
          · exact ⟨"call", w1, c1, _, rfl, Ex.refl _, hc0, hc4, .inr (.inl ⟨rfl, hw1⟩)⟩
        · exact ⟨"call", w1, c1, _, rfl, Ex.refl _, hc0, hc4, .inr (.inl ⟨rfl, hw1⟩)⟩
      rintro σ' H2 ⟨kd2, w2, c2, v10', rfl, e2, hW2⟩
      have e12 := e1.trans e2
      have L2 := L.mono e2
      have hRl : (ni (rootsL 0 its)).length = its.length := by rw [ni_len, roots_len]
      -- a name
      refine ⟨fun σ' H' => ∃ (kd w : Str) (c : Int) (v10 : Option V), σ' = [some (.ref d), some (.ref nm), some (.ref fn), some (.int most), some (.ref h), some (.int (i : Int)), some (.int f), some (.str kd), some (.str w), some (.int c), v10] ∧ H' = H2 ∧ Want kd w c ∧ c ≤ its.length, ?_, ?_⟩
      · have hnm2 := e12 _ _ hnm
        refine ⟨_, rfl, f, 2, rfl, rfl, _, rfl, ?_⟩
        by_cases hf2 : f < 2
        · rw [decide_eq_true hf2]
          refine iteT (iteT ?_)
          refine ⟨_, rfl, nm, _, rfl, .inl (SqL.of hnm2), _, 0, rfl, rfl, _, rfl, ite2 (fun z => ?_) (fun _ => ?_)⟩
          · have hz : (0 : Int) < ((ws.map V.str).length : Int) := of_decide_eq_true z
            refine ⟨_, rfl, _, rfl, _, rfl, nm, _, rfl, .inl (SqL.of hnm2), d, _, rfl, e12 _ _ hd, hz, fun q q0 q1 => ?_⟩
            obtain ⟨qn, rfl⟩ := Int.eq_ofNat_of_zero_le q0
            have hq : qn < ws.length := by rw [List.length_map] at q1; omega
            exact ⟨nm, _, (qn : Int), .str ws[qn], rfl, rfl, SqL.of hnm2, atI_nat (by rw [List.getElem?_map, List.getElem?_eq_getElem hq]; rfl), "name", ws[qn], 0, _, rfl, rfl, ⟨by decide, by decide, .inl ⟨rfl, hws _ (List.getElem_mem _), rfl⟩⟩, by omega⟩
          · exact ⟨"call", "new", 0, _, rfl, rfl, ⟨by decide, by decide, .inr (.inl ⟨rfl, by decide +kernel⟩)⟩, by omega⟩
        · rw [decide_eq_false hf2]
          refine iteF ⟨_, rfl, _, rfl, h, _, 1, .ref R, rfl, rfl, SqL.of L2.hh, atI_nat (j := 1) rfl, R, _, rfl, .inl (SqL.of L2.hR), c2, _, rfl, rfl, _, rfl, ite2 (fun z => ?_) (fun z => ?_)⟩
          refine ⟨_, rfl, nm, _, rfl, .inl (SqL.of hnm2), _, 0, rfl, rfl, _, rfl, ite2 (fun z => ?_) (fun _ => ?_)⟩
          · have hz : (0 : Int) < ((ws.map V.str).length : Int) := of_decide_eq_true z
            refine ⟨_, rfl, _, rfl, _, rfl, nm, _, rfl, .inl (SqL.of hnm2), d, _, rfl, e12 _ _ hd, hz, fun q q0 q1 => ?_⟩
            obtain ⟨qn, rfl⟩ := Int.eq_ofNat_of_zero_le q0
            have hq : qn < ws.length := by rw [List.length_map] at q1; omega
            exact ⟨nm, _, (qn : Int), .str ws[qn], rfl, rfl, SqL.of hnm2, atI_nat (by rw [List.getElem?_map, List.getElem?_eq_getElem hq]; rfl), "name", ws[qn], 0, _, rfl, rfl, ⟨by decide, by decide, .inl ⟨rfl, hws _ (List.getElem_mem _), rfl⟩⟩, by omega⟩
          · exact ⟨"call", "new", 0, _, rfl, rfl, ⟨by decide, by decide, .inr (.inl ⟨rfl, by decide +kernel⟩)⟩, by omega⟩
          · exact ⟨kd2, w2, c2, _, rfl, rfl, hW2, by have z2 : ¬ (((ni (rootsL 0 its)).length : Int) < c2) := fun y => z (decide_eq_true y); rw [hRl] at z2; omega⟩
      rintro σ' H2' ⟨kd, w, c, v10'', rfl, rfl, hW, hcl⟩
      obtain ⟨hc0', hc4', hW⟩ := hW
      obtain ⟨a, b, rfl, rfl⟩ : ∃ a b, its = a ++ b ∧ (b.length : Int) = c := by
        refine ⟨its.take (its.length - c.toNat), its.drop (its.length - c.toNat), (List.take_append_drop _ _).symm, ?_⟩
        rw [List.length_drop]
        omega
      have hal : as.length = (flat (a ++ b)).length := L2.hA.len
      have hlab : (a ++ b).length = a.length + b.length := List.length_append
      have hfab : (flat (a ++ b)).length = (flat a).length + (flat b).length := by rw [flat_app, List.length_append]
      refine ⟨_, rfl, h, _, 0, .ref N, rfl, rfl, SqL.of L2.hh, atI_nat (j := 0) rfl, N, _, rfl, .inl (SqL.of L2.hN), _, rfl, h, _, 1, .ref R, rfl, rfl, SqL.of L2.hh, atI_nat (j := 1) rfl, R, _, rfl, .inl (SqL.of L2.hR), _, _, rfl, rfl, _, 1, rfl, rfl, _, rfl, _, _, rfl, rfl, _, rfl, _, most, rfl, rfl, _, rfl, ite2 (fun z => ?_) (fun z => ?_)⟩
      · have hz : ((as.map V.ref).length : Int) + ((ni (rootsL 0 (a ++ b))).length : Int) + 1 - (b.length : Int) ≤ most := of_decide_eq_true z
        rw [List.length_map, hRl, hal] at hz
        refine ⟨_, rfl, _, rfl, _, rfl, _, rfl, h, N, R, X, a, b, as, kd, w, rfl, L2, by omega, by omega, ?_, fun H3 it as' fr L3 hit => ?_⟩
        · rcases hW with ⟨h1, h2, h3⟩ | h1 | h1
          · exact .inl ⟨h1, h2, List.eq_nil_of_length_eq_zero (by omega)⟩
          · exact .inr (.inl h1)
          · exact .inr (.inr h1)
        · refine ⟨_, _, _, _, _, _, a ++ [it], as', rfl, F4.keep e12 fr, L3, ?_, fun _ => by simp⟩
          rw [flat_app, List.length_append, List.length_append, show flat [it] = it.2 by simp [flat], hit, List.length_singleton]
          omega
      · refine ⟨_, _, _, _, _, _, a ++ b, as, rfl, e12, L2, hsum, fun _ hnil => z (decide_eq_true ?_)⟩
        show ((as.map V.ref).length : Int) + ((ni (rootsL 0 (a ++ b))).length : Int) + 1 - (b.length : Int) ≤ most
        rw [List.length_map, hRl, hal]
        have hz1 : (flat (a ++ b)).length = 0 := by rw [hnil]; rfl
        have hz2 : (a ++ b).length = 0 := by rw [hnil]; rfl
        omega
    · rintro σ' H1 ⟨v5, v6, v7, v8, v9, v10, its, as, rfl, e1, L, hsum, hne⟩
      have hne := hne (by omega)
      have hpos := List.length_pos_iff.mpr hne
      have hitl : its.length ≤ (flat its).length := flat_len2 its 0 L.ok
      refine ⟨_, rfl, most, rfl, forR1 ⟨by omega, by omega⟩ (fun j σ' H' => ∃ v5 v6 v7 v8 v9 v10 its as, σ' = [some (.ref d), some (.ref nm), some (.ref fn), some (.int most), some (.ref h), v5, v6, v7, v8, v9, v10] ∧ Ex H H' ∧ LawAt H' h N R X its as ∧ (flat its).length + its.length ≤ most.toNat + 1 ∧ its ≠ [] ∧ (its.length = 1 ∨ its.length + j ≤ most.toNat)) ⟨_, _, _, _, _, _, its, as, rfl, e1, L, hsum, hne, .inr (by omega)⟩ ?_ ?_⟩
      · rintro j σ' H2 hj ⟨v5, v6, v7, v8, v9, v10, its, as, rfl, e2, L2, hsum, hne, hor⟩
        have hRl : (ni (rootsL 0 its)).length = its.length := by rw [ni_len, roots_len]
        refine ⟨_, rfl, h, _, 1, .ref R, rfl, rfl, SqL.of L2.hh, atI_nat (j := 1) rfl, R, _, rfl, .inl (SqL.of L2.hR), _, 1, rfl, rfl, _, rfl, ite2 (fun z => ?_) (fun z => ?_)⟩
        · have hz : (1 : Int) < ((ni (rootsL 0 its)).length : Int) := of_decide_eq_true z
          rw [hRl] at hz
          refine ⟨sz_of (by show 2 ≤ 100000; decide), fun p1 hp1 => ?_⟩
          have eP := Ex.new (o := .lst [.str "pick", .str "then"]) hp1
          refine ⟨_, rfl, d, _, rfl, eP _ _ (e2 _ _ hd), by decide, fun q q0 q1 => ?_⟩
          obtain ⟨kd, hkd, hlk⟩ : ∃ kd : Str, atI [V.str "pick", V.str "then"] q = some (.str kd) ∧ opsT.lookup kd = some 2 := by
            have : q = 0 ∨ q = 1 := by omega
            rcases this with rfl | rfl
            · exact ⟨"pick", rfl, by decide +kernel⟩
            · exact ⟨"then", rfl, by decide +kernel⟩
          obtain ⟨a, b, rfl, hb⟩ : ∃ a b, its = a ++ b ∧ b.length = 2 :=
            ⟨its.take (its.length - 2), its.drop (its.length - 2), (List.take_append_drop _ _).symm, by rw [List.length_drop]; omega⟩
          have hlab : (a ++ b).length = a.length + b.length := List.length_append
          have hfab : (flat (a ++ b)).length = (flat a).length + (flat b).length := by rw [flat_app, List.length_append]
          refine ⟨p1, _, q, .str kd, rfl, rfl, SqL.of upd_same, hkd, _, rfl, _, rfl, _, rfl, h, N, R, X, a, b, as, kd, kd, by rw [hb]; rfl, L2.mono eP, by omega, by omega, .inr (.inr ⟨rfl, by rw [hb]; exact hlk⟩), fun H3 it as' fr L3 hit => ?_⟩
          refine ⟨_, _, _, _, _, _, a ++ [it], as', rfl, F4.keep (e2.trans eP) fr, L3, ?_, by simp, ?_⟩
          · rw [flat_app, List.length_append, List.length_append, show flat [it] = it.2 by simp [flat], hit, List.length_singleton]
            omega
          · rw [List.length_append, List.length_singleton]
            omega
        · have hz : ¬ (1 : Int) < ((ni (rootsL 0 its)).length : Int) := fun y => z (decide_eq_true y)
          rw [hRl] at hz
          have := List.length_pos_iff.mpr hne
          exact ⟨_, _, _, _, _, _, its, as, rfl, e2, L2, hsum, hne, .inl (by omega)⟩
      · rintro σ' H2 ⟨v5, v6, v7, v8, v9, v10, its, as, rfl, e2, L2, hsum, hne, hor⟩
        have hp2 := List.length_pos_iff.mpr hne
        obtain ⟨⟨t, ns⟩, rfl⟩ : ∃ i, its = [i] := by
          cases its with
          | nil => exact absurd rfl hne
          | cons i r =>
            cases r with
            | nil => exact ⟨i, rfl⟩
            | cons j r => simp only [List.length_cons] at hor; omega
        have hfl1 : flat [(t, ns)] = ns := by simp [flat]
        have hle := L2.le (t, ns) List.mem_cons_self
        have hA := L2.hA
        rw [hfl1] at hsum hA
        have hsum : ns.length + 1 ≤ most.toNat + 1 := hsum
        have hle : t.length ≤ 14 * ns.length := hle
        refine ⟨_, rfl, h, _, 0, .ref N, rfl, rfl, SqL.of L2.hh, atI_nat (j := 0) rfl, _, rfl, h, _, 2, .ref X, rfl, rfl, SqL.of L2.hh, atI_nat (j := 2) rfl, X, _, 0, .str (ofL t), rfl, rfl, SqL.of L2.hX, atI_nat (j := 0) rfl, sz_of (by show 2 ≤ 100000; decide), fun p hp => ?_⟩
        have eP := Ex.new (o := .lst [.ref N, .str (ofL t)]) hp
        refine k p N as (ofL t) ns _ (e2.trans eP) upd_same (eP _ _ L2.hN) (hA.imp fun _ _ q => q.mono eP) (by rw [tl_ofL]; exact L2.ok.1) (by rw [ofL_len]; omega) (by omega) (e2.free' hp) F4.h1 (ne_of_none L2.hN hp).symm
end
end K11

set_option Elab.async false
set_option linter.all false
set_option maxRecDepth 100000
namespace K11
open PySem PySem.Spec PyProof.Rows L2 Evl TL UL StX
section
variable {P : Program} {w : World} {K : PySem.W.Frag} {mg : Str → Option Value} {base : Heap} {A : Adr}
/-! ### places -/
def flatOk (v : V) : Bool := match v with
  | .str z => PyData.strOk z
  | .int _ => true
  | .bl _ => true
  | .non => true
  | _ => false
theorem flatOk_flat {v : V} (h : flatOk v = true) : flatV v = true := by
  cases v <;> first | rfl | cases h
def isInt : V → Bool
  | .int _ => true
  | _ => false
def placeOf (v : V) (n : Nat) : Option Nat := match v with
  | .int i => if 0 ≤ i ∧ i < n then some i.toNat else none
  | _ => none
/-- its kind -/
theorem flat_kind {K : PySem.W.Frag} {H : Hp} {v : V} (h : flatOk v = true) : ∃ (d : PyData) (t : Value) (b : Bool), Dp K H v d ∧ SeqAt.shaped d = true ∧ TyX K H v t ∧ PySem.W.kitOne K t (.type "bool") = some b ∧ ((isInt v = true ∧ b = false ∧ PySem.W.kitOne K t (.type "int") = some true) ∨ (isInt v = false ∧ b = true ∧ PySem.W.kitOne K t (.type "int") = some true) ∨ (isInt v = false ∧ PySem.W.kitOne K t (.type "int") = some false)) := by
  cases v with
  | non => exact ⟨_, _, _, .non, by decide +kernel, .base .non, kit_ty (r := false) (by decide +kernel), .inr (.inr ⟨rfl, kit_ty (r := false) (by decide +kernel)⟩)⟩
  | bl b => exact ⟨_, _, true, .bl b, by cases b <;> decide +kernel, .base (.bl b), kit_ty (r := true) (by decide +kernel), .inr (.inl ⟨rfl, rfl, kit_ty (r := true) (by decide +kernel)⟩)⟩
  | int i => exact ⟨_, _, false, .int i, (by unfold SeqAt.shaped; rw [Bool.and_eq_true]; exact ⟨by simp only [PyData.canLay0], decide_eq_true (by simp only [PyData.depth]; omega)⟩), .base (.int i), kit_ty (r := false) (by decide +kernel), .inl ⟨rfl, rfl, kit_ty (r := true) (by decide +kernel)⟩⟩
  | str z => exact ⟨_, _, _, .str z, (by unfold SeqAt.shaped; rw [Bool.and_eq_true]; exact ⟨by simp only [PyData.canLay0]; exact h, decide_eq_true (by simp only [PyData.depth]; omega)⟩), .base (.str z), kit_ty (r := false) (by decide +kernel), .inr (.inr ⟨rfl, kit_ty (r := false) (by decide +kernel)⟩)⟩
  | _ => cases h
def spWhole : Sp := fun vs H Q _ => ∃ v, vs = [v] ∧ flatOk v = true ∧ Q (.bl (isInt v)) H
theorem ok_is_whole (T : Tx0 w K mg A) : FnOk P w K mg base CX0 1 A.is_whole A.d_is_whole p_is_whole spWhole := by
  refine T.F_is_whole.ok sc_is_whole (fun vs H Q E h => ?_) (fun cdv Ar outer s H vs Q E hr h => ?_)
  · obtain ⟨v, rfl, _⟩ := h
    rfl
  · obtain ⟨v, rfl, hv, k⟩ := h
    refine ⟨_, (pss_one (ps_ret (pe_and (pe_callB call_isi (by rfl) T.m_isinstance (by decide +kernel) (pa_cons (pv 0) (pa_cons (pe_bltn (v := .ty "int") (u := .type "int") (by rfl) T.m_int (by decide +kernel) rfl) pa_nil))) (pe_one (pe_not (pe_callB call_isi (by rfl) T.m_isinstance (by decide +kernel) (pa_cons (pv 0) (pa_cons (pe_bltn (v := .ty "bool") (u := .type "bool") (by rfl) T.m_bool (by decide +kernel) rfl) pa_nil)))))))), ?_⟩
    obtain ⟨d, t, b, _, _, ty, kb, hc⟩ := flat_kind (K := K) (H := H) hv
    rcases hc with ⟨h1, rfl, ki⟩ | ⟨h1, rfl, ki⟩ | ⟨h1, ki⟩
    · rw [h1] at k
      exact ⟨_, rfl, v, _, t, _, true, rfl, .ty "int", ty, ki, _, rfl, iteT ⟨_, rfl, v, _, t, _, false, rfl, .ty "bool", ty, kb, _, rfl, k⟩⟩
    · rw [h1] at k
      exact ⟨_, rfl, v, _, t, _, true, rfl, .ty "int", ty, ki, _, rfl, iteT ⟨_, rfl, v, _, t, _, true, rfl, .ty "bool", ty, kb, _, rfl, k⟩⟩
    · rw [h1] at k
      exact ⟨_, rfl, v, _, t, _, false, rfl, .ty "int", ty, ki, _, rfl, iteF k⟩
def spIsInt : Sp := fun vs H Q _ => ∃ v n, vs = [v, .int 0, .int ((n : Nat) - 1 : Int)] ∧ flatOk v = true ∧ Q (.bl (placeOf v n).isSome) H
theorem ok_is_int (T : Tx0 w K mg A) : FnOk P w K mg base CX0 2 A.is_int A.d_is_int p_is_int spIsInt := by
  refine T.F_is_int.ok sc_is_int (fun vs H Q E h => ?_) (fun cdv Ar outer s H vs Q E hr h => ?_)
  · obtain ⟨v, n, rfl, _⟩ := h
    rfl
  · obtain ⟨v, n, rfl, hv, k⟩ := h
    refine ⟨_, (pss_one (ps_ret (pe_and (pe_call (ok_is_whole T) (hr.mono (by decide)) (by rfl) T.g_is_whole T.F_is_whole.kp T.b_is_whole .nil pass0 (pa_cons (pv 0) pa_nil)) (pe_one (pe_chain op_le op_le (pv 1) (pv 0) (pv 2)))))), ?_⟩
    refine ⟨_, rfl, v, rfl, hv, _, rfl, ?_⟩
    cases v with
    | int i =>
      refine iteT ?_
      rw [show (placeOf (.int i) n).isSome = (decide (0 ≤ i) && decide (i ≤ (n : Int) - 1)) by
        show (if 0 ≤ i ∧ i < n then some i.toNat else none).isSome = _
        by_cases h : 0 ≤ i ∧ i < n
        · rw [if_pos h, decide_eq_true h.1, decide_eq_true (show i ≤ (n : Int) - 1 by omega)]; rfl
        · rw [if_neg h]
          by_cases h0 : 0 ≤ i
          · rw [decide_eq_true h0, decide_eq_false (show ¬ i ≤ (n : Int) - 1 by omega)]; rfl
          · rw [decide_eq_false h0]; rfl] at k
      refine ⟨_, rfl, _, rfl, (0 : Int), i, rfl, rfl, _, rfl, ?_⟩
      by_cases h0 : 0 ≤ i
      · rw [decide_eq_true h0] at k ⊢
        exact iteT ⟨_, rfl, i, _, rfl, rfl, k⟩
      · rw [decide_eq_false h0] at k ⊢
        exact iteF k
    | str z => exact iteF k
    | bl b => exact iteF k
    | non => exact iteF k
    | _ => cases hv
/-! ### the lowest node of a range -/
theorem placeOf_some {v : V} {n a : Nat} (h : placeOf v n = some a) : ∃ i : Int, v = .int i ∧ 0 ≤ i ∧ i < n ∧ a = i.toNat := by
  cases v with
  | int i =>
    have h : (if 0 ≤ i ∧ i < n then some i.toNat else none) = some a := h
    by_cases hi : 0 ≤ i ∧ i < n
    · rw [if_pos hi] at h
      exact ⟨i, rfl, hi.1, hi.2, (Option.some.inj h).symm⟩
    · rw [if_neg hi] at h
      cases h
  | _ => cases h
def spFirst (C : Addr) (X : Addr) : Sp := fun vs H Q E => ∃ (x : Addr) (ns : List Nd) (v : V), vs = [.ref x, v] ∧ ExAt C H x ns ∧ flatOk v = true ∧
  match placeOf v ns.length with
  | some a => Q (.int (fst ns a : Nat)) H
  | none => ∀ d H', Ex H H' → H' d = some (.xd [("what", v)]) → E (.ref X) (some d) H'
theorem ok_ex_first (T : Tx0 w K mg A) : FnOk P w K mg base (L2.CX P w) 6 A.ex_first A.d_ex_first p_ex_first (spFirst A.Expression A.NoPlace) := by
  refine T.F_ex_first.okX sc_ex_first (fun vs H Q E h => ?_) (fun cdv Ar outer s H vs Q E hr h => ?_)
  · obtain ⟨x, ns, v, rfl, _⟩ := h
    rfl
  · obtain ⟨x, ns, v, rfl, hx, hv, k⟩ := h
    refine ⟨_, (pss_cons (ps_if (pt_not (pt_val (pe_call (ok_is_int T) (hr.mono (by decide)) (by rfl) T.g_is_int T.F_is_int.kp T.b_is_int .nil pass0 (pa_cons (pv 1) (pa_cons pe_int (pa_cons (pe_op op_sub (pe_callB call_len_seq (by rfl) T.m_len PySem.boot_len (pa_cons (pe_fld (pv 0) rfl) pa_nil)) pe_int) pa_nil)))))) (pss_one (ps_raise rfl (takes_of rfl rfl rfl rfl) (pmk_oex T.ex_NoPlace.ox T.ex_NoPlace.ii T.ti_lives_init (ok_lives_init T) (hr.mono (by decide)) T.b_lives_init .nil pass0 (by rfl) T.g_NoPlace (pa_cons (pv 1) pa_nil)))) pss_nil)
      (pss_one (ps_ret (pe_ix ix_list (pe_fld (pv 0) rfl) (pv 1) (fun _ _ => rfl))))), ?_⟩
    obtain ⟨dx, t, f, as, h1, h2, h3, h4⟩ := hx
    refine ⟨_, rfl, _, rfl, x, _, dx, _, _, rfl, h1, T.cl_Expression, T.na_Expression__nodes, ex_look _ _, t, _, rfl, .inr (SqT.of h2), _, 1, rfl, rfl, v, ns.length, by rw [List.length_map, h3.len]; rfl, hv, _, rfl, ?_⟩
    cases hp : placeOf v ns.length with
    | none =>
      rw [hp] at k
      exact iteT ⟨_, rfl, (by show 1 ≤ 1000; decide), raise_what T.ex_NoPlace (flatOk_flat hv) fun d H' e' hd => k d H' e' hd⟩
    | some a =>
      rw [hp] at k
      obtain ⟨i, rfl, h0, hi, rfl⟩ := placeOf_some hp
      have ha : (ni (firstsL ns))[i.toNat]? = some (.int (fst ns i.toNat : Nat)) := by
        unfold ni fst
        rw [List.getElem?_map, List.getD_eq_getElem?_getD, List.getElem?_eq_getElem (by rw [firstsL_len]; omega)]
        rfl
      refine iteF ⟨_, rfl, x, _, dx, _, _, rfl, h1, T.cl_Expression, T.na_Expression__firsts, ex_look2 _ _, _, rfl, f, _, i, _, rfl, rfl, SqL.of h4, ?_, k⟩
      rw [← Int.toNat_of_nonneg h0]
      exact atI_nat ha
/-! ### texts -/
theorem wordOk : WordOk okS := ⟨fun w h => okS_plain h, fun w h => (okS_all h).2, fun w h => by rw [← len_tl]; exact okS_len h, fun w h => okS_noop h⟩
structure OkN (ns : List Nd) : Prop where
  F : Forest ns [ns.length - 1]
  g : ∀ nd ∈ ns, GoodNd okS nd
  ne : ns ≠ []
  le : ns.length ≤ 20
theorem okN_of {t : List Nat} {ns : List Nd} (h : GoodE okS t 0 ns) (hl : ns.length ≤ 20) : OkN ns := by
  obtain ⟨w1, w2⟩ := good_wf h
  refine ⟨good_forest h, fun nd hnd => ?_, h.1, hl⟩
  obtain ⟨j, hj⟩ := List.getElem?_of_mem hnd
  have a := (w1 j nd hj).1
  have b := w2 nd hnd
  cases nd with
  | name w => exact b
  | call w os => exact ⟨b, a⟩
  | op w os => exact a
theorem okN_good {ns : List Nd} (h : OkN ns) : GoodE okS (tx ns (ns.length - 1)) 0 ns ∧ (tx ns (ns.length - 1)).length ≤ 280 := by
  obtain ⟨h1, h2⟩ := forest_good wordOk h.F h.g
  have := h.le
  exact ⟨h1, by omega⟩
theorem goodNd_small {nd : Nd} (h : GoodNd okS nd) : (tl (wordOf nd)).length ≤ 8 ∧ (opsOf nd).length ≤ 4 := by
  cases nd with
  | name w => exact ⟨wordOk.le w h, Nat.zero_le _⟩
  | call w os => exact ⟨wordOk.le w h.1, h.2⟩
  | op w os =>
    have h : opsT.lookup w = some (os.length : Int) := h
    obtain ⟨_, h1, h2⟩ := op_pl h
    exact ⟨h1, by show os.length ≤ 4; omega⟩
theorem okN_len {ns : List Nd} (h : OkN ns) {i : Nat} (hi : i < ns.length) : (tx ns i).length ≤ 280 := by
  have := (forest_len h.F fun nd hnd => goodNd_small (h.g nd hnd)).2 i hi
  have := h.le
  omega
theorem goodNd_wf {nd : Nd} (h : GoodNd okS nd) : WfNd nd := by
  cases nd with
  | name w => trivial
  | call w os => exact h.2
  | op w os => exact h
theorem sum_small (f : Nat → Str) : ∀ os : List Nat, os.length ≤ 4 → (∀ o ∈ os, (f o).length ≤ 280) → ((os.map f).map fun x => x.length).sum ≤ 280 * 4 := by
  intro os h4 h
  have gen : ∀ os : List Nat, (∀ o ∈ os, (f o).length ≤ 280) → ((os.map f).map fun x => x.length).sum ≤ 280 * os.length := by
    intro os
    induction os with
    | nil => exact fun _ => Nat.le_refl _
    | cons o r ih =>
      intro h
      have h1 := h o List.mem_cons_self
      have h2 := ih fun q hq => h q (List.mem_cons_of_mem _ hq)
      rw [List.map_cons, List.map_cons, List.sum_cons, List.length_cons]
      omega
  have := gen os h
  omega
theorem join_f (f : Nat → Str) (os : List Nat) : Txt.join "," (os.map f) = ofL (joinC (os.map fun o => tl (f o))) := by
  have h : os.map f = (os.map fun o => tl (f o)).map ofL := by
    rw [List.map_map]
    exact List.map_congr_left fun o _ => (ofL_tl (f o)).symm
  rw [h, join_C]
theorem join_small (f : Nat → Str) (os : List Nat) (h4 : os.length ≤ 4) (h : ∀ o ∈ os, (f o).length ≤ 280) : (Txt.join "," (os.map f)).length ≤ 280 * 4 + 4 := by
  rw [join_f, ofL_len]
  have h1 := joinC_len2 (fun o => tl (f o)) os
  have h2 := sum_small f os h4 h
  rw [List.map_map] at h2
  have e : (os.map fun o => (tl (f o)).length) = os.map ((fun x : Str => x.length) ∘ f) := List.map_congr_left fun o _ => (len_tl (f o)).symm
  rw [e] at h1
  omega
theorem out_text (w : Str) (f : Nat → Str) (os : List Nat) : Str.empty ++ w ++ "(" ++ Txt.join "," (os.map f) ++ ")" = ofL (tl w ++ 40 :: joinC (os.map fun o => tl (f o)) ++ [41]) := by
  have h : tl (Str.empty ++ w ++ "(" ++ Txt.join "," (os.map f) ++ ")") = tl w ++ 40 :: joinC (os.map fun o => tl (f o)) ++ [41] := by
    rw [tl_append, tl_append, tl_append, tl_append, join_f, tl_ofL, show tl Str.empty = [] by decide +kernel, show tl "(" = [40] by decide +kernel, show tl ")" = [41] by decide +kernel]
    simp
  rw [← ofL_tl (Str.empty ++ w ++ "(" ++ Txt.join "," (os.map f) ++ ")"), h]
theorem out_text2 (w : Str) (f : Nat → Str) (os : List Nat) : w ++ "(" ++ Txt.join "," (os.map f) ++ ")" = ofL (tl w ++ 40 :: joinC (os.map fun o => tl (f o)) ++ [41]) := by
  have h : tl (w ++ "(" ++ Txt.join "," (os.map f) ++ ")") = tl w ++ 40 :: joinC (os.map fun o => tl (f o)) ++ [41] := by
    rw [tl_append, tl_append, tl_append, join_f, tl_ofL, show tl "(" = [40] by decide +kernel, show tl ")" = [41] by decide +kernel]
    simp
  rw [← ofL_tl (w ++ "(" ++ Txt.join "," (os.map f) ++ ")"), h]
/-! ### nodes as data -/
theorem dp_ni {K : PySem.W.Frag} {H : Hp} : ∀ os : List Nat, DpAll K H (ni os) (ndI os)
  | [] => .nil
  | o :: r => .cons (.int _) (dp_ni r)
theorem dp_node {K : PySem.W.Frag} {H : Hp} {a : Addr} {nd : Nd} (h : NdAt H a nd) : Dp K H (.ref a) (nodeD nd) := by
  cases nd with
  | name w => exact .tup (SqT.of h) (.cons (.str _) (.cons (.str _) .nil))
  | call w os =>
    obtain ⟨t, h1, h2⟩ := h
    exact .tup (SqT.of h1) (.cons (.str _) (.cons (.str _) (.cons (.tup (SqT.of h2) (dp_ni os)) .nil)))
  | op w os => exact .tup (SqT.of h) (.cons (.str _) (dp_ni os))
theorem dp_nodes {K : PySem.W.Frag} {H : Hp} {as : List Addr} {ns : List Nd} (h : Al2 (NdAt H) as ns) : DpAll K H (as.map V.ref) (ns.map nodeD) := by
  induction h with
  | nil => exact .nil
  | cons h _ ih => exact .cons (dp_node h) ih
theorem ndI_lay : ∀ os : List Nat, PyData.canLayAll0 (ndI os) = true ∧ PyData.depthAll (ndI os) ≤ 1
  | [] => ⟨rfl, by simp [ndI, PyData.depthAll]⟩
  | o :: r => by
    obtain ⟨h1, h2⟩ := ndI_lay r
    refine ⟨?_, ?_⟩
    · show (PyData.canLay0 (.int _) && PyData.canLayAll0 (ndI r)) = true
      rw [h1]
      rfl
    · show PyData.depthAll (.int _ :: ndI r) ≤ 1
      simp only [PyData.depthAll, PyData.depth]
      omega
theorem goodNd_str {nd : Nd} (h : GoodNd okS nd) : PyData.strOk (wordOf nd) = true := by
  cases nd with
  | name w => exact okS_str h
  | call w os => exact okS_str h.1
  | op w os =>
    have h : opsT.lookup w = some (os.length : Int) := h
    rcases ops_cases h with ⟨rfl, _⟩ | ⟨rfl, _⟩ | ⟨rfl, _⟩
    · exact (by decide +kernel : PyData.strOk "part" = true)
    · exact (by decide +kernel : PyData.strOk "pick" = true)
    · exact (by decide +kernel : PyData.strOk "then" = true)
theorem node_lay {nd : Nd} (h : GoodNd okS nd) : PyData.canLay0 (nodeD nd) = true ∧ PyData.depth (nodeD nd) ≤ 4 := by
  have hs := goodNd_str h
  cases nd with
  | name w =>
    have hs : PyData.strOk w = true := hs
    refine ⟨?_, by simp [nodeD, PyData.depth, PyData.depthAll]⟩
    show (PyData.canLay0 (.str "name") && (PyData.canLay0 (.str w) && true)) = true
    rw [show PyData.canLay0 (.str w) = true from hs, show PyData.canLay0 (.str "name") = true by decide +kernel]
    rfl
  | call w os =>
    have hs : PyData.strOk w = true := hs
    obtain ⟨h1, h2⟩ := ndI_lay os
    refine ⟨?_, ?_⟩
    · show (PyData.canLay0 (.str "call") && (PyData.canLay0 (.str w) && (PyData.canLayAll0 (ndI os) && true))) = true
      rw [show PyData.canLay0 (.str w) = true from hs, show PyData.canLay0 (.str "call") = true by decide +kernel, h1]
      rfl
    · simp only [nodeD, PyData.depth, PyData.depthAll]
      omega
  | op w os =>
    have hs : PyData.strOk w = true := hs
    obtain ⟨h1, h2⟩ := ndI_lay os
    refine ⟨?_, ?_⟩
    · show (PyData.canLay0 (.str w) && PyData.canLayAll0 (ndI os)) = true
      rw [show PyData.canLay0 (.str w) = true from hs, h1]
      rfl
    · simp only [nodeD, PyData.depth, PyData.depthAll]
      omega
theorem nodes_lay : ∀ ns : List Nd, (∀ nd ∈ ns, GoodNd okS nd) → PyData.canLayAll0 (ns.map nodeD) = true ∧ PyData.depthAll (ns.map nodeD) ≤ 4
  | [], _ => ⟨rfl, by simp [PyData.depthAll]⟩
  | nd :: r, h => by
    obtain ⟨h1, h2⟩ := nodes_lay r fun d hd => h d (List.mem_cons_of_mem _ hd)
    obtain ⟨g1, g2⟩ := node_lay (h nd List.mem_cons_self)
    refine ⟨?_, ?_⟩
    · show (PyData.canLay0 (nodeD nd) && PyData.canLayAll0 (r.map nodeD)) = true
      rw [h1, g1]
      rfl
    · rw [List.map_cons]
      simp only [PyData.depthAll]
      omega
theorem shaped_nodes {ns : List Nd} (h : OkN ns) : SeqAt.shaped (.tuple (ns.map nodeD)) = true := by
  obtain ⟨h1, h2⟩ := nodes_lay ns h.g
  unfold SeqAt.shaped
  rw [show PyData.canLay0 (.tuple (ns.map nodeD)) = true by unfold PyData.canLay0; exact h1, Bool.true_and]
  refine decide_eq_true ?_
  simp only [PyData.depth]
  omega
theorem shaped_nodesL {ns : List Nd} (h : OkN ns) : SeqAt.shaped (.list (ns.map nodeD)) = true := by
  obtain ⟨h1, h2⟩ := nodes_lay ns h.g
  unfold SeqAt.shaped
  rw [show PyData.canLay0 (.list (ns.map nodeD)) = true by unfold PyData.canLay0; exact h1, Bool.true_and]
  refine decide_eq_true ?_
  simp only [PyData.depth]
  omega
theorem okN_w {ns : List Nd} (h : OkN ns) : ∀ nd ∈ ns, NdW nd := fun nd hnd => by
  have := h.g nd hnd
  cases nd with
  | name w => trivial
  | call w os => trivial
  | op w os => exact opw_ne (goodNd_wf this)
def nodeSp (nd : Nd) (f : Nat → Str) : Str := ofL (ndT (fun o => tl (f o)) nd)
def spNodeText : Sp := fun vs H Q _ => ∃ (a dT : Addr) (nd : Nd) (f : Nat → Str) (ks : List (Key × V)), vs = [.ref a, .ref dT] ∧ NdAt H a nd ∧ GoodNd okS nd ∧ H dT = some (.dK ks) ∧ (∀ o ∈ opsOf nd, valV ks (Sum.inl (o : Int)) = some (.str (f o)) ∧ (f o).length ≤ 280) ∧ ∀ H', Ex H H' → Q (.str (nodeSp nd f)) H'
theorem ok_node_text (T : Tx0 w K mg A) : FnOk P w K mg base CX0 2 A.node_text A.d_node_text p_node_text spNodeText := by
  refine T.F_node_text.ok sc_node_text (fun vs H Q E h => ?_) (fun cdv Ar outer s H vs Q E hr h => ?_)
  · obtain ⟨a, dT, nd, f, ks, rfl, _⟩ := h
    rfl
  · obtain ⟨a, dT, nd, f, ks, rfl, ha, hg, hd, hv, k⟩ := h
    refine ⟨_, (pss_cons (ps_if (pt_cmpR op_eq (pe_ix ix_tup (pv 0) pe_int (fun _ _ => rfl)) pe_str (nomark _)) (pss_one (ps_ret (pe_ix ix_tup (pv 0) pe_int (fun _ _ => rfl)))) pss_nil)
      (pss_cons (ps_set (i := 2) sc_node_text.nd rfl (Or.inl rfl) (pe_ifExp (pt_cmpR op_eq (pe_ix ix_tup (pv 0) pe_int (fun _ _ => rfl)) pe_str (nomark _)) (pe_ix ix_tup (pv 0) pe_int (fun _ _ => rfl)) (pe_ix ix_tup (pv 0) pe_int (fun _ _ => rfl))))
      (pss_cons (ps_set (i := 3) sc_node_text.nd rfl (Or.inl rfl) (pe_bm PySem.F.plainAttrs_str PySem.F.slot_str_join PySem.F.type_str_join mt_join pe_str (pa_cons (pe_lc (own := [("i", 4)]) (g := gName 4) (tt := tYes) rfl sc_node_text.nd (pi_tup (pe_call (ok_operands_of T) (hr.mono (by decide)) (by rfl) T.g_operands_of T.F_operands_of.kp T.b_operands_of .nil pass0 (pa_cons (pv 0) pa_nil))) (blkOk_by (N := n_node_text) (sc := defScope s_node_text) (by decide +kernel)) (fun _ _ _ _ _ => pg_name (i := 4) sc_node_text.nd rfl (Or.inl rfl)) (fun _ _ _ _ _ => pts_nil) (fun _ _ _ _ _ => (pe_dget (hu_of hr) (pv 1) (pv 4) (fun _ _ => rfl)))) pa_nil)))
      (pss_one (ps_ret (pe_joined (.cons (pe_fmt (pv 2)) (.cons pe_str (.cons (pe_fmt (pv 3)) (.cons pe_str .nil)))))))))), ?_⟩
    cases nd with
    | name w =>
      have h : H a = some (.tup [.str "name", .str w]) := ha
      refine ⟨_, rfl, a, _, 0, .str "name", rfl, rfl, SqT.of h, atI_nat (j := 0) rfl, rfl, _, rfl, ?_⟩
      rw [str_eqb, decide_eq_true rfl]
      have k := k H (Ex.refl H)
      rw [show nodeSp (.name w) f = w from ofL_tl w] at k
      exact iteT ⟨_, rfl, a, _, 1, .str w, rfl, rfl, SqT.of h, atI_nat (j := 1) rfl, k⟩
    | call w os =>
      have hg2 : okS w = true ∧ os.length ≤ 4 := hg
      have hwl : w.length ≤ 8 := by rw [len_tl]; exact wordOk.le w hg2.1
      obtain ⟨t, h, ht⟩ := id ha
      refine ⟨_, rfl, a, _, 0, .str "call", rfl, rfl, SqT.of h, atI_nat (j := 0) rfl, rfl, _, rfl, ?_⟩
      rw [str_eqb, decide_eq_false (by decide +kernel)]
      refine iteF ⟨_, rfl, a, _, 0, .str "call", rfl, rfl, SqT.of h, atI_nat (j := 0) rfl, rfl, _, rfl, ?_⟩
      rw [str_eqb, decide_eq_true rfl]
      refine iteT ⟨_, rfl, a, _, 1, .str w, rfl, rfl, SqT.of h, atI_nat (j := 1) rfl, ?_⟩
      refine ⟨rfl, _, rfl, a, _, rfl, ha, goodNd_wf hg, fun p H1 e1 hp => ⟨p, rfl, ⟨_, SqT.of hp⟩, fun D hD => ?_⟩⟩
      refine lc_tup (xs := ni os) (fun i H' => Ex H1 H' ∧ H' D = some (.lst ((os.take i).map fun o => V.str (f o)))) ⟨Ex.new hD, upd_same⟩ (fun i H' _ h => SqT.of (h.1 _ _ hp)) ?_ ?_
      · rintro i x H2 hx ⟨e2, h2⟩
        have hx : (os.map fun (n : Nat) => V.int (n : Int))[i]? = some x := hx
        rw [List.getElem?_map] at hx
        obtain ⟨o, ho, rfl⟩ := Option.map_eq_some_iff.mp hx
        have hvo := hv o (List.mem_of_getElem? ho)
        refine ⟨rfl, _, rfl, _, rfl, dT, _, rfl, (show DGet H2 dT (.int (o : Int)) (some (.str (f o))) from by rw [← hvo.1]; exact DGet.k (k := Sum.inl (o : Int)) (e2 _ _ (e1 _ _ hd))), _, h2, sz_lt (by rw [List.length_map, List.length_take]; omega), e2.mut hD, ?_⟩
        rw [upd_same, List.take_succ, ho, List.map_append]
        rfl
      · rintro H2 ⟨e2, h2⟩
        rw [ni_len, List.take_length] at h2
        have hsum : ((os.map f).map fun x => x.length).sum ≤ 280 * 4 := sum_small f os hg2.2 (fun o ho => (hv o ho).2)
        have hjl : (Txt.join "," (os.map f)).length ≤ 280 * 4 + 4 := join_small f os hg2.2 (fun o ho => (hv o ho).2)
        refine ⟨",", D, os.map f, rfl, rfl, .inl (SqL.of (by rw [h2, List.map_map]; rfl)), ?_, ?_⟩
        · rw [List.length_map]
          show _ + os.length * 1 ≤ 16777216
          have := hg2.2
          omega
        · refine ⟨_, rfl, .inl ⟨w, rfl, sz_of (by omega), _, rfl, sz_of (by rw [len_app]; show 0 + w.length ≤ 100000; omega), _, rfl, sz_of (by rw [len_app, len_app]; show 0 + w.length + 1 ≤ 100000; omega), _, rfl, .inl ⟨_, rfl, sz_of (by omega), _, rfl, sz_of (by rw [len_app, len_app, len_app]; show 0 + w.length + 1 + _ ≤ 100000; omega), _, rfl, sz_of (by rw [len_app, len_app, len_app, len_app]; show 0 + w.length + 1 + _ + 1 ≤ 100000; omega), ?_⟩⟩⟩
          have k := k H2 (e1.trans e2)
          show Q (.str (Str.empty ++ w ++ "(" ++ Txt.join "," (os.map f) ++ ")")) H2
          rw [out_text w f os]
          exact k
    | op w os =>
      have hg2 : opsT.lookup w = some (os.length : Int) := hg
      obtain ⟨_, hwl', h42⟩ := op_pl hg2
      have hwl : w.length ≤ 8 := by rw [len_tl]; exact hwl'
      have hg2 : True ∧ os.length ≤ 4 := ⟨trivial, by omega⟩
      have h : H a = some (.tup (.str w :: ni os)) := ha
      obtain ⟨n1, n2⟩ := opw_ne hg
      refine ⟨_, rfl, a, _, 0, .str w, rfl, rfl, SqT.of h, atI_nat (j := 0) rfl, rfl, _, rfl, ?_⟩
      rw [str_eqb, decide_eq_false n1]
      refine iteF ⟨_, rfl, a, _, 0, .str w, rfl, rfl, SqT.of h, atI_nat (j := 0) rfl, rfl, _, rfl, ?_⟩
      rw [str_eqb, decide_eq_false n2]
      refine iteF ⟨_, rfl, a, _, 0, .str w, rfl, rfl, SqT.of h, atI_nat (j := 0) rfl, ?_⟩
      refine ⟨rfl, _, rfl, a, _, rfl, ha, goodNd_wf hg, fun p H1 e1 hp => ⟨p, rfl, ⟨_, SqT.of hp⟩, fun D hD => ?_⟩⟩
      refine lc_tup (xs := ni os) (fun i H' => Ex H1 H' ∧ H' D = some (.lst ((os.take i).map fun o => V.str (f o)))) ⟨Ex.new hD, upd_same⟩ (fun i H' _ h => SqT.of (h.1 _ _ hp)) ?_ ?_
      · rintro i x H2 hx ⟨e2, h2⟩
        have hx : (os.map fun (n : Nat) => V.int (n : Int))[i]? = some x := hx
        rw [List.getElem?_map] at hx
        obtain ⟨o, ho, rfl⟩ := Option.map_eq_some_iff.mp hx
        have hvo := hv o (List.mem_of_getElem? ho)
        refine ⟨rfl, _, rfl, _, rfl, dT, _, rfl, (show DGet H2 dT (.int (o : Int)) (some (.str (f o))) from by rw [← hvo.1]; exact DGet.k (k := Sum.inl (o : Int)) (e2 _ _ (e1 _ _ hd))), _, h2, sz_lt (by rw [List.length_map, List.length_take]; omega), e2.mut hD, ?_⟩
        rw [upd_same, List.take_succ, ho, List.map_append]
        rfl
      · rintro H2 ⟨e2, h2⟩
        rw [ni_len, List.take_length] at h2
        have hsum : ((os.map f).map fun x => x.length).sum ≤ 280 * 4 := sum_small f os hg2.2 (fun o ho => (hv o ho).2)
        have hjl : (Txt.join "," (os.map f)).length ≤ 280 * 4 + 4 := join_small f os hg2.2 (fun o ho => (hv o ho).2)
        refine ⟨",", D, os.map f, rfl, rfl, .inl (SqL.of (by rw [h2, List.map_map]; rfl)), ?_, ?_⟩
        · rw [List.length_map]
          show _ + os.length * 1 ≤ 16777216
          have := hg2.2
          omega
        · refine ⟨_, rfl, .inl ⟨w, rfl, sz_of (by omega), _, rfl, sz_of (by rw [len_app]; show 0 + w.length ≤ 100000; omega), _, rfl, sz_of (by rw [len_app, len_app]; show 0 + w.length + 1 ≤ 100000; omega), _, rfl, .inl ⟨_, rfl, sz_of (by omega), _, rfl, sz_of (by rw [len_app, len_app, len_app]; show 0 + w.length + 1 + _ ≤ 100000; omega), _, rfl, sz_of (by rw [len_app, len_app, len_app, len_app]; show 0 + w.length + 1 + _ + 1 ≤ 100000; omega), ?_⟩⟩⟩
          have k := k H2 (e1.trans e2)
          show Q (.str (Str.empty ++ w ++ "(" ++ Txt.join "," (os.map f) ++ ")")) H2
          rw [out_text w f os]
          exact k
theorem ndT_congr {f g : Nat → List Nat} {nd : Nd} (h : ∀ o ∈ opsOf nd, f o = g o) : ndT f nd = ndT g nd := by
  cases nd with
  | name w => rfl
  | call w os =>
    have h : ∀ o ∈ os, f o = g o := h
    show tl w ++ 40 :: joinC (os.map f) ++ [41] = tl w ++ 40 :: joinC (os.map g) ++ [41]
    rw [List.map_congr_left h]
  | op w os =>
    have h : ∀ o ∈ os, f o = g o := h
    show tl w ++ 40 :: joinC (os.map f) ++ [41] = tl w ++ 40 :: joinC (os.map g) ++ [41]
    rw [List.map_congr_left h]
/-! ### labelled texts -/
def LabOk (L : Nat → Option Str) : Prop := ∀ i z, L i = some z → z.length ≤ 8
def NmAt (H : Hp) (v : V) (L : Nat → Option Str) : Prop := (v = .non ∧ ∀ i, L i = none) ∨ ∃ q ks, v = .ref q ∧ H q = some (.dK ks) ∧ ∀ i : Nat, valV ks (Sum.inl (i : Int)) = (L i).map V.str
theorem NmAt.mono {H H' : Hp} {v : V} {L : Nat → Option Str} (h : NmAt H v L) (e : Ex H H') : NmAt H' v L := by
  rcases h with h | ⟨q, ks, h1, h2, h3⟩
  · exact .inl h
  · exact .inr ⟨q, ks, h1, e _ _ h2, h3⟩
theorem tlx_app {L : Nat → Option Str} {N : List Nd} {i : Nat} (h : i < N.length) : ∀ M : List Nd, txL' L (N ++ M) i = txL' L N i := by
  intro M
  induction M generalizing N with
  | nil => rw [List.append_nil]
  | cons d r ih =>
    rw [show N ++ d :: r = (N ++ [d]) ++ r by simp, ih (by rw [List.length_append]; omega), txL_old h]
theorem tlx_at {L : Nat → Option Str} {N : List Nd} {j : Nat} {nd : Nd} (h : N[j]? = some nd) (ho : ∀ o ∈ opsOf nd, o < j) : txL' L N j = labT L j (ndT (txL' L N) nd) := by
  obtain ⟨hj, hn⟩ := List.getElem?_eq_some_iff.mp h
  have htl : (N.take j).length = j := by rw [List.length_take]; omega
  have e : N = (N.take j ++ [nd]) ++ N.drop (j + 1) := by
    rw [← hn, List.append_assoc, List.singleton_append, ← List.drop_eq_getElem_cons hj, List.take_append_drop]
  have h1 : txL' L N j = labT L j (ndT (txL' L (N.take j)) nd) := by
    conv => lhs; rw [e]
    rw [tlx_app (by rw [List.length_append, htl, List.length_singleton]; omega)]
    have := txL_new (L := L) (N := N.take j) (nd := nd)
    rw [htl] at this
    exact this
  rw [h1]
  congr 1
  refine ndT_congr fun o hoo => ?_
  have := tlx_app (L := L) (N := N.take j) (i := o) (by rw [htl]; exact ho o hoo) (N.drop j)
  rw [List.take_append_drop] at this
  exact this.symm
theorem lab_len {L : Nat → Option Str} (hL : LabOk L) {i n : Nat} {t : List Nat} (h : t.length ≤ n) (h8 : 8 ≤ n) : (labT L i t).length ≤ n := by
  unfold labT
  cases e : L i with
  | none => exact h
  | some z =>
    have := hL i z e
    show (tl z).length ≤ n
    rw [← len_tl]
    omega
theorem forest_lenL {L : Nat → Option Str} (hL : LabOk L) {N : List Nd} {st : List Nat} (F : Forest N st) : (∀ nd ∈ N, (tl (wordOf nd)).length ≤ 8 ∧ (opsOf nd).length ≤ 4) →
    (st.map fun r => (txL' L N r).length).sum ≤ 14 * N.length ∧ ∀ i, i < N.length → (txL' L N i).length ≤ 14 * N.length := by
  induction F with
  | nil => exact fun _ => ⟨Nat.le_refl _, fun i h => by cases h⟩
  | @node N r nd F ih =>
    intro hN
    obtain ⟨h1, h2⟩ := ih fun d hd => hN d (List.mem_append_left _ hd)
    obtain ⟨g1, g2⟩ := hN nd (List.mem_append_right _ (List.mem_singleton.mpr rfl))
    have hm := forest_mem F
    have hnew := lab_len hL (i := N.length) (ndT_len (txL' L N) g1 g2) (by omega)
    rw [List.map_append, List.sum_append] at h1
    have old : (r.map fun q => (txL' L (N ++ [nd]) q).length) = r.map fun q => (txL' L N q).length := List.map_congr_left fun q hq => by rw [txL_old (hm q (List.mem_append_left _ hq))]
    rw [List.length_append, List.length_singleton]
    refine ⟨?_, fun i hi => ?_⟩
    · rw [List.map_append, List.sum_append, old]
      show _ + ((txL' L (N ++ [nd]) N.length).length + 0) ≤ _
      rw [txL_new]
      omega
    · by_cases e : i < N.length
      · rw [txL_old e]
        have := h2 i e
        omega
      · have e : i = N.length := by omega
        rw [e, txL_new]
        omega
theorem okN_lenL {L : Nat → Option Str} (hL : LabOk L) {ns : List Nd} (h : OkN ns) {i : Nat} (hi : i < ns.length) : (txL' L ns i).length ≤ 280 := by
  have := (forest_lenL hL h.F fun nd hnd => goodNd_small (h.g nd hnd)).2 i hi
  have := h.le
  omega
def xD (f : Nat → Str) (lo k : Nat) : List (Key × V) := (List.range k).map fun (i : Nat) => ((Sum.inl ((lo + i : Nat) : Int) : Key), V.str (f (lo + i)))
theorem xD_succ (f : Nat → Str) (lo k : Nat) : xD f lo (k + 1) = xD f lo k ++ [(Sum.inl ((lo + k : Nat) : Int), V.str (f (lo + k)))] := by
  unfold xD
  rw [List.range_succ, List.map_append]
  rfl
theorem xD_len (f : Nat → Str) (lo k : Nat) : (xD f lo k).length = k := by
  unfold xD
  rw [List.length_map, List.length_range]
theorem xD_none (f : Nat → Str) (lo : Nat) : ∀ (k i : Nat), lo + k ≤ i → valV (xD f lo k) (Sum.inl (i : Int)) = none
  | 0, i, _ => rfl
  | k + 1, i, h => by
    rw [xD_succ, valV_snoc _ _ _ _ (xD_none f lo k (lo + k) (Nat.le_refl _)), if_neg (by intro z; have := Sum.inl.inj z; omega)]
    exact xD_none f lo k i (by omega)
theorem xD_get {f : Nat → Str} {lo k i : Nat} (h0 : lo ≤ i) (h : i < lo + k) : valV (xD f lo k) (Sum.inl (i : Int)) = some (.str (f i)) := by
  induction k with
  | zero => omega
  | succ k ih =>
    rw [xD_succ, valV_snoc _ _ _ _ (xD_none f lo k (lo + k) (Nat.le_refl _))]
    by_cases e : i = lo + k
    · rw [if_pos (by rw [e]), e]
    · rw [if_neg (by intro z; have := Sum.inl.inj z; omega)]
      exact ih (by omega)
theorem xD_put (f : Nat → Str) (lo k : Nat) : putK (xD f lo k) (Sum.inl ((lo + k : Nat) : Int)) (V.str (f (lo + k))) = xD f lo (k + 1) := by
  unfold putK
  rw [valV_any, xD_none f lo k (lo + k) (Nat.le_refl _), if_neg (by simp), xD_succ]
def spPartText (C : Addr) (X : Addr) : Sp := fun vs H Q E => ∃ x ns v nm L, vs = [.ref x, v, nm] ∧ ExAt C H x ns ∧ OkN ns ∧ flatOk v = true ∧ NmAt H nm L ∧ LabOk L ∧
  match placeOf v ns.length with
  | some a => ∀ H', Ex H H' → Q (.str (ofL (txL' L ns a))) H'
  | none => ∀ d H', Ex H H' → H' d = some (.xd [("what", v)]) → E (.ref X) (some d) H'
theorem ok_part_text (T : Tx0 w K mg A) : FnOk P w K mg base (L2.CX P w) 8 A.part_text A.d_part_text p_part_text (spPartText A.Expression A.NoPlace) := by
  refine T.F_part_text.ok sc_part_text (fun vs H Q E h => ?_) (fun cdv Ar outer s H vs Q E hr h => ?_)
  · obtain ⟨x, ns, v, nm, L, rfl, _⟩ := h
    rfl
  · obtain ⟨x, ns, v, nm, L, rfl, hx, hN, hv, hnm, hL, k⟩ := h
    refine ⟨_, (pss_cons (ps_set (i := 3) sc_part_text.nd rfl (Or.inl rfl) pe_dnewK)
      (pss_cons (ps_for PassesOwn.leaving rfl (pi_range2 (by rfl) T.m_range (pa_cons (pe_meth (pv 0) T.cl_Expression T.e_ex_first (ok_ex_first T) (hr.mono (by decide)) T.b_ex_first .nil (UL.passX (takes_of rfl rfl rfl rfl)) (pa_cons (pv 1) pa_nil)) (pa_cons (pe_op op_add (pv 1) pe_int) pa_nil))) (pg_name (i := 4) sc_part_text.nd rfl (Or.inl rfl)) (pss_one (ps_if (PW.pt (pw_and (pt_cmpR op_notN (pv 2) pe_non (nomark _)) (pw_and1 (pt_cmp (pc_din (hu_of hr) (pv 4) (pv 2)))))) (pss_one (ps_dput (hu_of hr) (pv 3) (pv 4) (pe_dget (hu_of hr) (pv 2) (pv 4) (fun _ _ => rfl)) rfl)) (pss_one (ps_dput (hu_of hr) (pv 3) (pv 4) (pe_call (ok_node_text T) (hr.mono (by decide)) (by rfl) T.g_node_text T.F_node_text.kp T.b_node_text .nil pass0 (pa_cons (pe_ix ix_tup (pe_fld (pv 0) rfl) (pv 4) (fun _ _ => rfl)) (pa_cons (pv 3) pa_nil))) rfl)))))
      (pss_one (ps_ret (pe_dget (hu_of hr) (pv 3) (pv 1) (fun _ _ => rfl)))))), ?_⟩
    obtain ⟨dx, t, f, as, h1, h2, h3, h4⟩ := id hx
    have ok := forest_ok hN.F
    have hn20 := hN.le
    have hlen := h3.len
    intro d hd
    have e0 := Ex.new (o := .dK []) hd
    refine ⟨_, rfl, x, dx, _, rfl, e0 _ _ h1, rfl, _, rfl, x, ns, v, rfl, hx.mono e0, hv, ?_⟩
    cases hp : placeOf v ns.length with
    | none =>
      rw [hp] at k
      exact fun dd H' e' hh => k dd H' (e0.trans e') hh
    | some a =>
      rw [hp] at k
      obtain ⟨i, rfl, h0, hi, rfl⟩ := placeOf_some hp
      obtain ⟨a, rfl⟩ := Int.eq_ofNat_of_zero_le h0
      have k : ∀ (H' : Hp), Ex H H' → Q (V.str (ofL (txL' L ns a))) H' := k
      have ha : a < ns.length := by omega
      have hle := ok.le a ha
      refine ⟨_, rfl, (a : Int), 1, rfl, rfl, ((fst ns a : Nat) : Int), ((a : Int) + 1), rfl, ⟨by omega, by omega, by omega, by omega⟩, ?_⟩
      refine for_range (lo := ((fst ns a : Nat) : Int)) (n := ((a : Int) + 1 - ((fst ns a : Nat) : Int)).toNat) (fun j σ' H' => ∃ v4, σ' = [some (.ref x), some (.int (a : Int)), some nm, some (.ref d), v4] ∧ Ex H H' ∧ H' d = some (.dK (xD (fun i => ofL (txL' L ns i)) (fst ns a) j))) ⟨_, rfl, e0, upd_same⟩ ?_ ?_
      · rintro j σ' H1 hj ⟨v4, rfl, e1, hd1⟩
        have z0 : ((fst ns a : Nat) : Int) + (j : Int) = ((fst ns a + j : Nat) : Int) := by omega
        rw [z0]
        have hj' : fst ns a + j ≤ a := by omega
        have hja : fst ns a + j < as.length := by omega
        obtain ⟨nd, hnd, had⟩ := h3.get (fst ns a + j) as[fst ns a + j] (List.getElem?_eq_getElem hja)
        have hops := range_ops hN.F ha (by omega) hj' hnd
        have hat := tlx_at (L := L) hnd (fun o ho => (hops o ho).2)
        have put := xD_put (fun i => ofL (txL' L ns i)) (fst ns a) j
        rcases hnm with ⟨rfl, hL0⟩ | ⟨q, ks, rfl, hq, hks⟩
        · refine ⟨_, rfl, rfl, _, rfl, ?_⟩
          rw [decide_eq_true rfl]
          refine iteF (iteF ?_)
          have hLn := hL0 (fst ns a + j)
          refine ⟨_, rfl, x, _, dx, _, _, rfl, e1 _ _ h1, T.cl_Expression, T.na_Expression__nodes, ex_look _ _, _, rfl, t, _, ((fst ns a + j : Nat) : Int), .ref as[fst ns a + j], rfl, rfl, SqT.of (e1 _ _ h2), atI_nat (by rw [List.getElem?_map, List.getElem?_eq_getElem hja]; rfl), _, rfl, as[fst ns a + j], d, nd, (fun o => ofL (txL' L ns o)), _, rfl, had.mono e1, hN.g nd (List.mem_of_getElem? hnd), hd1, (fun o ho => ⟨xD_get (hops o ho).1 (hops o ho).2, by rw [ofL_len]; exact okN_lenL hL hN (by have := (hops o ho).2; omega)⟩), fun H2 e2 => ⟨_, rfl, _, rfl, d, _, rfl, DPut.k (k := Sum.inl ((fst ns a + j : Nat) : Int)) (e2 _ _ hd1) (sz_lt (by rw [xD_len]; omega)), _, rfl, (e1.trans e2).mut hd, ?_⟩⟩
          rw [upd_same, show nodeSp nd (fun o => ofL (txL' L ns o)) = ofL (txL' L ns (fst ns a + j)) from (by
            unfold nodeSp
            rw [hat, ndT_congr (g := txL' L ns) fun o _ => tl_ofL _]
            unfold labT
            rw [hLn]), put]
        · refine ⟨_, rfl, rfl, _, rfl, ?_⟩
          rw [decide_eq_false (by intro z; cases z)]
          have hval := hks (fst ns a + j)
          cases hLn : L (fst ns a + j) with
          | none =>
            rw [hLn] at hval
            refine iteT ⟨_, rfl, _, rfl, q, _, rfl, DGet.k (k := Sum.inl ((fst ns a + j : Nat) : Int)) (e1 _ _ hq), _, rfl, ?_⟩
            rw [hval]
            refine iteF ?_
            refine ⟨_, rfl, x, _, dx, _, _, rfl, e1 _ _ h1, T.cl_Expression, T.na_Expression__nodes, ex_look _ _, _, rfl, t, _, ((fst ns a + j : Nat) : Int), .ref as[fst ns a + j], rfl, rfl, SqT.of (e1 _ _ h2), atI_nat (by rw [List.getElem?_map, List.getElem?_eq_getElem hja]; rfl), _, rfl, as[fst ns a + j], d, nd, (fun o => ofL (txL' L ns o)), _, rfl, had.mono e1, hN.g nd (List.mem_of_getElem? hnd), hd1, (fun o ho => ⟨xD_get (hops o ho).1 (hops o ho).2, by rw [ofL_len]; exact okN_lenL hL hN (by have := (hops o ho).2; omega)⟩), fun H2 e2 => ⟨_, rfl, _, rfl, d, _, rfl, DPut.k (k := Sum.inl ((fst ns a + j : Nat) : Int)) (e2 _ _ hd1) (sz_lt (by rw [xD_len]; omega)), _, rfl, (e1.trans e2).mut hd, ?_⟩⟩
            rw [upd_same, show nodeSp nd (fun o => ofL (txL' L ns o)) = ofL (txL' L ns (fst ns a + j)) from (by
              unfold nodeSp
              rw [hat, ndT_congr (g := txL' L ns) fun o _ => tl_ofL _]
              unfold labT
              rw [hLn]), put]
          | some z =>
            rw [hLn] at hval
            refine iteT ⟨_, rfl, _, rfl, q, _, rfl, DGet.k (k := Sum.inl ((fst ns a + j : Nat) : Int)) (e1 _ _ hq), _, rfl, ?_⟩
            rw [hval]
            refine iteT ?_
            refine ⟨_, rfl, _, rfl, q, _, rfl, (show DGet H1 q (.int ((fst ns a + j : Nat) : Int)) (some (.str z)) from (by rw [show (some (V.str z)) = valV ks (Sum.inl ((fst ns a + j : Nat) : Int)) from hval.symm]; exact DGet.k (k := Sum.inl ((fst ns a + j : Nat) : Int)) (e1 _ _ hq))), _, rfl, _, rfl, d, _, rfl, DPut.k (k := Sum.inl ((fst ns a + j : Nat) : Int)) hd1 (sz_lt (by rw [xD_len]; omega)), _, rfl, e1.mut hd, ?_⟩
            rw [upd_same, ← put, show ofL (txL' L ns (fst ns a + j)) = z from by rw [hat]; unfold labT; rw [hLn]; exact ofL_tl z]
      · rintro σ' H1 ⟨v4, rfl, e1, hd1⟩
        rw [show ((a : Int) + 1 - ((fst ns a : Nat) : Int)).toNat = a + 1 - fst ns a by omega] at hd1
        have hg := xD_get (f := fun i => ofL (txL' L ns i)) (lo := fst ns a) (k := a + 1 - fst ns a) (i := a) hle (by omega)
        refine ⟨_, rfl, _, rfl, d, _, rfl, (show DGet H1 d (.int (a : Int)) (some (.str (ofL (txL' L ns a)))) from ?_), k H1 e1⟩
        rw [← hg]
        exact DGet.k (k := Sum.inl (a : Int)) hd1
def spText (C : Addr) : Sp := fun vs H Q _ => ∃ x ns, vs = [.ref x] ∧ ExAt C H x ns ∧ OkN ns ∧ ∀ H', Ex H H' → Q (.str (ofL (tx ns (ns.length - 1)))) H'
theorem ok_ex_text (T : Tx0 w K mg A) : FnOk P w K mg base CX0 9 A.ex_text A.d_ex_text p_ex_text (spText A.Expression) := by
  refine T.F_ex_text.ok sc_ex_text (fun vs H Q E h => ?_) (fun cdv Ar outer s H vs Q E hr h => ?_)
  · obtain ⟨x, ns, rfl, _⟩ := h
    rfl
  · obtain ⟨x, ns, rfl, hx, hN, k⟩ := h
    obtain ⟨ds, v0_part_text_2, b0_part_text_2⟩ := T.F_part_text.binds0 (ps := p_part_text) 2 (by simp) rfl (fun D doc pm an cdv ct us ks h1 h2 => by
      match us, h1, ks, h2 with
      | [_, _], _, [_], _ => exact ⟨_, _, _, _, _, _, rfl, rfl, rfl⟩)
    refine ⟨_, (pss_one (ps_ret (pe_meth (pv 0) T.cl_Expression T.e_part_text (ok_part_text T) (hr.mono (by decide)) b0_part_text_2 v0_part_text_2 passL (pa_cons (pe_op op_sub (pe_callB call_len_seq (by rfl) T.m_len PySem.boot_len (pa_cons (pe_fld (pv 0) rfl) pa_nil)) pe_int) pa_nil)))), ?_⟩
    obtain ⟨dx, t, f, as, h1, h2, h3, h4⟩ := id hx
    have hnp := List.length_pos_iff.mpr hN.ne
    refine ⟨_, rfl, x, dx, _, rfl, h1, rfl, _, rfl, x, _, dx, _, _, rfl, h1, T.cl_Expression, T.na_Expression__nodes, ex_look _ _, t, _, rfl, .inr (SqT.of h2), _, 1, rfl, rfl, x, ns, .int ((ns.length : Int) - 1), .non, (fun _ => none), by rw [List.length_map, h3.len]; rfl, hx, hN, rfl, .inl ⟨rfl, fun _ => rfl⟩, (fun i z h => by cases h), ?_⟩
    rw [show placeOf (.int ((ns.length : Int) - 1)) ns.length = some (ns.length - 1) by
      show (if 0 ≤ ((ns.length : Int) - 1) ∧ ((ns.length : Int) - 1) < ns.length then some ((ns.length : Int) - 1).toNat else none) = _
      rw [if_pos ⟨by omega, by omega⟩]
      congr 1
      omega]
    exact fun H' e => k H' e
def xL (L : Nat → Option Str) (N : List Nd) (k : Nat) : List V := (List.range k).map fun (i : Nat) => V.str (ofL (txL' L N i))
theorem xL_succ (L : Nat → Option Str) (N : List Nd) (k : Nat) : xL L N (k + 1) = xL L N k ++ [.str (ofL (txL' L N k))] := by
  unfold xL
  rw [List.range_succ, List.map_append]
  rfl
theorem xL_len (L : Nat → Option Str) (N : List Nd) (k : Nat) : (xL L N k).length = k := by
  unfold xL
  rw [List.length_map, List.length_range]
theorem xL_get {L : Nat → Option Str} {N : List Nd} {k i : Nat} (h : i < k) : (xL L N k)[i]? = some (.str (ofL (txL' L N i))) := by
  unfold xL
  rw [List.getElem?_map, List.getElem?_range h]
  rfl
def spTexts : Sp := fun vs H Q _ => ∃ N lb as ns L ks, vs = [.ref N, .ref lb] ∧ H N = some (.lst (as.map V.ref)) ∧ Al2 (NdAt H) as ns ∧ OkN ns ∧ H lb = some (.dK ks) ∧ (∀ i : Nat, valV ks (Sum.inl (i : Int)) = (L i).map V.str) ∧ LabOk L ∧ ∀ q H', Ex H H' → H' q = some (.lst (xL L ns ns.length)) → Q (.ref q) H'
theorem ok_texts (T : Tx0 w K mg A) : FnOk P w K mg base CX0 1 A.texts A.d_texts p_texts spTexts := by
  refine T.F_texts.ok sc_texts (fun vs H Q E h => ?_) (fun cdv Ar outer s H vs Q E hr h => ?_)
  · obtain ⟨N, lb, as, ns, L, ks, rfl, _⟩ := h
    rfl
  · obtain ⟨N, lb, as, ns, L, ks, rfl, hNl, hA, hN, hlb, hks, hL, k⟩ := h
    refine ⟨_, (pss_cons (ps_set (i := 2) sc_texts.nd rfl (Or.inr rfl) (pe_lst pa_nil))
      (pss_cons (ps_for PassesOwn.never rfl (pi_range1 (by rfl) T.m_range (pa_cons (pe_callB call_len_seq (by rfl) T.m_len PySem.boot_len (pa_cons (pv 0) pa_nil)) pa_nil)) (pg_name (i := 3) sc_texts.nd rfl (Or.inl rfl)) (pss_cons (ps_set (i := 4) sc_texts.nd rfl (Or.inl rfl) (pe_ix ix_list (pv 0) (pv 3) (fun _ _ => rfl)))
        (pss_cons (ps_set (i := 5) sc_texts.nd rfl (Or.inl rfl) pe_str)
        (pss_cons (ps_if (pt_cmpR op_eq (pe_ix ix_tup (pv 4) pe_int (fun _ _ => rfl)) pe_str (nomark _)) (pss_one (ps_set (i := 5) sc_texts.nd rfl (Or.inl rfl) (pe_ix ix_tup (pv 4) pe_int (fun _ _ => rfl)))) pss_nil)
        (pss_cons (ps_if (pt_cmpR op_eq (pe_ix ix_tup (pv 4) pe_int (fun _ _ => rfl)) pe_str (nomark _)) (pss_one (ps_set (i := 5) sc_texts.nd rfl (Or.inl rfl) (pe_op op_add_str (pe_op op_add_str (pe_op op_add_str (pe_ix ix_tup (pv 4) pe_int (fun _ _ => rfl)) pe_str) (pe_bm PySem.F.plainAttrs_str PySem.F.slot_str_join PySem.F.type_str_join mt_join pe_str (pa_cons (pe_lc (own := [("_law_i", 6)]) (g := gName 6) (tt := tYes) rfl sc_texts.nd (pi_tup (pe_ix ix_tup (pv 4) pe_int (fun _ _ => rfl))) (blkOk_by (N := n_texts) (sc := defScope s_texts) (by decide +kernel)) (fun _ _ _ _ _ => pg_name (i := 6) sc_texts.nd rfl (Or.inl rfl)) (fun _ _ _ _ _ => pts_nil) (fun _ _ _ _ _ => (pe_ix (show IxR _ (rIxL K) from ix_list) (pv 2) (pv 6) (fun _ _ => rfl)))) pa_nil))) pe_str))) pss_nil)
        (pss_cons (ps_if (pt_cmpR op_in_seq (pe_ix ix_tup (pv 4) pe_int (fun _ _ => rfl)) (pe_lst (pa_cons pe_str (pa_cons pe_str (pa_cons pe_str pa_nil)))) (by rfl)) (pss_one (ps_set (i := 5) sc_texts.nd rfl (Or.inl rfl) (pe_op op_add_str (pe_op op_add_str (pe_op op_add_str (pe_ix ix_tup (pv 4) pe_int (fun _ _ => rfl)) pe_str) (pe_bm PySem.F.plainAttrs_str PySem.F.slot_str_join PySem.F.type_str_join mt_join pe_str (pa_cons (pe_lc (own := [("_law_i", 6)]) (g := gName 6) (tt := tYes) rfl sc_texts.nd (pi_tup (pe_slice sl_tup (pv 4) (po_some pe_int) po_none)) (blkOk_by (N := n_texts) (sc := defScope s_texts) (by decide +kernel)) (fun _ _ _ _ _ => pg_name (i := 6) sc_texts.nd rfl (Or.inl rfl)) (fun _ _ _ _ _ => pts_nil) (fun _ _ _ _ _ => (pe_ix (show IxR _ (rIxL K) from ix_list) (pv 2) (pv 6) (fun _ _ => rfl)))) pa_nil))) pe_str))) pss_nil)
        (pss_cons (ps_if (pt_cmp (pc_din (hu_of hr) (pv 3) (pv 1))) (pss_one (ps_set (i := 5) sc_texts.nd rfl (Or.inl rfl) (pe_dget (hu_of hr) (pv 1) (pv 3) (fun _ _ => rfl)))) pss_nil)
        (pss_one (ps_expr (pe_bm PySem.F.plainAttrs_list PySem.F.slot_list_append PySem.F.type_list_append mt_append (pv 2) (pa_cons (pv 5) pa_nil)))))))))))
      (pss_one (ps_ret (pv 2))))), ?_⟩
    have hwf := (good_wf (okN_good hN).1).1
    have hlen := hA.len
    have hnp := List.length_pos_iff.mpr hN.ne
    have hn20 := hN.le
    refine ⟨Nat.zero_le _, fun q hq => ⟨_, rfl, N, _, rfl, .inl (SqL.of ((Ex.new hq) _ _ hNl)), _, rfl, forR1 ⟨by rw [List.length_map]; omega, by rw [List.length_map]; omega⟩ (fun i σ' H' => ∃ v3 v4 v5 v6, σ' = [some (.ref N), some (.ref lb), some (.ref q), v3, v4, v5, v6] ∧ Ex H H' ∧ H' q = some (.lst (xL L ns i))) ⟨_, _, _, _, rfl, Ex.new hq, upd_same⟩ ?_ ?_⟩⟩
    · rintro i σ' H1 hi ⟨v3, v4, v5, v6, rfl, e1, hLq⟩
      rw [List.length_map] at hi
      have hia : i < as.length := by omega
      obtain ⟨a, ha⟩ : ∃ a, as[i]? = some a := ⟨as[i], List.getElem?_eq_getElem hia⟩
      obtain ⟨nd, hnd, had⟩ := hA.get i a ha
      have hops := (hwf i nd hnd).2
      have hgn := hN.g nd (List.mem_of_getElem? hnd)
      have had := had.mono e1
      have hv : ∀ o ∈ opsOf nd, (xL L ns i)[o]? = some (.str (ofL (txL' L ns o))) ∧ (ofL (txL' L ns o)).length ≤ 280 := fun o ho => ⟨xL_get (hops o ho), by rw [ofL_len]; exact okN_lenL hL hN (by have := hops o ho; omega)⟩
      have hsz : (xL L ns i).length < sizeLine := sz_lt (by rw [xL_len]; omega)
      have hat := tlx_at (L := L) hnd hops
      have hval := hks i
      have fin : ∀ (z z' : Str) (H' : Hp), ofL (ndT (fun o => tl (ofL (txL' L ns o))) nd) = z → (z' = (match L i with | some y => y | none => z)) → Ex H1 H' → H' q = some (.lst (xL L ns i)) → upd H' q (.lst (xL L ns i ++ [.str z'])) q = some (.lst (xL L ns (i + 1))) ∧ Ex H (upd H' q (.lst (xL L ns i ++ [.str z']))) := fun z z' H' hz hz' e2 hq2 => by
        refine ⟨?_, (e1.trans e2).mut hq⟩
        rw [upd_same, xL_succ, hat, hz', ← hz, ndT_congr (g := txL' L ns) fun o _ => tl_ofL _]
        unfold labT
        cases L i with
        | none => rfl
        | some y => rw [show ofL (tl y) = y from ofL_tl y]
      refine ⟨_, rfl, _, rfl, N, _, (i : Int), .ref a, rfl, rfl, SqL.of (e1 _ _ hNl), atI_nat (by rw [List.getElem?_map, ha]; rfl), ?_⟩
      cases nd with
      | name w =>
        have h : H1 a = some (.tup [.str "name", .str w]) := had
        refine ⟨_, rfl, a, _, 0, .str "name", rfl, rfl, SqT.of h, atI_nat (j := 0) rfl, rfl, _, rfl, ?_⟩
        rw [str_eqb, decide_eq_true rfl]
        refine iteT ⟨_, rfl, a, _, 1, .str w, rfl, rfl, SqT.of h, atI_nat (j := 1) rfl, _, rfl, a, _, 0, .str "name", rfl, rfl, SqT.of h, atI_nat (j := 0) rfl, rfl, _, rfl, ?_⟩
        rw [str_eqb, decide_eq_false (by decide +kernel)]
        refine iteF ⟨_, rfl, a, _, 0, .str "name", rfl, rfl, SqT.of h, atI_nat (j := 0) rfl, sz_of (by show 3 ≤ 100000; decide), fun m hm => ⟨m, _, rfl, .inl (SqL.of upd_same), rfl, rfl, false, by decide +kernel, iteF ?_⟩⟩
        have eF := Ex.new (o := .lst [.str "part", .str "pick", .str "then"]) hm
        have zF := ofL_tl w
        have hFq := eF _ _ hLq
        cases hLi : L i with
        | none =>
          rw [hLi] at hval
          refine ⟨_, rfl, _, rfl, lb, _, rfl, DGet.k (k := Sum.inl (i : Int)) (eF _ _ (e1 _ _ hlb)), _, rfl, ?_⟩
          rw [hval]
          refine iteF ?_
          obtain ⟨f1, f2⟩ := fin _ _ _ zF (by rw [hLi]) eF hFq
          exact ⟨_, rfl, .inl ⟨rfl, _, SqL.of hFq⟩, _, rfl, q, _, _, rfl, rfl, hFq, hsz, _, _, _, _, rfl, f2, f1⟩
        | some y =>
          rw [hLi] at hval
          refine ⟨_, rfl, _, rfl, lb, _, rfl, DGet.k (k := Sum.inl (i : Int)) (eF _ _ (e1 _ _ hlb)), _, rfl, ?_⟩
          rw [hval]
          refine iteT ⟨_, rfl, _, rfl, lb, _, rfl, (show DGet _ lb (.int (i : Int)) (some (.str y)) from (by rw [show (some (V.str y)) = valV ks (Sum.inl (i : Int)) from hval.symm]; exact DGet.k (k := Sum.inl (i : Int)) (eF _ _ (e1 _ _ hlb)))), ?_⟩
          obtain ⟨f1, f2⟩ := fin _ _ _ zF (by rw [hLi]) eF hFq
          exact ⟨_, rfl, .inl ⟨rfl, _, SqL.of hFq⟩, _, rfl, q, _, _, rfl, rfl, hFq, hsz, _, _, _, _, rfl, f2, f1⟩
      | call w os =>
        have hg2 : okS w = true ∧ os.length ≤ 4 := hgn
        have hwl : w.length ≤ 8 := by rw [len_tl]; exact wordOk.le w hg2.1
        obtain ⟨t, h, ht⟩ := id had
        refine ⟨_, rfl, a, _, 0, .str "call", rfl, rfl, SqT.of h, atI_nat (j := 0) rfl, rfl, _, rfl, ?_⟩
        rw [str_eqb, decide_eq_false (by decide +kernel)]
        refine iteF ⟨_, rfl, a, _, 0, .str "call", rfl, rfl, SqT.of h, atI_nat (j := 0) rfl, rfl, _, rfl, ?_⟩
        rw [str_eqb, decide_eq_true rfl]
        refine iteT ⟨_, rfl, a, _, 1, .str w, rfl, rfl, SqT.of h, atI_nat (j := 1) rfl, _, _, rfl, rfl, sz_of (by show w.length + 1 ≤ 100000; omega), ?_⟩
        refine ⟨rfl, _, rfl, a, _, 2, .ref t, rfl, rfl, SqT.of h, atI_nat (j := 2) rfl, t, rfl, ⟨_, SqT.of ht⟩, fun D hD => ?_⟩
        have hp := ht
        refine lc_tup (xs := ni os) (fun k H' => Ex _ H' ∧ H' D = some (.lst ((os.take k).map fun o => V.str (ofL (txL' L ns o))))) ⟨Ex.new hD, upd_same⟩ (fun k H' _ h => SqT.of (h.1 _ _ hp)) ?_ ?_
        · rintro k x H2 hx ⟨e2, h2⟩
          have hx : (os.map fun (n : Nat) => V.int (n : Int))[k]? = some x := hx
          rw [List.getElem?_map] at hx
          obtain ⟨o, ho, rfl⟩ := Option.map_eq_some_iff.mp hx
          have hvo := hv o (List.mem_of_getElem? ho)
          refine ⟨rfl, _, rfl, _, rfl, q, _, (o : Int), _, rfl, rfl, SqL.of (e2 _ _ hLq), atI_nat hvo.1, _, h2, sz_lt (by rw [List.length_map, List.length_take]; omega), e2.mut hD, ?_⟩
          rw [upd_same, List.take_succ, ho, List.map_append]
          rfl
        · rintro H2 ⟨e2, h2⟩
          rw [ni_len, List.take_length] at h2
          have hsum : ((os.map fun o => ofL (txL' L ns o)).map fun x => x.length).sum ≤ 280 * 4 := sum_small _ os hg2.2 (fun o ho => (hv o ho).2)
          have hjl : (Txt.join "," (os.map fun o => ofL (txL' L ns o))).length ≤ 280 * 4 + 4 := join_small _ os hg2.2 (fun o ho => (hv o ho).2)
          refine ⟨",", D, os.map fun o => ofL (txL' L ns o), rfl, rfl, .inl (SqL.of (by rw [h2, List.map_map]; rfl)), (by rw [List.length_map]; show _ + os.length * 1 ≤ 16777216; have := hg2.2; omega), _, _, rfl, rfl, sz_of (by rw [len_app]; show w.length + 1 + _ ≤ 100000; omega), _, _, rfl, rfl, sz_of (by rw [len_app, len_app]; show w.length + 1 + _ + 1 ≤ 100000; omega), ?_⟩
          refine ⟨_, rfl, a, _, 0, .str "call", rfl, rfl, SqT.of (e2 _ _ h), atI_nat (j := 0) rfl, sz_of (by show 3 ≤ 100000; decide), fun m hm => ⟨m, _, rfl, .inl (SqL.of upd_same), rfl, rfl, false, by decide +kernel, iteF ?_⟩⟩
          have eF := e2.trans (Ex.new (o := .lst [.str "part", .str "pick", .str "then"]) hm)
          have zF := (out_text2 w (fun o => ofL (txL' L ns o)) os).symm
          have hFq := (Ex.new (o := .lst [.str "part", .str "pick", .str "then"]) hm) _ _ (e2 _ _ hLq)
          cases hLi : L i with
          | none =>
            rw [hLi] at hval
            refine ⟨_, rfl, _, rfl, lb, _, rfl, DGet.k (k := Sum.inl (i : Int)) (eF _ _ (e1 _ _ hlb)), _, rfl, ?_⟩
            rw [hval]
            refine iteF ?_
            obtain ⟨f1, f2⟩ := fin _ _ _ zF (by rw [hLi]) eF hFq
            exact ⟨_, rfl, .inl ⟨rfl, _, SqL.of hFq⟩, _, rfl, q, _, _, rfl, rfl, hFq, hsz, _, _, _, _, rfl, f2, f1⟩
          | some y =>
            rw [hLi] at hval
            refine ⟨_, rfl, _, rfl, lb, _, rfl, DGet.k (k := Sum.inl (i : Int)) (eF _ _ (e1 _ _ hlb)), _, rfl, ?_⟩
            rw [hval]
            refine iteT ⟨_, rfl, _, rfl, lb, _, rfl, (show DGet _ lb (.int (i : Int)) (some (.str y)) from (by rw [show (some (V.str y)) = valV ks (Sum.inl (i : Int)) from hval.symm]; exact DGet.k (k := Sum.inl (i : Int)) (eF _ _ (e1 _ _ hlb)))), ?_⟩
            obtain ⟨f1, f2⟩ := fin _ _ _ zF (by rw [hLi]) eF hFq
            exact ⟨_, rfl, .inl ⟨rfl, _, SqL.of hFq⟩, _, rfl, q, _, _, rfl, rfl, hFq, hsz, _, _, _, _, rfl, f2, f1⟩
      | op w os =>
        have hg2 : opsT.lookup w = some (os.length : Int) := hgn
        obtain ⟨_, hwl', h42⟩ := op_pl hg2
        have hwl : w.length ≤ 8 := by rw [len_tl]; exact hwl'
        have hin : inV (.str w) [.str "part", .str "pick", .str "then"] = true := by
          rcases ops_cases hg2 with ⟨rfl, _⟩ | ⟨rfl, _⟩ | ⟨rfl, _⟩ <;> decide +kernel
        have hg2 : True ∧ os.length ≤ 4 := ⟨trivial, by omega⟩
        have h : H1 a = some (.tup (.str w :: ni os)) := had
        obtain ⟨n1, n2⟩ := opw_ne (goodNd_wf hgn)
        refine ⟨_, rfl, a, _, 0, .str w, rfl, rfl, SqT.of h, atI_nat (j := 0) rfl, rfl, _, rfl, ?_⟩
        rw [str_eqb, decide_eq_false n1]
        refine iteF ⟨_, rfl, a, _, 0, .str w, rfl, rfl, SqT.of h, atI_nat (j := 0) rfl, rfl, _, rfl, ?_⟩
        rw [str_eqb, decide_eq_false n2]
        refine iteF ⟨_, rfl, a, _, 0, .str w, rfl, rfl, SqT.of h, atI_nat (j := 0) rfl, sz_of (by show 3 ≤ 100000; decide), fun m hm => ⟨m, _, rfl, .inl (SqL.of upd_same), rfl, rfl, true, congrArg V.bl hin, iteT ?_⟩⟩
        have eM := Ex.new (o := .lst [.str "part", .str "pick", .str "then"]) hm
        have hM := eM _ _ h
        have hLM := eM _ _ hLq
        refine ⟨_, rfl, a, _, 0, .str w, rfl, rfl, SqT.of hM, atI_nat (j := 0) rfl, _, _, rfl, rfl, sz_of (by show w.length + 1 ≤ 100000; omega), ?_⟩
        refine ⟨rfl, _, rfl, 1, rfl, a, _, rfl, SqT.of hM, fun z => ?_, fun t hpt => ⟨t, rfl, ⟨_, SqT.of upd_same⟩, fun D hD => ?_⟩⟩
        · have z1 := z.1
          rw [show HT.sIx (V.str w :: ni os).length 0 (some 1) = min 1 (V.str w :: ni os).length from HT.sIx_nat _ 0 1, List.length_cons] at z1
          omega
        have e5 := eM.trans (Ex.new hpt (o := .tup (cutV (V.str w :: ni os) (some 1) none)))
        have hp : upd (upd H1 m (.lst [.str "part", .str "pick", .str "then"])) t (.tup (cutV (V.str w :: ni os) (some 1) none)) t = some (.tup (ni os)) := by
          rw [upd_same, show cutV (V.str w :: ni os) (some 1) none = (V.str w :: ni os).drop 1 from UL.cut_from _ 1]
          rfl
        have hLq := e5 _ _ hLq
        revert e5 hp hD hLq
        generalize upd (upd H1 m (.lst [.str "part", .str "pick", .str "then"])) t (.tup (cutV (V.str w :: ni os) (some 1) none)) = H5
        intro hD e5 hp hLq
        refine lc_tup (xs := ni os) (fun k H' => Ex _ H' ∧ H' D = some (.lst ((os.take k).map fun o => V.str (ofL (txL' L ns o))))) ⟨Ex.new hD, upd_same⟩ (fun k H' _ h => SqT.of (h.1 _ _ hp)) ?_ ?_
        · rintro k x H2 hx ⟨e2, h2⟩
          have hx : (os.map fun (n : Nat) => V.int (n : Int))[k]? = some x := hx
          rw [List.getElem?_map] at hx
          obtain ⟨o, ho, rfl⟩ := Option.map_eq_some_iff.mp hx
          have hvo := hv o (List.mem_of_getElem? ho)
          refine ⟨rfl, _, rfl, _, rfl, q, _, (o : Int), _, rfl, rfl, SqL.of (e2 _ _ hLq), atI_nat hvo.1, _, h2, sz_lt (by rw [List.length_map, List.length_take]; omega), e2.mut hD, ?_⟩
          rw [upd_same, List.take_succ, ho, List.map_append]
          rfl
        · rintro H2 ⟨e2, h2⟩
          rw [ni_len, List.take_length] at h2
          have hsum : ((os.map fun o => ofL (txL' L ns o)).map fun x => x.length).sum ≤ 280 * 4 := sum_small _ os hg2.2 (fun o ho => (hv o ho).2)
          have hjl : (Txt.join "," (os.map fun o => ofL (txL' L ns o))).length ≤ 280 * 4 + 4 := join_small _ os hg2.2 (fun o ho => (hv o ho).2)
          refine ⟨",", D, os.map fun o => ofL (txL' L ns o), rfl, rfl, .inl (SqL.of (by rw [h2, List.map_map]; rfl)), (by rw [List.length_map]; show _ + os.length * 1 ≤ 16777216; have := hg2.2; omega), _, _, rfl, rfl, sz_of (by rw [len_app]; show w.length + 1 + _ ≤ 100000; omega), _, _, rfl, rfl, sz_of (by rw [len_app, len_app]; show w.length + 1 + _ + 1 ≤ 100000; omega), ?_⟩
          have eF := e5.trans e2
          have zF := (out_text2 w (fun o => ofL (txL' L ns o)) os).symm
          have hFq := e2 _ _ hLq
          cases hLi : L i with
          | none =>
            rw [hLi] at hval
            refine ⟨_, rfl, _, rfl, lb, _, rfl, DGet.k (k := Sum.inl (i : Int)) (eF _ _ (e1 _ _ hlb)), _, rfl, ?_⟩
            rw [hval]
            refine iteF ?_
            obtain ⟨f1, f2⟩ := fin _ _ _ zF (by rw [hLi]) eF hFq
            exact ⟨_, rfl, .inl ⟨rfl, _, SqL.of hFq⟩, _, rfl, q, _, _, rfl, rfl, hFq, hsz, _, _, _, _, rfl, f2, f1⟩
          | some y =>
            rw [hLi] at hval
            refine ⟨_, rfl, _, rfl, lb, _, rfl, DGet.k (k := Sum.inl (i : Int)) (eF _ _ (e1 _ _ hlb)), _, rfl, ?_⟩
            rw [hval]
            refine iteT ⟨_, rfl, _, rfl, lb, _, rfl, (show DGet _ lb (.int (i : Int)) (some (.str y)) from (by rw [show (some (V.str y)) = valV ks (Sum.inl (i : Int)) from hval.symm]; exact DGet.k (k := Sum.inl (i : Int)) (eF _ _ (e1 _ _ hlb)))), ?_⟩
            obtain ⟨f1, f2⟩ := fin _ _ _ zF (by rw [hLi]) eF hFq
            exact ⟨_, rfl, .inl ⟨rfl, _, SqL.of hFq⟩, _, rfl, q, _, _, rfl, rfl, hFq, hsz, _, _, _, _, rfl, f2, f1⟩
    · rintro σ' H1 ⟨v3, v4, v5, v6, rfl, e1, hLq⟩
      rw [List.length_map, show ((as.length : Int)).toNat = ns.length by omega] at hLq
      exact ⟨_, rfl, k q H1 e1 hLq⟩
set_option maxHeartbeats 1600000
def spRefused (C : Addr) : Sp := fun vs H Q _ => ∃ x ns v q L, vs = [.ref x, v, .ref q] ∧ ExAt C H x ns ∧ OkN ns ∧ flatOk v = true ∧ placeOf v ns.length = none ∧ NmAt H (.ref q) L ∧ LabOk L ∧ ∀ H', Ex H H' → Q (.bl true) H'
theorem ok_refused (T : Tx0 w K mg A) : FnOk P w K mg base CX0 9 A.refused A.d_refused p_refused (spRefused A.Expression) := by
  refine T.F_refused.ok sc_refused (fun vs H Q E h => ?_) (fun cdv Ar outer s H vs Q E hr h => ?_)
  · obtain ⟨x, ns, v, q, L, rfl, _⟩ := h
    rfl
  · obtain ⟨x, ns, v, q, L, rfl, hx, hN, hv, hp, hq, hL, k⟩ := h
    obtain ⟨ds, v0_part_text_2, b0_part_text_2⟩ := T.F_part_text.binds0 (ps := p_part_text) 2 (by simp) rfl (fun D doc pm an cdv ct us ks h1 h2 => by
      match us, h1, ks, h2 with
      | [_, _], _, [_], _ => exact ⟨_, _, _, _, _, _, rfl, rfl, rfl⟩)
    obtain ⟨mv, kb_part_text_2⟩ := T.F_part_text.kbinds0 (ps := p_part_text) 2 ["named"] [] (fun us _ ws => us ++ ws) (by simp) (fun q h => (nomatch h)) (fun a _ c => a.append c) (fun D doc pm an cdv ct us mv ws h1 h2 h3 => by
      match us, h1, mv, h2, ws, h3 with
      | [_, _], _, [], _, [_], _ => exact rfl)
    refine ⟨_, (pss_cons (ps_set (i := 3) sc_refused.nd rfl (Or.inl rfl) pe_int)
      (pss_cons (ps_set (i := 4) sc_refused.nd rfl (Or.inl rfl) pe_non)
      (pss_cons (ps_set (i := 5) sc_refused.nd rfl (Or.inl rfl) pe_non)
      (pss_cons (ps_try_as (i := 6) rfl rfl sc_refused.nd rfl rfl ⟨rfl, by decide, Or.inl T.g_NoPlace⟩ takes0 (fun W pn xe tk _ => (pss_one (ps_expr (UL.pe_methTD (E := WE W) (pv 0) T.cl_Expression T.e_part_text (ok_part_text T) (hr.mono (by decide)) b0_part_text_2 v0_part_text_2 (fun σ => passAt tk σ) (pa_cons (pv 1) pa_nil))))) (fun a oe cls d pn hz hf => (pss_cons (ps_set (i := 3) sc_refused.nd rfl (Or.inl rfl) (pe_op op_add (pv 3) pe_int))
        (pss_one (ps_set (i := 4) sc_refused.nd rfl (Or.inl rfl) (pe_xf T.ex_NoPlace.xf T.ex_NoPlace.nw hz hf (pv 6)))))))
      (pss_cons (ps_try_as (i := 6) rfl rfl sc_refused.nd rfl rfl ⟨rfl, by decide, Or.inl T.g_NoPlace⟩ takes0 (fun W pn xe tk _ => (pss_one (ps_expr (UL.pe_methK (n := 2) (E := WE W) (pv 0) T.cl_Expression T.e_part_text (ok_part_text T) (hr.mono (by decide)) kb_part_text_2 (fun σ => passAt tk σ) (pa_cons (pv 1) pa_nil) (pk_cons (pv 2) pk_nil))))) (fun a oe cls d pn hz hf => (pss_cons (ps_set (i := 3) sc_refused.nd rfl (Or.inl rfl) (pe_op op_add (pv 3) pe_int))
        (pss_one (ps_set (i := 5) sc_refused.nd rfl (Or.inl rfl) (pe_xf T.ex_NoPlace.xf T.ex_NoPlace.nw hz hf (pv 6)))))))
      (pss_one (ps_ret (pe_and (pe_cmpR op_eq (pv 3) pe_int (nomark _)) (pe_and (pe_cmpR op_eq (pe_callB call_isi (by rfl) T.m_isinstance (by decide +kernel) (pa_cons (pv 4) (pa_cons (pe_bltn (v := .ty "bool") (u := .type "bool") (by rfl) T.m_bool (by decide +kernel) rfl) pa_nil))) (pe_callB call_isi (by rfl) T.m_isinstance (by decide +kernel) (pa_cons (pv 1) (pa_cons (pe_bltn (v := .ty "bool") (u := .type "bool") (by rfl) T.m_bool (by decide +kernel) rfl) pa_nil))) (nomark _)) (pe_and (pe_cmpR (op_eqD hr.units) (pv 4) (pv 1) (nomark _)) (pe_one (pe_cmpR (op_eqD hr.units) (pv 5) (pv 1) (nomark _))))))))))))), ?_⟩
    obtain ⟨dx, t, f, as, h1, _⟩ := id hx
    refine ⟨_, rfl, x, dx, _, rfl, h1, rfl, _, rfl, x, ns, v, .non, (fun _ => none), rfl, hx, hN, hv, .inl ⟨rfl, fun _ => rfl⟩, (fun i z h => by cases h), ?_⟩
    rw [hp]
    intro d H1 e1 hd
    refine ⟨true, T.te_nn, fun _ y hy => ?_, fun q => Bool.noConfusion q⟩
    refine ⟨_, rfl, 0, 1, rfl, rfl, _, rfl, rfl, rfl, d, _, v, rfl, hd, rfl, ?_⟩
    refine ⟨_, rfl, x, dx, _, rfl, e1 _ _ h1, rfl, _, rfl, _, rfl, rfl, rfl, x, ns, v, .ref q, L, rfl, hx.mono e1, hN, hv, hq.mono e1, hL, ?_⟩
    rw [hp]
    intro d2 H2 e2 hd2
    refine ⟨true, T.te_nn, fun _ y2 hy2 => ?_, fun q => Bool.noConfusion q⟩
    refine ⟨_, rfl, 0 + 1, 1, rfl, rfl, _, rfl, rfl, rfl, d2, _, v, rfl, hd2, rfl, ?_⟩
    refine ⟨_, rfl, rfl, true, by decide +kernel, iteT ?_⟩
    obtain ⟨dd, ty, b, dp, sh, tx, kb, _⟩ := flat_kind (K := K) (H := H2) hv
    refine ⟨_, rfl, v, _, ty, _, b, rfl, .ty "bool", tx, kb, _, rfl, v, _, ty, _, b, rfl, .ty "bool", tx, kb, by cases b <;> rfl, _, rfl, ?_⟩
    rw [decide_eq_true rfl]
    refine iteT ⟨_, rfl, _, rfl, dd, dd, dp, dp, sh, sh, ?_⟩
    rw [SeqAt.eqv_refl _ (SeqAt.canLay_of_shaped sh)]
    refine ⟨_, rfl, iteT ⟨_, rfl, _, rfl, dd, dd, dp, dp, sh, sh, ?_⟩⟩
    rw [SeqAt.eqv_refl _ (SeqAt.canLay_of_shaped sh)]
    exact k _ (e1.trans e2)
def spLis : Sp := fun vs H Q _ => ∃ z w : Str, vs = [.str z, .str w] ∧ Q (.bl (decide (z = w))) H
theorem ok_lis (T : Tx0 w K mg A) : FnOk P w K mg base CX0 1 A.lis A.d_lis p_lis spLis := by
  refine T.F_lis.ok sc_lis (fun vs H Q E h => ?_) (fun cdv Ar outer s H vs Q E hr h => ?_)
  · obtain ⟨z, w, rfl, _⟩ := h
    rfl
  · obtain ⟨z, w, rfl, k⟩ := h
    refine ⟨_, (pss_one (ps_ret (pe_and (pe_callB call_isi (by rfl) T.m_isinstance (by decide +kernel) (pa_cons (pv 0) (pa_cons (pe_bltn (v := .ty "str") (u := .type "str") (by rfl) T.m_str (by decide +kernel) rfl) pa_nil))) (pe_one (pe_cmpR op_eq (pv 0) (pv 1) (nomark _)))))), ?_⟩
    refine ⟨_, rfl, .str z, _, _, _, true, rfl, .ty "str", .base (.str z), kit_ty (by decide +kernel), _, rfl, iteT ⟨_, rfl, _, rfl, rfl, ?_⟩⟩
    rw [str_eqb]
    exact k
end
end K11

set_option Elab.async false
set_option linter.all false
set_option maxRecDepth 100000
namespace K11
open PySem PySem.Spec PyProof.Rows L2 Evl TL UL StX
section
variable {P : Program} {w : World} {K : PySem.W.Frag} {mg : Str → Option Value} {base : Heap} {A : Adr}
structure LabD (ks : List (Key × V)) (L : Nat → Option Str) (n : Nat) : Prop where
  v : ∀ i : Nat, valV ks (Sum.inl (i : Int)) = (L i).map V.str
  s : LabOk L
  hi : ∀ i, n ≤ i → L i = none
  le : ks.length ≤ n
  p : ∀ p ∈ ks, valV ks p.1 = some p.2 ∧ flatB p.2 = true
theorem LabD.zero : LabD [] (fun _ => none) 0 := ⟨fun _ => rfl, (fun _ _ h => by cases h), fun _ _ => rfl, Nat.le_refl _, (fun _ h => by cases h)⟩
theorem LabD.skip {ks : List (Key × V)} {L : Nat → Option Str} {n : Nat} (h : LabD ks L n) : LabD ks L (n + 1) := ⟨h.v, h.s, fun i hi => h.hi i (by omega), by have := h.le; omega, h.p⟩
theorem LabD.none {ks : List (Key × V)} {L : Nat → Option Str} {n : Nat} (h : LabD ks L n) : valV ks (Sum.inl (n : Int)) = Option.none := by
  rw [h.v, h.hi n (Nat.le_refl _)]
  rfl
theorem LabD.putK {ks : List (Key × V)} {L : Nat → Option Str} {n : Nat} (h : LabD ks L n) (z : Str) : putK ks (Sum.inl (n : Int)) (V.str z) = ks ++ [(Sum.inl (n : Int), V.str z)] := by
  unfold L2.putK
  rw [valV_any, h.none, if_neg (by simp)]
theorem LabD.put {ks : List (Key × V)} {L : Nat → Option Str} {n : Nat} (h : LabD ks L n) {z : Str} (hz : z.length ≤ 8) : LabD (ks ++ [(Sum.inl (n : Int), V.str z)]) (fun i => if i = n then some z else L i) (n + 1) := by
  refine ⟨fun i => ?_, fun i y hy => ?_, fun i hi => ?_, ?_, fun p hp => ?_⟩
  · rw [valV_snoc _ _ _ _ h.none]
    by_cases e : i = n
    · rw [if_pos (by rw [e]), if_pos e]
      rfl
    · rw [if_neg (fun q => e (by have := Sum.inl.inj q; omega)), if_neg e, h.v]
  · by_cases e : i = n
    · rw [if_pos e] at hy
      cases hy
      exact hz
    · rw [if_neg e] at hy
      exact h.s i y hy
  · rw [if_neg (by omega), h.hi i (by omega)]
  · rw [List.length_append, List.length_singleton]
    have := h.le
    omega
  · rw [valV_snoc _ _ _ _ h.none]
    rcases List.mem_append.mp hp with hp | hp
    · obtain ⟨h1, h2⟩ := h.p p hp
      rw [if_neg (fun q => by rw [q, h.none] at h1; cases h1)]
      exact ⟨h1, h2⟩
    · rw [List.mem_singleton.mp hp, if_pos rfl]
      exact ⟨rfl, rfl⟩
set_option maxHeartbeats 1600000
def spLaw (K : PySem.W.Frag) : Sp := fun vs H Q _ => ∃ (a : Addr) (ns : List Int), vs = [.ref a] ∧ SqL K H a (ns.map V.int) ∧ ns.length ≤ 63 ∧ ∀ H', Q (.bl true) H'
theorem ok_law (T : Tx0 w K mg A) : FnOk P w K mg base CX0 12 A.law A.d_law p_law (spLaw K) := by
  refine T.F_law.ok sc_law (fun vs H Q E h => ?_) (fun cdv Ar outer s H vs Q E hr h => ?_)
  · obtain ⟨a, ns, rfl, _⟩ := h
    rfl
  · obtain ⟨a, ns, rfl, hS, hlen, k⟩ := h
    obtain ⟨ds, v0_part_text_2, b0_part_text_2⟩ := T.F_part_text.binds0 (ps := p_part_text) 2 (by simp) rfl (fun D doc pm an cdv ct us ks h1 h2 => by
      match us, h1, ks, h2 with
      | [_, _], _, [_], _ => exact ⟨_, _, _, _, _, _, rfl, rfl, rfl⟩)
    obtain ⟨mv, kb_part_text_2⟩ := T.F_part_text.kbinds0 (ps := p_part_text) 2 ["named"] [] (fun us _ ws => us ++ ws) (by simp) (fun q h => (nomatch h)) (fun a _ c => a.append c) (fun D doc pm an cdv ct us mv ws h1 h2 h3 => by
      match us, h1, mv, h2, ws, h3 with
      | [_, _], _, [], _, [_], _ => exact rfl)
    refine ⟨_, (pss_cons (ps_set (i := 1) sc_law.nd rfl (Or.inr rfl) (pe_call (ok_draws T) (hr.mono (by decide)) (by rfl) T.g_draws T.F_draws.kp T.b_draws .nil pass0 (pa_cons (pv 0) pa_nil)))
      (pss_cons (ps_setLc (i := 2) (own := [("_law_k", 14)]) (g := gName 14) (tt := tYes) rfl sc_law.nd rfl rfl (sw_true rfl rfl rfl (by decide +kernel)) (pi_range1 (by rfl) T.m_range (pa_cons (pe_call (ok_take T) (hr.mono (by decide)) (by rfl) T.g_take T.F_take.kp T.b_take .nil pass0 (pa_cons (pv 1) (pa_cons pe_int pa_nil))) pa_nil)) (blkOk_by (N := n_law) (sc := defScope s_law) (by decide +kernel)) (fun _ _ _ _ _ => pg_name (i := 14) sc_law.nd rfl (Or.inl rfl)) (fun _ _ _ _ _ => pts_nil) (fun _ _ _ _ _ => (pe_call (ok_name T) (hr.mono (by decide)) (by rfl) T.g_name T.F_name.kp T.b_name .nil pass0 (pa_cons (pv 1) (pa_cons (pv 14) pa_nil)))))
      (pss_cons (ps_set (i := 3) sc_law.nd rfl (Or.inl rfl) (pe_call (ok_functions T) (hr.mono (by decide)) (by rfl) T.g_functions T.F_functions.kp T.b_functions .nil pass0 (pa_cons (pv 1) pa_nil)))
      (pss_cons (ps_set (i := 4) sc_law.nd rfl (Or.inl rfl) (pe_call (ok_expression T) (hr.mono (by decide)) (by rfl) T.g_expression T.F_expression.kp T.b_expression .nil pass0 (pa_cons (pv 1) (pa_cons (pv 2) (pa_cons (pv 3) (pa_cons (pe_op op_add pe_int (pe_call (ok_take T) (hr.mono (by decide)) (by rfl) T.g_take T.F_take.kp T.b_take .nil pass0 (pa_cons (pv 1) (pa_cons pe_int pa_nil)))) pa_nil))))))
      (pss_cons (ps_set (i := 5) sc_law.nd rfl (Or.inl rfl) (pe_ix ix_list (pv 4) pe_int (fun _ _ => rfl)))
      (pss_cons (ps_set (i := 6) sc_law.nd rfl (Or.inl rfl) (pe_op op_add pe_int (pe_call (ok_take T) (hr.mono (by decide)) (by rfl) T.g_take T.F_take.kp T.b_take .nil pass0 (pa_cons (pv 1) (pa_cons pe_int pa_nil)))))
      (pss_cons (ps_set (i := 7) sc_law.nd rfl (Or.inl rfl) pe_dnewK)
      (pss_cons (ps_for PassesOwn.never rfl (pi_range1 (by rfl) T.m_range (pa_cons (pe_callB call_len_seq (by rfl) T.m_len PySem.boot_len (pa_cons (pv 5) pa_nil)) pa_nil)) (pg_name (i := 8) sc_law.nd rfl (Or.inl rfl)) (pss_one (ps_if (pt_cmpR op_eq (pe_call (ok_take T) (hr.mono (by decide)) (by rfl) T.g_take T.F_take.kp T.b_take .nil pass0 (pa_cons (pv 1) (pa_cons (pv 6) pa_nil))) pe_int (nomark _)) (pss_one (ps_dput (hu_of hr) (pv 7) (pv 8) (pe_call (ok_name T) (hr.mono (by decide)) (by rfl) T.g_name T.F_name.kp T.b_name .nil pass0 (pa_cons (pv 1) (pa_cons (pe_op op_add pe_int (pe_call (ok_take T) (hr.mono (by decide)) (by rfl) T.g_take T.F_take.kp T.b_take .nil pass0 (pa_cons (pv 1) (pa_cons pe_int pa_nil)))) pa_nil))) rfl)) pss_nil)))
      (pss_cons (ps_set (i := 9) sc_law.nd rfl (Or.inl rfl) (pe_callTy call_dictD (by rfl) T.m_dict (by decide +kernel) (pa_cons (pv 7) pa_nil)))
      (pss_cons (ps_set (i := 10) sc_law.nd rfl (Or.inl rfl) (ClX.pe_cmeth (pe_glob (v := .ref A.Expression) (by rfl) T.g_Expression rfl) T.cr_Expression T.cm_ex_read ((ok_ex_read T).raw T.b_ex_read .nil) (hr.mono (by decide)) pass0 (pa_cons (pe_ix ix_list (pv 4) pe_int (fun _ _ => rfl)) pa_nil)))
      (pss_cons (ps_set (i := 11) sc_law.nd rfl (Or.inl rfl) (pe_call (ok_texts T) (hr.mono (by decide)) (by rfl) T.g_texts T.F_texts.kp T.b_texts .nil pass0 (pa_cons (pv 5) (pa_cons pe_dnewK pa_nil))))
      (pss_cons (ps_set (i := 12) sc_law.nd rfl (Or.inl rfl) (pe_call (ok_texts T) (hr.mono (by decide)) (by rfl) T.g_texts T.F_texts.kp T.b_texts .nil pass0 (pa_cons (pv 5) (pa_cons (pv 7) pa_nil))))
      (pss_cons (ps_for PassesOwn.never rfl (pi_range1 (by rfl) T.m_range (pa_cons (pe_callB call_len_seq (by rfl) T.m_len PySem.boot_len (pa_cons (pv 5) pa_nil)) pa_nil)) (pg_name (i := 8) sc_law.nd rfl (Or.inl rfl)) (pss_cons (ps_if (PW.pt (pw_or (pt_not (pt_val (pe_call (ok_lis T) (hr.mono (by decide)) (by rfl) T.g_lis T.F_lis.kp T.b_lis .nil pass0 (pa_cons (pe_meth (pv 10) T.cl_Expression T.e_part_text (ok_part_text T) (hr.mono (by decide)) b0_part_text_2 v0_part_text_2 passL (pa_cons (pv 8) pa_nil)) (pa_cons (pe_ix ix_list (pv 11) (pv 8) (fun _ _ => rfl)) pa_nil))))) (pw_or1 (pt_not (pt_val (pe_call (ok_lis T) (hr.mono (by decide)) (by rfl) T.g_lis T.F_lis.kp T.b_lis .nil pass0 (pa_cons (UL.pe_methK (n := 2) (E := fun _ => E0) (pv 10) T.cl_Expression T.e_part_text (ok_part_text T) (hr.mono (by decide)) kb_part_text_2 (fun σ pins H s e s' I c => passL pins σ H s e s' I c) (pa_cons (pv 8) pa_nil) (pk_cons pe_dnewK pk_nil)) (pa_cons (pe_ix ix_list (pv 11) (pv 8) (fun _ _ => rfl)) pa_nil)))))))) (pss_one (ps_ret pe_bl)) pss_nil)
        (pss_cons (ps_if (PW.pt (pw_or (pt_not (pt_val (pe_call (ok_lis T) (hr.mono (by decide)) (by rfl) T.g_lis T.F_lis.kp T.b_lis .nil pass0 (pa_cons (UL.pe_methK (n := 2) (E := fun _ => E0) (pv 10) T.cl_Expression T.e_part_text (ok_part_text T) (hr.mono (by decide)) kb_part_text_2 (fun σ pins H s e s' I c => passL pins σ H s e s' I c) (pa_cons (pv 8) pa_nil) (pk_cons (pv 9) pk_nil)) (pa_cons (pe_ix ix_list (pv 12) (pv 8) (fun _ _ => rfl)) pa_nil))))) (pw_or1 (pt_cmpR (op_ne_dictA hr.units0) (pv 9) (pv 7) (nomark _))))) (pss_one (ps_ret pe_bl)) pss_nil)
        (pss_one (ps_if (pt_not (pt_val (pe_call (ok_lis T) (hr.mono (by decide)) (by rfl) T.g_lis T.F_lis.kp T.b_lis .nil pass0 (pa_cons (UL.pe_methK (n := 2) (E := fun _ => E0) (pv 10) T.cl_Expression T.e_part_text (ok_part_text T) (hr.mono (by decide)) kb_part_text_2 (fun σ pins H s e s' I c => passL pins σ H s e s' I c) (pa_cons (pv 8) pa_nil) (pk_cons pe_non pk_nil)) (pa_cons (pe_ix ix_list (pv 11) (pv 8) (fun _ _ => rfl)) pa_nil))))) (pss_one (ps_ret pe_bl)) pss_nil)))))
      (pss_cons (ps_set (i := 13) sc_law.nd rfl (Or.inl rfl) (pe_lst (pa_cons (pe_un un_neg pe_int) (pa_cons (pe_op op_sub pe_int (pe_callB call_len_seq (by rfl) T.m_len PySem.boot_len (pa_cons (pv 5) pa_nil))) (pa_cons (pe_callB call_len_seq (by rfl) T.m_len PySem.boot_len (pa_cons (pv 5) pa_nil)) (pa_cons (pe_op op_add (pe_op op_add (pe_callB call_len_seq (by rfl) T.m_len PySem.boot_len (pa_cons (pv 5) pa_nil)) pe_int) (pe_call (ok_take T) (hr.mono (by decide)) (by rfl) T.g_take T.F_take.kp T.b_take .nil pass0 (pa_cons (pv 1) (pa_cons pe_int pa_nil)))) pa_nil))))))
      (pss_cons (ps_for PassesOwn.never rfl (pi_list (pe_op op_cat (pv 13) (pe_lst (pa_cons pe_bl (pa_cons pe_bl (pa_cons pe_non (pa_cons pe_str pa_nil))))))) (pg_name (i := 8) sc_law.nd rfl (Or.inl rfl)) (pss_one (ps_if (pt_not (pt_val (pe_call (ok_refused T) (hr.mono (by decide)) (by rfl) T.g_refused T.F_refused.kp T.b_refused .nil pass0 (pa_cons (pv 10) (pa_cons (pv 8) (pa_cons (pv 9) pa_nil)))))) (pss_one (ps_ret pe_bl)) pss_nil)))
      (pss_one (ps_ret (pe_and (pe_cmpR op_eq (pe_ix ix_list (pv 11) (pe_op op_sub (pe_callB call_len_seq (by rfl) T.m_len PySem.boot_len (pa_cons (pv 5) pa_nil)) pe_int) (fun _ _ => rfl)) (pe_ix ix_list (pv 4) pe_int (fun _ _ => rfl)) (nomark _)) (pe_one (pe_call (ok_lis T) (hr.mono (by decide)) (by rfl) T.g_lis T.F_lis.kp T.b_lis .nil pass0 (pa_cons (pe_meth0 (pv 10) T.cl_Expression T.e_ex_text (ok_ex_text T) (hr.mono (by decide)) T.b_ex_text .nil pass0) (pa_cons (pe_ix ix_list (pv 4) pe_int (fun _ _ => rfl)) pa_nil)))))))))))))))))))))), ?_⟩
    refine ⟨_, rfl, a, ns, rfl, hS, hlen, fun d hdn => ?_⟩
    have hd0 : upd H d (DrO d) d = some (DrO d) := upd_same
    generalize upd H d (DrO d) = H0 at hd0 ⊢
    refine ⟨_, rfl, d, _, rfl, hd0, by decide, fun m m0 m1 => ?_⟩
    refine ⟨m, rfl, by omega, by omega, fun D hD => ?_⟩
    refine lc_n (G := fun _ x => ∃ z : Str, x = .str z ∧ okS z = true) (n := m) ⟨m0, by omega⟩ hD (fun _ _ _ _ h => h) (fun _ _ _ _ _ h => h) (fun _ => rfl) (fun i H' hi e Q' q => ?_) (fun H1 ys e1 hD1 hn hy => ?_)
    · exact ⟨_, rfl, _, rfl, d, (i : Int), rfl, e _ _ hd0, by omega, by omega, fun z H2 hz e2 => q _ _ e2 ⟨z, rfl, hz⟩⟩
    obtain ⟨ws, rfl, hws⟩ : ∃ ws : List Str, ys = ws.map V.str ∧ ∀ w ∈ ws, okS w = true := by
      clear hD1 hn
      induction ys with
      | nil => exact ⟨[], rfl, fun w hw => by cases hw⟩
      | cons y r ih =>
        obtain ⟨z, rfl, hz⟩ := hy y List.mem_cons_self
        obtain ⟨ws, rfl, h2⟩ := ih fun x hx => hy x (List.mem_cons_of_mem _ hx)
        refine ⟨z :: ws, rfl, fun w hw => ?_⟩
        rcases List.mem_cons.mp hw with rfl | hw
        · exact hz
        · exact h2 w hw
    rw [List.length_map] at hn
    refine ⟨_, rfl, d, rfl, e1 _ _ hd0, fun F fs H2 e2 hF hfs hf0 hfl => ?_⟩
    have hdA := e2 _ _ (e1 _ _ hd0)
    have hD2 := e2 _ _ hD1
    refine ⟨_, rfl, _, rfl, _, rfl, _, rfl, d, _, rfl, hdA, by decide, fun q q0 q1 => ?_⟩
    refine ⟨1, q, rfl, rfl, d, D, F, 1 + q, ws, fs, rfl, hdA, hD2, hws, by omega, hF, hfs, hf0, hfl, by omega, by omega, fun p1 N1 as1 z1 ns1 H3 e3 hp1 hN1 hA1 hg1 hz1 hn1 _ _ _ => ?_⟩
    have oN := okN_of hg1 hn1
    have T1 : ofL (tx ns1 (ns1.length - 1)) = z1 := by rw [good_text hg1, ofL_tl]
    have hlen1 := hA1.len
    have hnp := List.length_pos_iff.mpr hg1.1
    have hd3 := e3 _ _ hdA
    refine ⟨_, rfl, p1, _, 0, .ref N1, rfl, rfl, SqL.of hp1, atI_nat (j := 0) rfl, ?_⟩
    refine ⟨_, rfl, d, 4, rfl, hd3, by decide, fun o o0 o1 => ⟨1, o, rfl, rfl, fun lb hlbn => ?_⟩⟩
    have e4 := Ex.new (o := .dK []) hlbn
    refine ⟨_, rfl, N1, _, rfl, .inl (SqL.of (e4 _ _ hN1)), _, rfl, forR1 ⟨by rw [List.length_map]; omega, by rw [List.length_map]; omega⟩ (fun i σ' H' => ∃ v8 v9 v10 v11 v12 v13 v14 ks L, σ' = [some (.ref a), some (.ref d), some (.ref D), some (.ref F), some (.ref p1), some (.ref N1), some (.int (1 + o)), some (.ref lb), v8, v9, v10, v11, v12, v13, v14] ∧ Ex H3 H' ∧ H' lb = some (.dK ks) ∧ LabD ks L i) ⟨_, _, _, _, _, _, _, _, _, rfl, e4, upd_same, LabD.zero⟩ ?_ ?_⟩
    · rintro i σ' H5 hi ⟨v8, v9, v10, v11, v12, v13, v14, ks, L, rfl, e5, hlb, LD⟩
      refine ⟨_, rfl, _, rfl, d, 1 + o, rfl, e5 _ _ hd3, by omega, fun t t0 t1 => ⟨rfl, _, rfl, ?_⟩⟩
      by_cases ht : t = 1
      · rw [decide_eq_true (show V.int t = V.int 1 by rw [ht])]
        refine iteT ⟨_, rfl, _, rfl, d, 30, rfl, e5 _ _ hd3, by decide, fun u u0 u1 => ⟨30, u, rfl, rfl, d, 30 + u, rfl, e5 _ _ hd3, by omega, by omega, fun z H6 hz e6 => ?_⟩⟩
        have hln := LD.le
        have pk := LD.putK z
        refine ⟨_, rfl, _, rfl, lb, _, rfl, DPut.k (k := Sum.inl (i : Int)) (e6 _ _ hlb) (sz_lt (by rw [List.length_map] at hi; omega)), _, _, _, _, _, _, _, _, (fun j => if j = i then some z else L j), rfl, (e5.trans e6).mut hlbn, upd_same, by rw [pk]; exact LD.put (okS_len hz)⟩
      · rw [decide_eq_false (fun z => ht (V.int.inj z))]
        exact iteF ⟨_, _, _, _, _, _, _, _, _, rfl, e5, hlb, LD.skip⟩
    rintro σ' H5 ⟨v8, v9, v10, v11, v12, v13, v14, ks, L, rfl, e5, hlb, LD⟩
    rw [List.length_map, show ((as1.length : Int)).toNat = ns1.length by omega] at LD
    refine ⟨_, rfl, lb, ks, rfl, .of hlb, fun h9 h9n => ?_⟩
    have e6 := Ex.new (o := .dK ks) h9n
    have hh6 : upd H5 h9 (.dK ks) h9 = some (.dK ks) := upd_same
    have hlb6 := e6 _ _ hlb
    have e36 := e5.trans e6
    generalize upd H5 h9 (.dK ks) = H6 at e6 hh6 hlb6 e36 ⊢
    refine ⟨rfl, _, rfl, p1, _, 1, .str z1, rfl, rfl, SqL.of (e36 _ _ hp1), atI_nat (j := 1) rfl, z1, ns1, rfl, by omega, good_run hg1, hn1, fun x H7 e7 hx => ?_⟩
    have e37 := e36.trans e7
    refine ⟨_, rfl, fun mE hmE => ⟨N1, mE, as1, ns1, (fun _ => none), [], rfl, (Ex.new hmE) _ _ (e37 _ _ hN1), hA1.imp (fun _ _ q => q.mono (e37.trans (Ex.new hmE))), oN, upd_same, fun i => rfl, (fun i z h => by cases h), fun W H8 e8 hW => ?_⟩⟩
    have e78 := (Ex.new (o := .dK []) hmE).trans e8
    have e38 := e37.trans e78
    refine ⟨_, rfl, _, rfl, N1, lb, as1, ns1, L, ks, rfl, e38 _ _ hN1, hA1.imp (fun _ _ q => q.mono e38), oN, e78 _ _ (e7 _ _ hlb6), LD.v, LD.s, fun G H9 e9 hG => ?_⟩
    have e79 := e78.trans e9
    have e39 := e38.trans e9
    have hx9 := hx.mono e79
    have hW9 := e9 _ _ hW
    have hh9 := e79 _ _ (e7 _ _ hh6)
    have hl9 := e79 _ _ (e7 _ _ hlb6)
    have hN9 := e39 _ _ hN1
    have hp9 := e39 _ _ hp1
    have hd9 := e39 _ _ hd3
    have plc : ∀ i, i < ns1.length → placeOf (.int (i : Nat)) ns1.length = some i := fun i hi => by
      show (if 0 ≤ (i : Int) ∧ (i : Int) < ns1.length then some (i : Int).toNat else none) = some i
      rw [if_pos ⟨by omega, by omega⟩]
      rfl
    refine ⟨_, rfl, N1, _, rfl, .inl (SqL.of hN9), _, rfl, forR1 ⟨by rw [List.length_map]; omega, by rw [List.length_map]; omega⟩ (fun i σ' H' => ∃ v8, σ' = [some (.ref a), some (.ref d), some (.ref D), some (.ref F), some (.ref p1), some (.ref N1), some (.int (1 + o)), some (.ref lb), v8, some (.ref h9), some (.ref x), some (.ref W), some (.ref G), v13, v14] ∧ Ex H9 H') ⟨_, rfl, Ex.refl _⟩ ?_ ?_⟩
    · rintro i σ' H10 hi ⟨v8, rfl, eA⟩
      rw [List.length_map] at hi
      have hin : i < ns1.length := by omega
      have hx10 := hx9.mono eA
      obtain ⟨dx, tt, ff, aa, hi10, _⟩ := id hx10
      refine ⟨_, rfl, x, dx, _, rfl, hi10, rfl, _, rfl, x, ns1, .int (i : Nat), .non, (fun _ => none), rfl, hx10, oN, rfl, .inl ⟨rfl, fun _ => rfl⟩, (fun i z h => by cases h), ?_⟩
      rw [plc i hin]
      refine fun H11 eB => ⟨_, rfl, _, rfl, W, _, (i : Int), _, rfl, rfl, SqL.of (eB _ _ (eA _ _ hW9)), atI_nat (xL_get hin), _, _, rfl, _, rfl, ?_⟩
      rw [decide_eq_true rfl]
      refine iteF ?_
      have eAB := eA.trans eB
      refine ⟨_, rfl, x, dx, _, rfl, eB _ _ hi10, rfl, _, rfl, fun mE hmE => ⟨rfl, rfl, x, ns1, .int (i : Nat), .ref mE, (fun _ => none), rfl, (hx9.mono eAB).mono (Ex.new hmE), oN, rfl, .inr ⟨mE, [], rfl, upd_same, fun _ => rfl⟩, (fun i z h => by cases h), ?_⟩⟩
      rw [plc i hin]
      refine fun H12 eC => ?_
      have eC' := (Ex.new (o := .dK []) hmE).trans eC
      have eAC := eAB.trans eC'
      refine ⟨_, rfl, _, rfl, W, _, (i : Int), _, rfl, rfl, SqL.of (eAC _ _ hW9), atI_nat (xL_get hin), _, _, rfl, _, rfl, ?_⟩
      rw [decide_eq_true rfl]
      refine iteF ?_
      refine ⟨_, rfl, x, dx, _, rfl, eC' _ _ (eB _ _ hi10), rfl, _, rfl, _, rfl, rfl, rfl, x, ns1, .int (i : Nat), .ref h9, L, rfl, hx9.mono eAC, oN, rfl, .inr ⟨h9, ks, rfl, eAC _ _ hh9, LD.v⟩, LD.s, ?_⟩
      rw [plc i hin]
      refine fun H13 eD => ?_
      have eAD := eAC.trans eD
      refine ⟨_, rfl, _, rfl, G, _, (i : Int), _, rfl, rfl, SqL.of (eAD _ _ hG), atI_nat (xL_get hin), _, _, rfl, _, rfl, ?_⟩
      rw [decide_eq_true rfl]
      refine iteF ⟨_, rfl, _, rfl, h9, lb, ks, ks, rfl, rfl, eAD _ _ hh9, eAD _ _ hl9, rfl, LD.p, _, rfl, iteF ?_⟩
      refine ⟨_, rfl, x, dx, _, rfl, eD _ _ (eC' _ _ (eB _ _ hi10)), rfl, _, rfl, rfl, rfl, x, ns1, .int (i : Nat), .non, (fun _ => none), rfl, hx9.mono eAD, oN, rfl, .inl ⟨rfl, fun _ => rfl⟩, (fun i z h => by cases h), ?_⟩
      rw [plc i hin]
      refine fun H14 eE => ⟨_, rfl, _, rfl, W, _, (i : Int), _, rfl, rfl, SqL.of (eE _ _ (eAD _ _ hW9)), atI_nat (xL_get hin), _, _, rfl, _, rfl, ?_⟩
      rw [decide_eq_true rfl]
      exact iteF ⟨_, rfl, eAD.trans eE⟩
    rintro σ' H10 ⟨v8, rfl, eA⟩
    have hN10 := eA _ _ hN9
    generalize hn' : ns1.length = n at *
    refine ⟨1, rfl, _, rfl, N1, _, rfl, .inl (SqL.of hN10), 0, _, rfl, rfl, _, rfl, N1, _, rfl, .inl (SqL.of hN10), _, rfl, N1, _, rfl, .inl (SqL.of hN10), _, 1, rfl, rfl, _, rfl, d, _, rfl, eA _ _ hd9, by decide, fun t t0 t1 => ⟨_, t, rfl, rfl, ?_⟩⟩
    rw [List.length_map, hlen1]
    refine ⟨sz_of (by show 4 ≤ 100000; decide), fun l hl => ?_⟩
    have e6' := Ex.new (o := .lst [V.int (-1), V.int (0 - (n : Int)), V.int (n : Int), V.int ((n : Int) + 1 + t)]) hl
    have hl6 : upd H10 l (.lst [V.int (-1), V.int (0 - (n : Int)), V.int (n : Int), V.int ((n : Int) + 1 + t)]) l = some (.lst [V.int (-1), V.int (0 - (n : Int)), V.int (n : Int), V.int ((n : Int) + 1 + t)]) := upd_same
    have pl : ∀ i : Int, ¬ (0 ≤ i ∧ i < n) → flatOk (.int i) = true ∧ placeOf (.int i) n = none := fun i h => ⟨rfl, if_neg h⟩
    have hall : ∀ v ∈ [V.int (-1), V.int (0 - (n : Int)), V.int (n : Int), V.int ((n : Int) + 1 + t)] ++ [V.bl true, V.bl false, V.non, V.str "0"], flatOk v = true ∧ placeOf v n = none := by
      intro v hv
      simp only [List.cons_append, List.nil_append, List.mem_cons, List.not_mem_nil, or_false] at hv
      rcases hv with rfl | rfl | rfl | rfl | rfl | rfl | rfl | rfl
      · exact pl _ (by omega)
      · exact pl _ (by omega)
      · exact pl _ (by omega)
      · exact pl _ (by omega)
      · exact ⟨rfl, rfl⟩
      · exact ⟨rfl, rfl⟩
      · exact ⟨rfl, rfl⟩
      · exact ⟨by decide +kernel, rfl⟩
    refine ⟨_, rfl, sz_of (by show 4 ≤ 100000; decide), fun l2 hl2 => ?_⟩
    refine ⟨l, l2, _, _, rfl, rfl, (Ex.new hl2) _ _ hl6, upd_same, sz_of (by show 8 ≤ 100000; decide), fun l3 hl3 => ?_⟩
    refine ⟨l3, rfl, ⟨_, SqL.of upd_same⟩, ?_⟩
    refine for_it (walk_list (xs := [V.int (-1), V.int (0 - (n : Int)), V.int (n : Int), V.int ((n : Int) + 1 + t)] ++ [V.bl true, V.bl false, V.non, V.str "0"])) (fun i σ' H6 => ∃ v8, σ' = [some (.ref a), some (.ref d), some (.ref D), some (.ref F), some (.ref p1), some (.ref N1), some (.int (1 + o)), some (.ref lb), v8, some (.ref h9), some (.ref x), some (.ref W), some (.ref G), some (.ref l), v14] ∧ Ex H9 H6 ∧ H6 l3 = some (.lst ([V.int (-1), V.int (0 - (n : Int)), V.int (n : Int), V.int ((n : Int) + 1 + t)] ++ [V.bl true, V.bl false, V.non, V.str "0"]))) ⟨_, rfl, eA.trans (e6'.trans ((Ex.new hl2).trans (Ex.new hl3))), upd_same⟩ (fun i σ' H6 _ ⟨_, _, _, h⟩ => SqL.of h) ?_ ?_
    · rintro i v σ' H11 H12 hi ⟨v8, rfl, eF, h7⟩ ⟨rfl, hx7⟩
      have hv := hall v (List.mem_of_getElem? (show ([V.int (-1), V.int (0 - (n : Int)), V.int (n : Int), V.int ((n : Int) + 1 + t)] ++ [V.bl true, V.bl false, V.non, V.str "0"])[i]? = some v from hx7))
      refine ⟨_, rfl, _, rfl, _, rfl, x, ns1, v, h9, L, rfl, hx9.mono eF, oN, hv.1, by rw [hn']; exact hv.2, .inr ⟨h9, ks, rfl, eF _ _ hh9, LD.v⟩, LD.s, fun H13 eG => ⟨_, rfl, iteF ⟨_, rfl, eF.trans eG, eG _ _ h7⟩⟩⟩
    rintro σ' H11 ⟨v8, rfl, eF, h7⟩
    have hx11 := hx9.mono eF
    obtain ⟨dx, tt, ff, aa, hi11, _⟩ := id hx11
    have hix : (((as1.map V.ref).length : Nat) : Int) - 1 = ((n - 1 : Nat) : Int) := by rw [List.length_map, hlen1]; omega
    refine ⟨_, rfl, _, rfl, N1, _, rfl, .inl (SqL.of (eF _ _ hN9)), _, 1, rfl, rfl, W, _, ((n - 1 : Nat) : Int), _, rfl, congrArg V.int hix, SqL.of (eF _ _ hW9), atI_nat (xL_get (by omega)), _, rfl, p1, _, 1, .str z1, rfl, rfl, SqL.of (eF _ _ hp9), atI_nat (j := 1) rfl, rfl, _, rfl, ?_⟩
    rw [show ofL (txL' (fun _ => none) ns1 (n - 1)) = z1 from T1, decide_eq_true rfl]
    refine iteT ⟨_, rfl, x, dx, _, rfl, hi11, rfl, x, ns1, rfl, hx11, oN, fun H12 eG => ⟨_, rfl, p1, _, 1, .str z1, rfl, rfl, SqL.of (eG _ _ (eF _ _ hp9)), atI_nat (j := 1) rfl, _, _, rfl, ?_⟩⟩
    rw [hn', T1, decide_eq_true rfl]
    exact k _

end
theorem all_mk {l : PySem.W.OpenLaw} {w : World} {K : PySem.W.Frag} {h : Heap} {mg : Str → Option Value} {fa : Addr} (X : K.In h) (G : h.Ns mainGlobals mg) (hfa : mg "law" = some (.ref fa))
    {f0 f1 f2 f3 f4 f5 f6 f7 f8 f9 f10 f11 f12 f13 f14 f15 f16 f17 f18 f19 f20 f21 f22 f23 f24 f25 f26 f27 f28 f29 : Addr}
    {od0 an0 od1 an1 od2 an2 od3 an3 od4 an4 od5 an5 od6 an6 od7 an7 od8 an8 od9 an9 od10 an10 od11 an11 od12 an12 od13 an13 od14 an14 od15 an15 od16 an16 od17 an17 od18 an18 od19 an19 od20 an20 od21 an21 od22 an22 od23 an23 od24 an24 od25 an25 od26 an26 od27 an27 od28 an28 od29 an29 : Option Addr}
    {sl0 sl1 sl2 sl3 sl4 sl5 sl6 sl7 sl8 sl9 sl10 sl11 sl12 sl13 sl14 sl15 sl16 sl17 sl18 sl19 sl20 sl21 sl22 sl23 sl24 sl25 sl26 sl27 sl28 sl29 : Array (Option Value)}
    {oc0 kV0 dc0 pm0 cd0 ct0 oc1 kV1 dc1 pm1 cd1 ct1 oc2 kV2 dc2 pm2 cd2 ct2 oc3 kV3 dc3 pm3 cd3 ct3 oc4 kV4 dc4 pm4 cd4 ct4 oc5 kV5 dc5 pm5 cd5 ct5 oc6 kV6 dc6 pm6 cd6 ct6 oc7 kV7 dc7 pm7 cd7 ct7 oc8 kV8 dc8 pm8 cd8 ct8 oc9 kV9 dc9 pm9 cd9 ct9 oc10 kV10 dc10 pm10 cd10 ct10 oc11 kV11 dc11 pm11 cd11 ct11 oc12 kV12 dc12 pm12 cd12 ct12 oc13 kV13 dc13 pm13 cd13 ct13 oc14 kV14 dc14 pm14 cd14 ct14 oc15 kV15 dc15 pm15 cd15 ct15 oc16 kV16 dc16 pm16 cd16 ct16 oc17 kV17 dc17 pm17 cd17 ct17 oc18 dc18 pm18 cd18 ct18 oc19 kV19 dc19 pm19 cd19 ct19 oc20 kV20 dc20 pm20 cd20 ct20 oc21 kV21 dc21 pm21 cd21 ct21 oc22 kV22 dc22 pm22 cd22 ct22 oc23 kV23 dc23 pm23 cd23 ct23 oc24 kV24 dc24 pm24 cd24 ct24 oc25 kV25 dc25 pm25 cd25 ct25 oc26 kV26 dc26 pm26 cd26 ct26 oc27 kV27 dc27 pm27 cd27 ct27 oc28 kV28 dc28 pm28 cd28 ct28 oc29 kV29 dc29 pm29 cd29 ct29 : Value}
    {xLivesError : Addr}
    {xNoPlace : Addr}
    {xExpression : Addr}
    {tDIGITS : Nat}
    {tLETTERS : Nat}
    {tMOST_ARGUMENTS : Nat}
    {tMOST_CHARACTERS : Nat}
    {xOPERATIONS : Addr} {esOPERATIONS : Array DictEntry} {nnOPERATIONS : Nat}
    {xRESERVED : Addr} {vRESERVED : List Value} {odRESERVED : Option Addr} {nnRESERVED : Nat} {slRESERVED : Array (Option Value)}
    {dT0 : Addr} {dO0 : Option Addr} {dN0 : Nat} {dS0 : Array (Option Value)} {dt0x0 : Nat}
    {pr14 : Addr} {re14 : List Value}
    {pr15 : Addr} {re15 : List Value}
    {kD18 : Addr}
    {nmLivesError qLivesError : Str} {NLivesError : Addr} {bsLivesError bmLivesError : List Value} {snLivesError : List Str} {subLivesError : List Value} {abLivesError : Bool} {colLivesError : Option Bool} {ddLivesError : Option Addr} {m0LivesError m1LivesError m2LivesError m3LivesError m5LivesError : Option Value}
    {nmNoPlace qNoPlace : Str} {NNoPlace : Addr} {bsNoPlace bmNoPlace : List Value} {snNoPlace : List Str} {subNoPlace : List Value} {abNoPlace : Bool} {colNoPlace : Option Bool} {ddNoPlace : Option Addr} {m0NoPlace m1NoPlace m2NoPlace m3NoPlace m5NoPlace : Option Value}
    {cuExpressionMOST_NODES : Nat}
    (aCLivesError : PySem.W.nsIn K mainGlobals "LivesError" = some (some (.ref xLivesError)))
    (aCNoPlace : PySem.W.nsIn K mainGlobals "NoPlace" = some (some (.ref xNoPlace)))
    (aCExpression : PySem.W.nsIn K mainGlobals "Expression" = some (some (.ref xExpression)))
    (a0 : PySem.W.nsIn K mainGlobals "copied" = some (some (.ref f0)))
    (l0 : K.lookup f0 = some ⟨oc0, od0, .func (PySem.W.fnOf "copied" "copied" (defArgs s_copied) (defBody s_copied) (defScope s_copied) (.ref dT0) kV0 dc0 pm0 an0 cd0 ct0), sl0⟩)
    (dl0 : K.lookup dT0 = some ⟨.type "tuple", dO0, .seq ([.int 4 dt0x0] : List Value).toArray dN0, dS0⟩)
    (c0 : PySem.W.codeIn K cd0 "copied" = true)
    (k0 : PySem.W.keepIn K (.ref f0) = true)
    (a1 : PySem.W.findIn K (.ref xLivesError) "__init__" = some (some (.ref f1)))
    (i1 : PySem.W.typeIn K (.ref f1) = some (.type "function"))
    (l1 : K.lookup f1 = some ⟨oc1, od1, .func (PySem.W.fnOf "__init__" "LivesError.__init__" (defArgs s_lives_init) (defBody s_lives_init) (defScope s_lives_init) .none kV1 dc1 pm1 an1 cd1 ct1), sl1⟩)
    (c1 : PySem.W.codeIn K cd1 "LivesError.__init__" = true)
    (k1 : PySem.W.keepIn K (.ref f1) = true)
    (a2 : PySem.W.nsIn K mainGlobals "is_whole" = some (some (.ref f2)))
    (l2 : K.lookup f2 = some ⟨oc2, od2, .func (PySem.W.fnOf "is_whole" "is_whole" (defArgs s_is_whole) (defBody s_is_whole) (defScope s_is_whole) .none kV2 dc2 pm2 an2 cd2 ct2), sl2⟩)
    (c2 : PySem.W.codeIn K cd2 "is_whole" = true)
    (k2 : PySem.W.keepIn K (.ref f2) = true)
    (a3 : PySem.W.nsIn K mainGlobals "is_integer_in" = some (some (.ref f3)))
    (l3 : K.lookup f3 = some ⟨oc3, od3, .func (PySem.W.fnOf "is_integer_in" "is_integer_in" (defArgs s_is_int) (defBody s_is_int) (defScope s_is_int) .none kV3 dc3 pm3 an3 cd3 ct3), sl3⟩)
    (c3 : PySem.W.codeIn K cd3 "is_integer_in" = true)
    (k3 : PySem.W.keepIn K (.ref f3) = true)
    (a4 : PySem.W.nsIn K mainGlobals "is_name" = some (some (.ref f4)))
    (l4 : K.lookup f4 = some ⟨oc4, od4, .func (PySem.W.fnOf "is_name" "is_name" (defArgs s_is_name) (defBody s_is_name) (defScope s_is_name) .none kV4 dc4 pm4 an4 cd4 ct4), sl4⟩)
    (c4 : PySem.W.codeIn K cd4 "is_name" = true)
    (k4 : PySem.W.keepIn K (.ref f4) = true)
    (a5 : PySem.W.nsIn K mainGlobals "cut" = some (some (.ref f5)))
    (l5 : K.lookup f5 = some ⟨oc5, od5, .func (PySem.W.fnOf "cut" "cut" (defArgs s_cut) (defBody s_cut) (defScope s_cut) .none kV5 dc5 pm5 an5 cd5 ct5), sl5⟩)
    (c5 : PySem.W.codeIn K cd5 "cut" = true)
    (k5 : PySem.W.keepIn K (.ref f5) = true)
    (a6 : PySem.W.nsIn K mainGlobals "operation" = some (some (.ref f6)))
    (l6 : K.lookup f6 = some ⟨oc6, od6, .func (PySem.W.fnOf "operation" "operation" (defArgs s_operation) (defBody s_operation) (defScope s_operation) .none kV6 dc6 pm6 an6 cd6 ct6), sl6⟩)
    (c6 : PySem.W.codeIn K cd6 "operation" = true)
    (k6 : PySem.W.keepIn K (.ref f6) = true)
    (a7 : PySem.W.nsIn K mainGlobals "closed" = some (some (.ref f7)))
    (l7 : K.lookup f7 = some ⟨oc7, od7, .func (PySem.W.fnOf "closed" "closed" (defArgs s_closed) (defBody s_closed) (defScope s_closed) .none kV7 dc7 pm7 an7 cd7 ct7), sl7⟩)
    (c7 : PySem.W.codeIn K cd7 "closed" = true)
    (k7 : PySem.W.keepIn K (.ref f7) = true)
    (a8 : PySem.W.nsIn K mainGlobals "add_node" = some (some (.ref f8)))
    (l8 : K.lookup f8 = some ⟨oc8, od8, .func (PySem.W.fnOf "add_node" "add_node" (defArgs s_add_node) (defBody s_add_node) (defScope s_add_node) .none kV8 dc8 pm8 an8 cd8 ct8), sl8⟩)
    (c8 : PySem.W.codeIn K cd8 "add_node" = true)
    (k8 : PySem.W.keepIn K (.ref f8) = true)
    (a9 : PySem.W.nsIn K mainGlobals "nodes_of" = some (some (.ref f9)))
    (l9 : K.lookup f9 = some ⟨oc9, od9, .func (PySem.W.fnOf "nodes_of" "nodes_of" (defArgs s_nodes_of) (defBody s_nodes_of) (defScope s_nodes_of) .none kV9 dc9 pm9 an9 cd9 ct9), sl9⟩)
    (c9 : PySem.W.codeIn K cd9 "nodes_of" = true)
    (k9 : PySem.W.keepIn K (.ref f9) = true)
    (a10 : PySem.W.nsIn K mainGlobals "operands_of" = some (some (.ref f10)))
    (l10 : K.lookup f10 = some ⟨oc10, od10, .func (PySem.W.fnOf "operands_of" "operands_of" (defArgs s_operands_of) (defBody s_operands_of) (defScope s_operands_of) .none kV10 dc10 pm10 an10 cd10 ct10), sl10⟩)
    (c10 : PySem.W.codeIn K cd10 "operands_of" = true)
    (k10 : PySem.W.keepIn K (.ref f10) = true)
    (a11 : PySem.W.nsIn K mainGlobals "firsts_of" = some (some (.ref f11)))
    (l11 : K.lookup f11 = some ⟨oc11, od11, .func (PySem.W.fnOf "firsts_of" "firsts_of" (defArgs s_firsts_of) (defBody s_firsts_of) (defScope s_firsts_of) .none kV11 dc11 pm11 an11 cd11 ct11), sl11⟩)
    (c11 : PySem.W.codeIn K cd11 "firsts_of" = true)
    (k11 : PySem.W.keepIn K (.ref f11) = true)
    (a12 : PySem.W.nsIn K mainGlobals "node_text" = some (some (.ref f12)))
    (l12 : K.lookup f12 = some ⟨oc12, od12, .func (PySem.W.fnOf "node_text" "node_text" (defArgs s_node_text) (defBody s_node_text) (defScope s_node_text) .none kV12 dc12 pm12 an12 cd12 ct12), sl12⟩)
    (c12 : PySem.W.codeIn K cd12 "node_text" = true)
    (k12 : PySem.W.keepIn K (.ref f12) = true)
    (a13 : PySem.W.findIn K (.ref xExpression) "__init__" = some (some (.ref f13)))
    (i13 : PySem.W.isFn K (.ref f13) = true)
    (l13 : K.lookup f13 = some ⟨oc13, od13, .func (PySem.W.fnOf "__init__" "Expression.__init__" (defArgs s_ex_init) (defBody s_ex_init) (defScope s_ex_init) .none kV13 dc13 pm13 an13 cd13 ct13), sl13⟩)
    (c13 : PySem.W.codeIn K cd13 "Expression.__init__" = true)
    (k13 : PySem.W.keepIn K (.ref f13) = true)
    (a14 : PySem.W.findCls K (.ref xExpression) (.type "type") "read" = some (.get (.builtin "classmethod.__get__") (.ref pr14) .none (.ref xExpression)))
    (pc14 : PySem.W.recIn K pr14 "classmethod" = some (.ref f14 :: re14))
    (fi14 : PySem.W.fnIn K f14 = true)
    (l14 : K.lookup f14 = some ⟨oc14, od14, .func (PySem.W.fnOf "read" "Expression.read" (defArgs s_ex_read) (defBody s_ex_read) (defScope s_ex_read) .none kV14 dc14 pm14 an14 cd14 ct14), sl14⟩)
    (c14 : PySem.W.codeIn K cd14 "Expression.read" = true)
    (k14 : PySem.W.keepIn K (.ref f14) = true)
    (a15 : PySem.W.findIn K (.ref xExpression) "nodes" = some (some (.ref pr15)))
    (pg15 : PySem.W.specialIn K (.ref pr15) "__get__" = some (some (.builtin "property.__get__")))
    (pt15 : PySem.W.takesIn K (.ref pr15) = some true)
    (pc15 : PySem.W.recIn K pr15 "property" = some (.ref f15 :: re15))
    (l15 : K.lookup f15 = some ⟨oc15, od15, .func (PySem.W.fnOf "nodes" "Expression.nodes" (defArgs s_ex_nodes) (defBody s_ex_nodes) (defScope s_ex_nodes) .none kV15 dc15 pm15 an15 cd15 ct15), sl15⟩)
    (c15 : PySem.W.codeIn K cd15 "Expression.nodes" = true)
    (k15 : PySem.W.keepIn K (.ref f15) = true)
    (a16 : PySem.W.findIn K (.ref xExpression) "__len__" = some (some (.ref f16)))
    (i16 : PySem.W.isFn K (.ref f16) = true)
    (l16 : K.lookup f16 = some ⟨oc16, od16, .func (PySem.W.fnOf "__len__" "Expression.__len__" (defArgs s_ex_len) (defBody s_ex_len) (defScope s_ex_len) .none kV16 dc16 pm16 an16 cd16 ct16), sl16⟩)
    (c16 : PySem.W.codeIn K cd16 "Expression.__len__" = true)
    (k16 : PySem.W.keepIn K (.ref f16) = true)
    (a17 : PySem.W.findIn K (.ref xExpression) "first" = some (some (.ref f17)))
    (i17 : PySem.W.isFn K (.ref f17) = true)
    (l17 : K.lookup f17 = some ⟨oc17, od17, .func (PySem.W.fnOf "first" "Expression.first" (defArgs s_ex_first) (defBody s_ex_first) (defScope s_ex_first) .none kV17 dc17 pm17 an17 cd17 ct17), sl17⟩)
    (c17 : PySem.W.codeIn K cd17 "Expression.first" = true)
    (k17 : PySem.W.keepIn K (.ref f17) = true)
    (a18 : PySem.W.findIn K (.ref xExpression) "part_text" = some (some (.ref f18)))
    (i18 : PySem.W.isFn K (.ref f18) = true)
    (l18 : K.lookup f18 = some ⟨oc18, od18, .func (PySem.W.fnOf "part_text" "Expression.part_text" (defArgs s_part_text) (defBody s_part_text) (defScope s_part_text) .none (.ref kD18) dc18 pm18 an18 cd18 ct18), sl18⟩)
    (c18 : PySem.W.codeIn K cd18 "Expression.part_text" = true)
    (k18 : PySem.W.keepIn K (.ref f18) = true)
    (kw18named : PySem.W.nsIn K kD18 "named" = some (some (.none)))
    (a19 : PySem.W.findIn K (.ref xExpression) "text" = some (some (.ref f19)))
    (i19 : PySem.W.isFn K (.ref f19) = true)
    (l19 : K.lookup f19 = some ⟨oc19, od19, .func (PySem.W.fnOf "text" "Expression.text" (defArgs s_ex_text) (defBody s_ex_text) (defScope s_ex_text) .none kV19 dc19 pm19 an19 cd19 ct19), sl19⟩)
    (c19 : PySem.W.codeIn K cd19 "Expression.text" = true)
    (k19 : PySem.W.keepIn K (.ref f19) = true)
    (a20 : PySem.W.nsIn K mainGlobals "_law_draws" = some (some (.ref f20)))
    (l20 : K.lookup f20 = some ⟨oc20, od20, .func (PySem.W.fnOf "_law_draws" "_law_draws" (defArgs s_draws) (defBody s_draws) (defScope s_draws) .none kV20 dc20 pm20 an20 cd20 ct20), sl20⟩)
    (c20 : PySem.W.codeIn K cd20 "_law_draws" = true)
    (k20 : PySem.W.keepIn K (.ref f20) = true)
    (a21 : PySem.W.nsIn K mainGlobals "_law_take" = some (some (.ref f21)))
    (l21 : K.lookup f21 = some ⟨oc21, od21, .func (PySem.W.fnOf "_law_take" "_law_take" (defArgs s_take) (defBody s_take) (defScope s_take) .none kV21 dc21 pm21 an21 cd21 ct21), sl21⟩)
    (c21 : PySem.W.codeIn K cd21 "_law_take" = true)
    (k21 : PySem.W.keepIn K (.ref f21) = true)
    (a22 : PySem.W.nsIn K mainGlobals "_law_name" = some (some (.ref f22)))
    (l22 : K.lookup f22 = some ⟨oc22, od22, .func (PySem.W.fnOf "_law_name" "_law_name" (defArgs s_name) (defBody s_name) (defScope s_name) .none kV22 dc22 pm22 an22 cd22 ct22), sl22⟩)
    (c22 : PySem.W.codeIn K cd22 "_law_name" = true)
    (k22 : PySem.W.keepIn K (.ref f22) = true)
    (a23 : PySem.W.nsIn K mainGlobals "_law_functions" = some (some (.ref f23)))
    (l23 : K.lookup f23 = some ⟨oc23, od23, .func (PySem.W.fnOf "_law_functions" "_law_functions" (defArgs s_functions) (defBody s_functions) (defScope s_functions) .none kV23 dc23 pm23 an23 cd23 ct23), sl23⟩)
    (c23 : PySem.W.codeIn K cd23 "_law_functions" = true)
    (k23 : PySem.W.keepIn K (.ref f23) = true)
    (a24 : PySem.W.nsIn K mainGlobals "_law_add" = some (some (.ref f24)))
    (l24 : K.lookup f24 = some ⟨oc24, od24, .func (PySem.W.fnOf "_law_add" "_law_add" (defArgs s_add) (defBody s_add) (defScope s_add) .none kV24 dc24 pm24 an24 cd24 ct24), sl24⟩)
    (c24 : PySem.W.codeIn K cd24 "_law_add" = true)
    (k24 : PySem.W.keepIn K (.ref f24) = true)
    (a25 : PySem.W.nsIn K mainGlobals "_law_expression" = some (some (.ref f25)))
    (l25 : K.lookup f25 = some ⟨oc25, od25, .func (PySem.W.fnOf "_law_expression" "_law_expression" (defArgs s_expression) (defBody s_expression) (defScope s_expression) .none kV25 dc25 pm25 an25 cd25 ct25), sl25⟩)
    (c25 : PySem.W.codeIn K cd25 "_law_expression" = true)
    (k25 : PySem.W.keepIn K (.ref f25) = true)
    (a26 : PySem.W.nsIn K mainGlobals "_law_texts" = some (some (.ref f26)))
    (l26 : K.lookup f26 = some ⟨oc26, od26, .func (PySem.W.fnOf "_law_texts" "_law_texts" (defArgs s_texts) (defBody s_texts) (defScope s_texts) .none kV26 dc26 pm26 an26 cd26 ct26), sl26⟩)
    (c26 : PySem.W.codeIn K cd26 "_law_texts" = true)
    (k26 : PySem.W.keepIn K (.ref f26) = true)
    (a27 : PySem.W.nsIn K mainGlobals "_law_refused" = some (some (.ref f27)))
    (l27 : K.lookup f27 = some ⟨oc27, od27, .func (PySem.W.fnOf "_law_refused" "_law_refused" (defArgs s_refused) (defBody s_refused) (defScope s_refused) .none kV27 dc27 pm27 an27 cd27 ct27), sl27⟩)
    (c27 : PySem.W.codeIn K cd27 "_law_refused" = true)
    (k27 : PySem.W.keepIn K (.ref f27) = true)
    (a28 : PySem.W.nsIn K mainGlobals "_law_is" = some (some (.ref f28)))
    (l28 : K.lookup f28 = some ⟨oc28, od28, .func (PySem.W.fnOf "_law_is" "_law_is" (defArgs s_lis) (defBody s_lis) (defScope s_lis) .none kV28 dc28 pm28 an28 cd28 ct28), sl28⟩)
    (c28 : PySem.W.codeIn K cd28 "_law_is" = true)
    (k28 : PySem.W.keepIn K (.ref f28) = true)
    (a29 : PySem.W.nsIn K mainGlobals "law" = some (some (.ref f29)))
    (l29 : K.lookup f29 = some ⟨oc29, od29, .func (PySem.W.fnOf "law" "law" (defArgs s_law) (defBody s_law) (defScope s_law) .none kV29 dc29 pm29 an29 cd29 ct29), sl29⟩)
    (c29 : PySem.W.codeIn K cd29 "law" = true)
    (k29 : PySem.W.keepIn K (.ref f29) = true)
    (zValueError : PySem.W.nsIn K mainGlobals "ValueError" = some none)
    (zabs : PySem.W.nsIn K mainGlobals "abs" = some none)
    (zall : PySem.W.nsIn K mainGlobals "all" = some none)
    (zbool : PySem.W.nsIn K mainGlobals "bool" = some none)
    (zdict : PySem.W.nsIn K mainGlobals "dict" = some none)
    (zenumerate : PySem.W.nsIn K mainGlobals "enumerate" = some none)
    (zint : PySem.W.nsIn K mainGlobals "int" = some none)
    (zisinstance : PySem.W.nsIn K mainGlobals "isinstance" = some none)
    (zlen : PySem.W.nsIn K mainGlobals "len" = some none)
    (zlist : PySem.W.nsIn K mainGlobals "list" = some none)
    (zmin : PySem.W.nsIn K mainGlobals "min" = some none)
    (zrange : PySem.W.nsIn K mainGlobals "range" = some none)
    (zstr : PySem.W.nsIn K mainGlobals "str" = some none)
    (ztuple : PySem.W.nsIn K mainGlobals "tuple" = some none)
    (xL_LivesError : K.lookup xLivesError = some (excClassObj nmLivesError qLivesError xLivesError NLivesError bsLivesError bmLivesError true snLivesError subLivesError abLivesError colLivesError ddLivesError m0LivesError m1LivesError m2LivesError m3LivesError m5LivesError "ValueError.__new__"))
    (xR_LivesError : PySem.HandSPX.refsVE bmLivesError = true)
    (sa_LivesError : PySem.W.findIn K (.ref xLivesError) "__setattr__" = some (some (.builtin "object.__setattr__")))
    (eC_LivesError : PySem.W.subIn K (.ref xLivesError) (.type "BaseException") = some true)
    (tC_LivesError : PySem.W.typeIn K (.ref xLivesError) = some (.type "type"))
    (kc_LivesError : PySem.W.keepIn K (.ref xLivesError) = true)
    (nw_LivesError : PySem.W.findIn K (.ref xLivesError) "what" = some none)
    (ii_LivesError : PySem.W.findIn K (.ref xLivesError) "__init__" = some (some (.ref f1)))
    (ga_LivesError : PySem.W.findIn K (.ref xLivesError) "__getattribute__" = some (some (.builtin "BaseException.__getattribute__")))
    (gg_LivesError : PySem.W.findIn K (.ref xLivesError) "__getattr__" = some none)
    (hd_LivesError : PySem.W.hasDictIn K xLivesError = true)
    (xL_NoPlace : K.lookup xNoPlace = some (excClassObj nmNoPlace qNoPlace xNoPlace NNoPlace bsNoPlace bmNoPlace true snNoPlace subNoPlace abNoPlace colNoPlace ddNoPlace m0NoPlace m1NoPlace m2NoPlace m3NoPlace m5NoPlace "ValueError.__new__"))
    (xR_NoPlace : PySem.HandSPX.refsVE bmNoPlace = true)
    (sa_NoPlace : PySem.W.findIn K (.ref xNoPlace) "__setattr__" = some (some (.builtin "object.__setattr__")))
    (eC_NoPlace : PySem.W.subIn K (.ref xNoPlace) (.type "BaseException") = some true)
    (tC_NoPlace : PySem.W.typeIn K (.ref xNoPlace) = some (.type "type"))
    (kc_NoPlace : PySem.W.keepIn K (.ref xNoPlace) = true)
    (nw_NoPlace : PySem.W.findIn K (.ref xNoPlace) "what" = some none)
    (ii_NoPlace : PySem.W.findIn K (.ref xNoPlace) "__init__" = some (some (.ref f1)))
    (ga_NoPlace : PySem.W.findIn K (.ref xNoPlace) "__getattribute__" = some (some (.builtin "BaseException.__getattribute__")))
    (gg_NoPlace : PySem.W.findIn K (.ref xNoPlace) "__getattr__" = some none)
    (hd_NoPlace : PySem.W.hasDictIn K xNoPlace = true)
    (ha_NoPlace : PySem.W.findIn K (.ref xNoPlace) "__class__" = some (some (.builtin "object.__class__")))
    (hm_NoPlace : PySem.W.mroIn K xNoPlace (.type "object") = some true)
    (pg_Expression : PySem.W.plainGet K xExpression Str.empty = true)
    (hd_Expression : PySem.W.hasDictIn K xExpression = true)
    (po_Expression : PySem.W.plainOver K xExpression = true)
    (sa_Expression : PySem.W.findIn K (.ref xExpression) "__setattr__" = some (some (.builtin "object.__setattr__")))
    (mk_Expression : PySem.W.makesIn K xExpression = true)
    (kc_Expression : PySem.W.keepIn K (.ref xExpression) = true)
    (ha_Expression : PySem.W.findIn K (.ref xExpression) "__class__" = some (some (.builtin "object.__class__")))
    (hm_Expression : PySem.W.mroIn K xExpression (.type "object") = some true)
    (rd_Expression : PySem.W.readsIn K xExpression (.type "type") = true)
    (rg_Expression : PySem.W.specialIn K (.ref xExpression) "__getattribute__" = some (some (.builtin "type.__getattribute__")))
    (cx_Expression_MOST_NODES : PySem.W.findCls K (.ref xExpression) (.type "type") "MOST_NODES" = some (.val (.int 20 cuExpressionMOST_NODES)))
    (na_Expression__nodes : PySem.W.findIn K (.ref xExpression) "_nodes" = some none)
    (na_Expression__firsts : PySem.W.findIn K (.ref xExpression) "_firsts" = some none)
    (hnO : PySem.W.specialIn K (.builtin "object.__class__") "__get__" = some (some (.builtin "getset_descriptor.__get__")))
    (htO : PySem.W.takesIn K (.builtin "object.__class__") = some true)
    (fa_si_nn : PySem.W.subIn K (.ref xNoPlace) (.ref xNoPlace) = some true)
    (eDIGITS : PySem.W.nsIn K mainGlobals "DIGITS" = some (some (.str "0123456789" tDIGITS)))
    (eLETTERS : PySem.W.nsIn K mainGlobals "LETTERS" = some (some (.str "abcdefghijklmnopqrstuvwxyz" tLETTERS)))
    (eMOST_ARGUMENTS : PySem.W.nsIn K mainGlobals "MOST_ARGUMENTS" = some (some (.int 4 tMOST_ARGUMENTS)))
    (eMOST_CHARACTERS : PySem.W.nsIn K mainGlobals "MOST_CHARACTERS" = some (some (.int 8 tMOST_CHARACTERS)))
    (eOPERATIONS : PySem.W.nsIn K mainGlobals "OPERATIONS" = some (some (.ref xOPERATIONS)))
    (oOPERATIONS : K.lookup xOPERATIONS = some ⟨.type "dict", none, .dict esOPERATIONS nnOPERATIONS, #[]⟩)
    (yOPERATIONS : PySem.W.KeysLit w.params esOPERATIONS.toList)
    (pOPERATIONS : Paired (fun (e : DictEntry) (kv : Str × Int) => ∃ t u, e.key = .str kv.1 t ∧ e.val = .int kv.2 u) esOPERATIONS.toList k_OPERATIONS)
    (sOPERATIONS : (xOPERATIONS == sysModules) = false)
    (eRESERVED : PySem.W.nsIn K mainGlobals "RESERVED" = some (some (.ref xRESERVED)))
    (oRESERVED : K.lookup xRESERVED = some ⟨.type "tuple", odRESERVED, .seq vRESERVED.toArray nnRESERVED, slRESERVED⟩)
    (wRESERVED : Vals k_RESERVED vRESERVED)
    : ∃ fd : FuncData, (∀ (s : Shared) (v : Value), BindsTo s fd ⟨[v], []⟩ [("_law_script", v)]) ∧ ∀ base : Heap, K.In base → base.Ns mainGlobals mg → FnOk l.prog w K mg base CX0 12 fa fd ["_law_script"] (spLaw K) := by
  have e := hfa.symm.trans (PySem.W.mg_of X G a29)
  cases e
  have F1 := fun_mk (st := s_lives_init) l1 c1 k1
  have b1 := F1.binds (ps := p_lives_init) fun _ _ _ _ _ _ us hl => match us, hl with | [_, _], _ => rfl
  have F2 := fun_mk (st := s_is_whole) l2 c2 k2
  have b2 := F2.binds (ps := p_is_whole) fun _ _ _ _ _ _ us hl => match us, hl with | [_], _ => rfl
  have F3 := fun_mk (st := s_is_int) l3 c3 k3
  have b3 := F3.binds (ps := p_is_int) fun _ _ _ _ _ _ us hl => match us, hl with | [_, _, _], _ => rfl
  have F4 := fun_mk (st := s_is_name) l4 c4 k4
  have b4 := F4.binds (ps := p_is_name) fun _ _ _ _ _ _ us hl => match us, hl with | [_], _ => rfl
  have F5 := fun_mk (st := s_cut) l5 c5 k5
  have b5 := F5.binds (ps := p_cut) fun _ _ _ _ _ _ us hl => match us, hl with | [_], _ => rfl
  have F6 := fun_mk (st := s_operation) l6 c6 k6
  have b6 := F6.binds (ps := p_operation) fun _ _ _ _ _ _ us hl => match us, hl with | [_, _], _ => rfl
  have F7 := fun_mk (st := s_closed) l7 c7 k7
  have b7 := F7.binds (ps := p_closed) fun _ _ _ _ _ _ us hl => match us, hl with | [_, _], _ => rfl
  have F8 := fun_mk (st := s_add_node) l8 c8 k8
  have b8 := F8.binds (ps := p_add_node) fun _ _ _ _ _ _ us hl => match us, hl with | [_, _, _], _ => rfl
  have F9 := fun_mk (st := s_nodes_of) l9 c9 k9
  have b9 := F9.binds (ps := p_nodes_of) fun _ _ _ _ _ _ us hl => match us, hl with | [_], _ => rfl
  have F10 := fun_mk (st := s_operands_of) l10 c10 k10
  have b10 := F10.binds (ps := p_operands_of) fun _ _ _ _ _ _ us hl => match us, hl with | [_], _ => rfl
  have F11 := fun_mk (st := s_firsts_of) l11 c11 k11
  have b11 := F11.binds (ps := p_firsts_of) fun _ _ _ _ _ _ us hl => match us, hl with | [_], _ => rfl
  have F12 := fun_mk (st := s_node_text) l12 c12 k12
  have b12 := F12.binds (ps := p_node_text) fun _ _ _ _ _ _ us hl => match us, hl with | [_, _], _ => rfl
  have F13 := fun_mk (st := s_ex_init) l13 c13 k13
  have b13 := F13.binds (ps := p_ex_init) fun _ _ _ _ _ _ us hl => match us, hl with | [_, _], _ => rfl
  have F14 := fun_mk (st := s_ex_read) l14 c14 k14
  have b14 := F14.binds (ps := p_ex_read) fun _ _ _ _ _ _ us hl => match us, hl with | [_, _], _ => rfl
  have F15 := fun_mk (st := s_ex_nodes) l15 c15 k15
  have b15 := F15.binds (ps := p_ex_nodes) fun _ _ _ _ _ _ us hl => match us, hl with | [_], _ => rfl
  have F16 := fun_mk (st := s_ex_len) l16 c16 k16
  have b16 := F16.binds (ps := p_ex_len) fun _ _ _ _ _ _ us hl => match us, hl with | [_], _ => rfl
  have F17 := fun_mk (st := s_ex_first) l17 c17 k17
  have b17 := F17.binds (ps := p_ex_first) fun _ _ _ _ _ _ us hl => match us, hl with | [_, _], _ => rfl
  have F19 := fun_mk (st := s_ex_text) l19 c19 k19
  have b19 := F19.binds (ps := p_ex_text) fun _ _ _ _ _ _ us hl => match us, hl with | [_], _ => rfl
  have F20 := fun_mk (st := s_draws) l20 c20 k20
  have b20 := F20.binds (ps := p_draws) fun _ _ _ _ _ _ us hl => match us, hl with | [_], _ => rfl
  have F21 := fun_mk (st := s_take) l21 c21 k21
  have b21 := F21.binds (ps := p_take) fun _ _ _ _ _ _ us hl => match us, hl with | [_, _], _ => rfl
  have F22 := fun_mk (st := s_name) l22 c22 k22
  have b22 := F22.binds (ps := p_name) fun _ _ _ _ _ _ us hl => match us, hl with | [_, _], _ => rfl
  have F23 := fun_mk (st := s_functions) l23 c23 k23
  have b23 := F23.binds (ps := p_functions) fun _ _ _ _ _ _ us hl => match us, hl with | [_], _ => rfl
  have F24 := fun_mk (st := s_add) l24 c24 k24
  have b24 := F24.binds (ps := p_add) fun _ _ _ _ _ _ us hl => match us, hl with | [_, _, _, _], _ => rfl
  have F25 := fun_mk (st := s_expression) l25 c25 k25
  have b25 := F25.binds (ps := p_expression) fun _ _ _ _ _ _ us hl => match us, hl with | [_, _, _, _], _ => rfl
  have F26 := fun_mk (st := s_texts) l26 c26 k26
  have b26 := F26.binds (ps := p_texts) fun _ _ _ _ _ _ us hl => match us, hl with | [_, _], _ => rfl
  have F27 := fun_mk (st := s_refused) l27 c27 k27
  have b27 := F27.binds (ps := p_refused) fun _ _ _ _ _ _ us hl => match us, hl with | [_, _, _], _ => rfl
  have F28 := fun_mk (st := s_lis) l28 c28 k28
  have b28 := F28.binds (ps := p_lis) fun _ _ _ _ _ _ us hl => match us, hl with | [_, _], _ => rfl
  have F29 := fun_mk (st := s_law) l29 c29 k29
  have b29 := F29.binds (ps := p_law) fun _ _ _ _ _ _ us hl => match us, hl with | [_], _ => rfl
  let A : Adr := ⟨f0, (PySem.W.fnOf "copied" "copied" (defArgs s_copied) (defBody s_copied) (defScope s_copied) (.ref dT0) kV0 dc0 pm0 an0 cd0 ct0), f1, (PySem.W.fnOf "__init__" "LivesError.__init__" (defArgs s_lives_init) (defBody s_lives_init) (defScope s_lives_init) .none kV1 dc1 pm1 an1 cd1 ct1), f2, (PySem.W.fnOf "is_whole" "is_whole" (defArgs s_is_whole) (defBody s_is_whole) (defScope s_is_whole) .none kV2 dc2 pm2 an2 cd2 ct2), f3, (PySem.W.fnOf "is_integer_in" "is_integer_in" (defArgs s_is_int) (defBody s_is_int) (defScope s_is_int) .none kV3 dc3 pm3 an3 cd3 ct3), f4, (PySem.W.fnOf "is_name" "is_name" (defArgs s_is_name) (defBody s_is_name) (defScope s_is_name) .none kV4 dc4 pm4 an4 cd4 ct4), f5, (PySem.W.fnOf "cut" "cut" (defArgs s_cut) (defBody s_cut) (defScope s_cut) .none kV5 dc5 pm5 an5 cd5 ct5), f6, (PySem.W.fnOf "operation" "operation" (defArgs s_operation) (defBody s_operation) (defScope s_operation) .none kV6 dc6 pm6 an6 cd6 ct6), f7, (PySem.W.fnOf "closed" "closed" (defArgs s_closed) (defBody s_closed) (defScope s_closed) .none kV7 dc7 pm7 an7 cd7 ct7), f8, (PySem.W.fnOf "add_node" "add_node" (defArgs s_add_node) (defBody s_add_node) (defScope s_add_node) .none kV8 dc8 pm8 an8 cd8 ct8), f9, (PySem.W.fnOf "nodes_of" "nodes_of" (defArgs s_nodes_of) (defBody s_nodes_of) (defScope s_nodes_of) .none kV9 dc9 pm9 an9 cd9 ct9), f10, (PySem.W.fnOf "operands_of" "operands_of" (defArgs s_operands_of) (defBody s_operands_of) (defScope s_operands_of) .none kV10 dc10 pm10 an10 cd10 ct10), f11, (PySem.W.fnOf "firsts_of" "firsts_of" (defArgs s_firsts_of) (defBody s_firsts_of) (defScope s_firsts_of) .none kV11 dc11 pm11 an11 cd11 ct11), f12, (PySem.W.fnOf "node_text" "node_text" (defArgs s_node_text) (defBody s_node_text) (defScope s_node_text) .none kV12 dc12 pm12 an12 cd12 ct12), f13, (PySem.W.fnOf "__init__" "Expression.__init__" (defArgs s_ex_init) (defBody s_ex_init) (defScope s_ex_init) .none kV13 dc13 pm13 an13 cd13 ct13), f14, (PySem.W.fnOf "read" "Expression.read" (defArgs s_ex_read) (defBody s_ex_read) (defScope s_ex_read) .none kV14 dc14 pm14 an14 cd14 ct14), f15, (PySem.W.fnOf "nodes" "Expression.nodes" (defArgs s_ex_nodes) (defBody s_ex_nodes) (defScope s_ex_nodes) .none kV15 dc15 pm15 an15 cd15 ct15), f16, (PySem.W.fnOf "__len__" "Expression.__len__" (defArgs s_ex_len) (defBody s_ex_len) (defScope s_ex_len) .none kV16 dc16 pm16 an16 cd16 ct16), f17, (PySem.W.fnOf "first" "Expression.first" (defArgs s_ex_first) (defBody s_ex_first) (defScope s_ex_first) .none kV17 dc17 pm17 an17 cd17 ct17), f18, (PySem.W.fnOf "part_text" "Expression.part_text" (defArgs s_part_text) (defBody s_part_text) (defScope s_part_text) .none (.ref kD18) dc18 pm18 an18 cd18 ct18), f19, (PySem.W.fnOf "text" "Expression.text" (defArgs s_ex_text) (defBody s_ex_text) (defScope s_ex_text) .none kV19 dc19 pm19 an19 cd19 ct19), f20, (PySem.W.fnOf "_law_draws" "_law_draws" (defArgs s_draws) (defBody s_draws) (defScope s_draws) .none kV20 dc20 pm20 an20 cd20 ct20), f21, (PySem.W.fnOf "_law_take" "_law_take" (defArgs s_take) (defBody s_take) (defScope s_take) .none kV21 dc21 pm21 an21 cd21 ct21), f22, (PySem.W.fnOf "_law_name" "_law_name" (defArgs s_name) (defBody s_name) (defScope s_name) .none kV22 dc22 pm22 an22 cd22 ct22), f23, (PySem.W.fnOf "_law_functions" "_law_functions" (defArgs s_functions) (defBody s_functions) (defScope s_functions) .none kV23 dc23 pm23 an23 cd23 ct23), f24, (PySem.W.fnOf "_law_add" "_law_add" (defArgs s_add) (defBody s_add) (defScope s_add) .none kV24 dc24 pm24 an24 cd24 ct24), f25, (PySem.W.fnOf "_law_expression" "_law_expression" (defArgs s_expression) (defBody s_expression) (defScope s_expression) .none kV25 dc25 pm25 an25 cd25 ct25), f26, (PySem.W.fnOf "_law_texts" "_law_texts" (defArgs s_texts) (defBody s_texts) (defScope s_texts) .none kV26 dc26 pm26 an26 cd26 ct26), f27, (PySem.W.fnOf "_law_refused" "_law_refused" (defArgs s_refused) (defBody s_refused) (defScope s_refused) .none kV27 dc27 pm27 an27 cd27 ct27), f28, (PySem.W.fnOf "_law_is" "_law_is" (defArgs s_lis) (defBody s_lis) (defScope s_lis) .none kV28 dc28 pm28 an28 cd28 ct28), fa, (PySem.W.fnOf "law" "law" (defArgs s_law) (defBody s_law) (defScope s_law) .none kV29 dc29 pm29 an29 cd29 ct29), pr14, pr15, xLivesError, xNoPlace, xExpression, tDIGITS, tLETTERS, tMOST_ARGUMENTS, tMOST_CHARACTERS, xOPERATIONS, xRESERVED⟩
  have T : Tx0 w K mg A := {
    F_copied := ⟨⟨_, _, _, _, _, _, _, _, _, _, rfl, l0, c0, .inr ⟨(fun z => nomatch z), _, _, _, _, rfl, dl0, rfl, (.cons ⟨_, rfl⟩ .nil)⟩, .inl rfl⟩, k0⟩,
    g_copied := PySem.W.mg_of X G a0,
    F_lives_init := F1,
    b_lives_init := b1,
    ti_lives_init := i1,
    F_is_whole := F2,
    b_is_whole := b2,
    g_is_whole := PySem.W.mg_of X G a2,
    F_is_int := F3,
    b_is_int := b3,
    g_is_int := PySem.W.mg_of X G a3,
    F_is_name := F4,
    b_is_name := b4,
    g_is_name := PySem.W.mg_of X G a4,
    F_cut := F5,
    b_cut := b5,
    g_cut := PySem.W.mg_of X G a5,
    F_operation := F6,
    b_operation := b6,
    g_operation := PySem.W.mg_of X G a6,
    F_closed := F7,
    b_closed := b7,
    g_closed := PySem.W.mg_of X G a7,
    F_add_node := F8,
    b_add_node := b8,
    g_add_node := PySem.W.mg_of X G a8,
    F_nodes_of := F9,
    b_nodes_of := b9,
    g_nodes_of := PySem.W.mg_of X G a9,
    F_operands_of := F10,
    b_operands_of := b10,
    g_operands_of := PySem.W.mg_of X G a10,
    F_firsts_of := F11,
    b_firsts_of := b11,
    g_firsts_of := PySem.W.mg_of X G a11,
    F_node_text := F12,
    b_node_text := b12,
    g_node_text := PySem.W.mg_of X G a12,
    F_ex_init := F13,
    b_ex_init := b13,
    e_ex_init := ⟨a13, i13, k13⟩,
    F_ex_read := F14,
    b_ex_read := b14,
    cm_ex_read := ⟨a14, ⟨_, pc14⟩, fi14⟩,
    F_ex_nodes := F15,
    b_ex_nodes := b15,
    r_ex_nodes := ⟨a15, pg15, pt15, _, pc15⟩,
    F_ex_len := F16,
    b_ex_len := b16,
    e_ex_len := ⟨a16, i16, k16⟩,
    F_ex_first := F17,
    b_ex_first := b17,
    e_ex_first := ⟨a17, i17, k17⟩,
    F_part_text := ⟨⟨_, _, _, _, _, _, _, _, _, _, rfl, l18, c18, .inl ⟨rfl, rfl⟩, .inr ⟨_, rfl, fun q hq => by
      simp only [List.mem_cons, List.not_mem_nil, or_false] at hq
      rcases hq with rfl
      · exact ⟨_, kw18named, rfl⟩⟩⟩, k18⟩,
    e_part_text := ⟨a18, i18, k18⟩,
    F_ex_text := F19,
    b_ex_text := b19,
    e_ex_text := ⟨a19, i19, k19⟩,
    F_draws := F20,
    b_draws := b20,
    g_draws := PySem.W.mg_of X G a20,
    F_take := F21,
    b_take := b21,
    g_take := PySem.W.mg_of X G a21,
    F_name := F22,
    b_name := b22,
    g_name := PySem.W.mg_of X G a22,
    F_functions := F23,
    b_functions := b23,
    g_functions := PySem.W.mg_of X G a23,
    F_add := F24,
    b_add := b24,
    g_add := PySem.W.mg_of X G a24,
    F_expression := F25,
    b_expression := b25,
    g_expression := PySem.W.mg_of X G a25,
    F_texts := F26,
    b_texts := b26,
    g_texts := PySem.W.mg_of X G a26,
    F_refused := F27,
    b_refused := b27,
    g_refused := PySem.W.mg_of X G a27,
    F_lis := F28,
    b_lis := b28,
    g_lis := PySem.W.mg_of X G a28,
    F_law := F29,
    b_law := b29,
    g_law := PySem.W.mg_of X G a29,
    m_ValueError := PySem.W.mg_none_of X G zValueError,
    m_abs := PySem.W.mg_none_of X G zabs,
    m_all := PySem.W.mg_none_of X G zall,
    m_bool := PySem.W.mg_none_of X G zbool,
    m_dict := PySem.W.mg_none_of X G zdict,
    m_enumerate := PySem.W.mg_none_of X G zenumerate,
    m_int := PySem.W.mg_none_of X G zint,
    m_isinstance := PySem.W.mg_none_of X G zisinstance,
    m_len := PySem.W.mg_none_of X G zlen,
    m_list := PySem.W.mg_none_of X G zlist,
    m_min := PySem.W.mg_none_of X G zmin,
    m_range := PySem.W.mg_none_of X G zrange,
    m_str := PySem.W.mg_none_of X G zstr,
    m_tuple := PySem.W.mg_none_of X G ztuple,
    g_LivesError := PySem.W.mg_of X G aCLivesError,
    ex_LivesError := ⟨⟨⟨_, _, _, _, _, _, _, _, _, _, _, _, _, _, _, xL_LivesError, xR_LivesError⟩, sa_LivesError, eC_LivesError, tC_LivesError, kc_LivesError⟩, ii_LivesError, nw_LivesError, ⟨ga_LivesError, gg_LivesError, eC_LivesError, hd_LivesError⟩⟩,
    g_NoPlace := PySem.W.mg_of X G aCNoPlace,
    ex_NoPlace := ⟨⟨⟨_, _, _, _, _, _, _, _, _, _, _, _, _, _, _, xL_NoPlace, xR_NoPlace⟩, sa_NoPlace, eC_NoPlace, tC_NoPlace, kc_NoPlace⟩, ii_NoPlace, nw_NoPlace, ⟨ga_NoPlace, gg_NoPlace, eC_NoPlace, hd_NoPlace⟩⟩,
    xi_NoPlace := ⟨UL.cls_some hd_NoPlace, ga_NoPlace, gg_NoPlace, eC_NoPlace, ha_NoPlace, hnO, htO, hm_NoPlace⟩,
    g_Expression := PySem.W.mg_of X G aCExpression,
    cl_Expression := ⟨pg_Expression, hd_Expression, po_Expression, sa_Expression⟩,
    ty_Expression := ⟨ha_Expression, hnO, htO, hm_Expression⟩,
    mk_Expression := ⟨mk_Expression, a13, i13, kc_Expression⟩,
    cr_Expression := ⟨rd_Expression, rg_Expression⟩,
    cv_Expression_MOST_NODES := ⟨_, cx_Expression_MOST_NODES, ⟨_, rfl⟩⟩,
    na_Expression__nodes := na_Expression__nodes,
    na_Expression__firsts := na_Expression__firsts,
    te_nn := UL.exm_cls eC_NoPlace hd_NoPlace tC_NoPlace fa_si_nn,
    si_nn := fa_si_nn,
    c_DIGITS := PySem.W.mg_of X G eDIGITS,
    c_LETTERS := PySem.W.mg_of X G eLETTERS,
    c_MOST_ARGUMENTS := PySem.W.mg_of X G eMOST_ARGUMENTS,
    c_MOST_CHARACTERS := PySem.W.mg_of X G eMOST_CHARACTERS,
    c_OPERATIONS := PySem.W.mg_of X G eOPERATIONS,
    w_OPERATIONS := ⟨_, _, oOPERATIONS, yOPERATIONS, pOPERATIONS, sOPERATIONS⟩,
    c_RESERVED := PySem.W.mg_of X G eRESERVED,
    q_RESERVED := fun H => .inr ⟨_, _, _, oRESERVED, rfl, rfl, (by rw [List.size_toArray, ← Paired.length wRESERVED]; decide), wRESERVED⟩,
    o_RESERVED := ⟨_, oRESERVED, rfl⟩ }
  exact ⟨_, fun s v => .of_eq rfl, fun base _ _ => ok_law T⟩
end K11
open PySem PySem.W PyProof.Rows
set_option maxHeartbeats 0 in
theorem PySem.Challenge.cw_unnamedlives_k11_part_text_holds : PySem.Challenge.rw_unnamedlives_k11_part_text.Holds := by
  w_on; o_law; k_head; (case hw => w_witness2)
  k_fill
  refine L2.walk_of (l := PySem.Challenge.rw_unnamedlives_k11_part_text) (n := 63) (k := 12) (x := "_law_script") (CX := fun _ => L2.CX0) (sp := fun w => K11.spLaw _) rfl (by decide) rfl ⟨rfl, by decide, by decide⟩ (fun w h Y => PySem.W.kIn_of Y) ?F (fun _ _ a ns hl _ hS => ⟨a, ns, rfl, hS, hl, fun _ => rfl⟩) (fun _ _ _ _ _ h => h)
  case F =>
    intro w mg fa h KX G hmg
    refine' K11.all_mk KX G hmg ?aCLivesError ?aCNoPlace ?aCExpression ?a0 ?l0 ?dl0 ?c0 ?k0 ?a1 ?i1 ?l1 ?c1 ?k1 ?a2 ?l2 ?c2 ?k2 ?a3 ?l3 ?c3 ?k3 ?a4 ?l4 ?c4 ?k4 ?a5 ?l5 ?c5 ?k5 ?a6 ?l6 ?c6 ?k6 ?a7 ?l7 ?c7 ?k7 ?a8 ?l8 ?c8 ?k8 ?a9 ?l9 ?c9 ?k9 ?a10 ?l10 ?c10 ?k10 ?a11 ?l11 ?c11 ?k11 ?a12 ?l12 ?c12 ?k12 ?a13 ?i13 ?l13 ?c13 ?k13 ?a14 ?pc14 ?fi14 ?l14 ?c14 ?k14 ?a15 ?pg15 ?pt15 ?pc15 ?l15 ?c15 ?k15 ?a16 ?i16 ?l16 ?c16 ?k16 ?a17 ?i17 ?l17 ?c17 ?k17 ?a18 ?i18 ?l18 ?c18 ?k18 ?kw18named ?a19 ?i19 ?l19 ?c19 ?k19 ?a20 ?l20 ?c20 ?k20 ?a21 ?l21 ?c21 ?k21 ?a22 ?l22 ?c22 ?k22 ?a23 ?l23 ?c23 ?k23 ?a24 ?l24 ?c24 ?k24 ?a25 ?l25 ?c25 ?k25 ?a26 ?l26 ?c26 ?k26 ?a27 ?l27 ?c27 ?k27 ?a28 ?l28 ?c28 ?k28 ?a29 ?l29 ?c29 ?k29 ?zValueError ?zabs ?zall ?zbool ?zdict ?zenumerate ?zint ?zisinstance ?zlen ?zlist ?zmin ?zrange ?zstr ?ztuple ?xL_LivesError ?xR_LivesError ?sa_LivesError ?eC_LivesError ?tC_LivesError ?kc_LivesError ?nw_LivesError ?ii_LivesError ?ga_LivesError ?gg_LivesError ?hd_LivesError ?xL_NoPlace ?xR_NoPlace ?sa_NoPlace ?eC_NoPlace ?tC_NoPlace ?kc_NoPlace ?nw_NoPlace ?ii_NoPlace ?ga_NoPlace ?gg_NoPlace ?hd_NoPlace ?ha_NoPlace ?hm_NoPlace ?pg_Expression ?hd_Expression ?po_Expression ?sa_Expression ?mk_Expression ?kc_Expression ?ha_Expression ?hm_Expression ?rd_Expression ?rg_Expression ?cx_Expression_MOST_NODES ?na_Expression__nodes ?na_Expression__firsts ?hnO ?htO ?fa_si_nn ?eDIGITS ?eLETTERS ?eMOST_ARGUMENTS ?eMOST_CHARACTERS ?eOPERATIONS ?oOPERATIONS ?yOPERATIONS ?pOPERATIONS ?sOPERATIONS ?eRESERVED ?oRESERVED ?wRESERVED
    (case aCLivesError => k_is)
    (case aCNoPlace => k_is)
    (case aCExpression => k_is)
    (case a0 => k_is)
    (case l0 => k_is)
    (case dl0 => k_is)
    (case c0 => k_is)
    (case k0 => k_is)
    (case a1 => k_is)
    (case i1 => k_is)
    (case l1 => k_is)
    (case c1 => k_is)
    (case k1 => k_is)
    (case a2 => k_is)
    (case l2 => k_is)
    (case c2 => k_is)
    (case k2 => k_is)
    (case a3 => k_is)
    (case l3 => k_is)
    (case c3 => k_is)
    (case k3 => k_is)
    (case a4 => k_is)
    (case l4 => k_is)
    (case c4 => k_is)
    (case k4 => k_is)
    (case a5 => k_is)
    (case l5 => k_is)
    (case c5 => k_is)
    (case k5 => k_is)
    (case a6 => k_is)
    (case l6 => k_is)
    (case c6 => k_is)
    (case k6 => k_is)
    (case a7 => k_is)
    (case l7 => k_is)
    (case c7 => k_is)
    (case k7 => k_is)
    (case a8 => k_is)
    (case l8 => k_is)
    (case c8 => k_is)
    (case k8 => k_is)
    (case a9 => k_is)
    (case l9 => k_is)
    (case c9 => k_is)
    (case k9 => k_is)
    (case a10 => k_is)
    (case l10 => k_is)
    (case c10 => k_is)
    (case k10 => k_is)
    (case a11 => k_is)
    (case l11 => k_is)
    (case c11 => k_is)
    (case k11 => k_is)
    (case a12 => k_is)
    (case l12 => k_is)
    (case c12 => k_is)
    (case k12 => k_is)
    (case a13 => k_is)
    (case i13 => k_is)
    (case l13 => k_is)
    (case c13 => k_is)
    (case k13 => k_is)
    (case a14 => k_is)
    (case pc14 => k_is)
    (case fi14 => k_is)
    (case l14 => k_is)
    (case c14 => k_is)
    (case k14 => k_is)
    (case a15 => k_is)
    (case pg15 => k_is)
    (case pt15 => k_is)
    (case pc15 => k_is)
    (case l15 => k_is)
    (case c15 => k_is)
    (case k15 => k_is)
    (case a16 => k_is)
    (case i16 => k_is)
    (case l16 => k_is)
    (case c16 => k_is)
    (case k16 => k_is)
    (case a17 => k_is)
    (case i17 => k_is)
    (case l17 => k_is)
    (case c17 => k_is)
    (case k17 => k_is)
    (case a18 => k_is)
    (case i18 => k_is)
    (case l18 => k_is)
    (case c18 => k_is)
    (case k18 => k_is)
    (case kw18named => k_is)
    (case a19 => k_is)
    (case i19 => k_is)
    (case l19 => k_is)
    (case c19 => k_is)
    (case k19 => k_is)
    (case a20 => k_is)
    (case l20 => k_is)
    (case c20 => k_is)
    (case k20 => k_is)
    (case a21 => k_is)
    (case l21 => k_is)
    (case c21 => k_is)
    (case k21 => k_is)
    (case a22 => k_is)
    (case l22 => k_is)
    (case c22 => k_is)
    (case k22 => k_is)
    (case a23 => k_is)
    (case l23 => k_is)
    (case c23 => k_is)
    (case k23 => k_is)
    (case a24 => k_is)
    (case l24 => k_is)
    (case c24 => k_is)
    (case k24 => k_is)
    (case a25 => k_is)
    (case l25 => k_is)
    (case c25 => k_is)
    (case k25 => k_is)
    (case a26 => k_is)
    (case l26 => k_is)
    (case c26 => k_is)
    (case k26 => k_is)
    (case a27 => k_is)
    (case l27 => k_is)
    (case c27 => k_is)
    (case k27 => k_is)
    (case a28 => k_is)
    (case l28 => k_is)
    (case c28 => k_is)
    (case k28 => k_is)
    (case a29 => k_is)
    (case l29 => k_is)
    (case c29 => k_is)
    (case k29 => k_is)
    (case zValueError => k_is)
    (case zabs => k_is)
    (case zall => k_is)
    (case zbool => k_is)
    (case zdict => k_is)
    (case zenumerate => k_is)
    (case zint => k_is)
    (case zisinstance => k_is)
    (case zlen => k_is)
    (case zlist => k_is)
    (case zmin => k_is)
    (case zrange => k_is)
    (case zstr => k_is)
    (case ztuple => k_is)
    (case xL_LivesError => k_is)
    (case xR_LivesError => decide +kernel)
    (case sa_LivesError => k_is)
    (case eC_LivesError => k_is)
    (case tC_LivesError => k_is)
    (case kc_LivesError => k_is)
    (case nw_LivesError => k_is)
    (case ii_LivesError => k_is)
    (case ga_LivesError => k_is)
    (case gg_LivesError => k_is)
    (case hd_LivesError => k_is)
    (case xL_NoPlace => k_is)
    (case xR_NoPlace => decide +kernel)
    (case sa_NoPlace => k_is)
    (case eC_NoPlace => k_is)
    (case tC_NoPlace => k_is)
    (case kc_NoPlace => k_is)
    (case nw_NoPlace => k_is)
    (case ii_NoPlace => k_is)
    (case ga_NoPlace => k_is)
    (case gg_NoPlace => k_is)
    (case hd_NoPlace => k_is)
    (case ha_NoPlace => k_is)
    (case hm_NoPlace => k_is)
    (case pg_Expression => k_is)
    (case hd_Expression => k_is)
    (case po_Expression => k_is)
    (case sa_Expression => k_is)
    (case mk_Expression => k_is)
    (case kc_Expression => k_is)
    (case ha_Expression => k_is)
    (case hm_Expression => k_is)
    (case rd_Expression => k_is)
    (case rg_Expression => k_is)
    (case cx_Expression_MOST_NODES => k_is)
    (case na_Expression__nodes => k_is)
    (case na_Expression__firsts => k_is)
    (case hnO => k_is)
    (case htO => k_is)
    (case fa_si_nn => k_is)
    (case eDIGITS => k_is)
    (case eLETTERS => k_is)
    (case eMOST_ARGUMENTS => k_is)
    (case eMOST_CHARACTERS => k_is)
    (case eOPERATIONS => k_is)
    (case oOPERATIONS => k_is)
    (case yOPERATIONS => k_keys)
    (case pOPERATIONS => exact (.cons ⟨_, _, rfl, rfl⟩ (.cons ⟨_, _, rfl, rfl⟩ (.cons ⟨_, _, rfl, rfl⟩ .nil))))
    (case sOPERATIONS => decide +kernel)
    (case eRESERVED => k_is)
    (case oRESERVED => k_is)
    (case wRESERVED => exact UL.vals_of rfl)
