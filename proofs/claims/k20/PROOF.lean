import PyProof.Rows.All
import Wide.All
import OpenK.AllK
import Wide.FinOn
import HandS.ForMost
import HandS.Walk
import HandS.Evl
import HandS.IsInst
import HandS.Exc
import HandS.TryOnly
import HandS.ExcOwn
import HandS.ExcInit
import HandS.ExcField
import HandS.WordsExc
import HandS.Defaults
import HandS.MakeKw
import HandS.MakeKwOnly
import HandS.Property
import KE.KExcIs
import HandS.ClsMeth
import HandS.Star
import OpenK.KMeth
import OpenK.KOps
import HandS.IterVal
import HandS.OwnIter
import HandS.ExcValue
import HandS.Iter
import HandS.More
import HandS.CallLocal
import PyProof.Draws
import PyProof.EnumMake
import PyProof.StrLawsIn
import HandS.Text
import HandS.SuiteRaise
import HandS.RaiseFrom
import HandS.ExcInitHot
import HandS.FStr
import HandS.RevRange
import HandS.Conv
import HandS.Style
import HandS.StrMore
import HandS.Deep
import PySem.Challenge.RW_unnamedlives_k20_row
set_option Elab.async false
set_option linter.all false
set_option maxRecDepth 100000
/-! own: a list of draws as ONE unchanging thing of the abstract heap; small words -/
namespace UL
open PySem PySem.Spec PyProof.Rows L2 Evl TL

/-! ### draws -/
def Good (ns : List Int) : Prop := (∀ m ∈ ns, 0 ≤ m ∧ m < 1000003) ∧ ns.length ≤ 4000
def drObj (d : Addr) (h : Heap) : Prop := ∃ (ns : List Int) (its : List Value) (n : Nat), Good ns ∧ Vals (ns.map V.int) its ∧ h.get? d = some { cls := .type "list", data := .seq its.toArray n }
def DrO (d : Addr) : HO := .ext (drObj d)
theorem good_sz {ns : List Int} (g : Good ns) : (ns.map V.int).length ≤ sizeLine := by
  rw [List.length_map]
  exact Nat.le_trans g.2 (by decide)
section
variable {X : Cx} {pins : List (Addr × Obj)} {σ : L2.St} {H : Hp} {s : Shared} {d : Addr}
theorem inv_open (I : Inv X pins σ H s) (h : H d = some (DrO d)) : ∃ ns, Good ns ∧ Inv X pins σ (upd H d (.lst (ns.map V.int))) s := by
  obtain ⟨⟨ns, its, n, g, r, e⟩, _, _⟩ := I.hok d _ h
  exact ⟨ns, g, I.write (x := d) (e := d) (h' := s.heap) (t' := s.toks) (by rw [h]; trivial) (.inl rfl) (fun _ _ _ q => q) ⟨_, e⟩ ⟨good_sz g, its, n, r, e⟩⟩
theorem inv_close {ns : List Int} (I : Inv X pins σ H s) (h : H d = some (.lst (ns.map V.int))) (g : Good ns) : Inv X pins σ (upd H d (DrO d)) s := by
  obtain ⟨z, its, n, r, e⟩ := I.hok d _ h
  exact I.write (x := d) (e := d) (h' := s.heap) (t' := s.toks) (by rw [h]; trivial) (.inl rfl) (fun _ _ _ q => q) ⟨_, e⟩
    ⟨⟨ns, its, n, g, r, e⟩, ⟨_, e⟩, fun h1 h2 ⟨ns', its', n', g', r', e'⟩ k => ⟨ns', its', n', g', r', k _ e'⟩⟩
/-- the list of draws in slot i is opened ahead of the statements -/
def tOpen (i : Nat) (t : TS) : TS := fun D σ H => ∃ d, σ[i]? = some (some (.ref d)) ∧ H d = some (DrO d) ∧ ∀ ns, Good ns → t D σ (upd H d (.lst (ns.map V.int)))
theorem pss_open (i : Nat) {sts : List Stmt} {t : TS} (h : PSs X sts t) : PSs X sts (tOpen i t) := by
  refine ⟨fun pins s σ H D I q => ?_⟩
  obtain ⟨d, _, hd, k⟩ := q
  obtain ⟨ns, g, J⟩ := inv_open I hd
  exact h.run pins s σ _ D J (k ns g)
/-- .. and closed behind an expression -/
def tClose (t : TE) : TE := fun σ H Q => t σ H fun v H1 => ∃ d ns, H1 d = some (.lst (ns.map V.int)) ∧ Good ns ∧ Q v (upd H1 d (DrO d))
theorem pe_close {e : Expr} {t : TE} (h : PE X e t) : PE X e (tClose t) := by
  refine ⟨fun pins s σ H Q I q => ?_⟩
  refine thn (h.run pins s σ H _ I q) fun u s1 ⟨v, H1, I1, r, d, ns, hd, g, k⟩ => ?_
  exact ⟨v, _, inv_close I1 hd g, r, k⟩
end
theorem upd_back {H : Hp} {d : Addr} {o u : HO} (h : H d = some o) : upd (upd H d u) d o = H := by
  funext b
  unfold upd
  by_cases e : b = d
  · rw [if_pos e, e, h]
  · rw [if_neg e, if_neg e]
theorem upd_id {H : Hp} {d : Addr} {o : HO} (h : H d = some o) : upd H d o = H := by
  funext b
  unfold upd
  by_cases e : b = d
  · rw [if_pos e, e, h]
  · rw [if_neg e]
theorem same_upd {H : Hp} {p : Addr} {o : HO} (h : H p = none) : Same H (upd H p o) := fun b x e => by
  rw [upd_ne (ne_of_none e h)]
  exact e
theorem _root_.Evl.Ex.free' {H H' : Hp} {p : Addr} (e : Ex H H') (h : H' p = none) : H p = none := fresh_back e h
theorem good_tail {n : Int} {ns : List Int} (g : Good (n :: ns)) : 0 ≤ n ∧ n < 1000003 ∧ Good ns :=
  ⟨(g.1 n List.mem_cons_self).1, (g.1 n List.mem_cons_self).2, fun m hm => g.1 m (List.mem_cons_of_mem _ hm), Nat.le_trans (Nat.le_succ _) g.2⟩
theorem good_nil : Good [] := ⟨fun _ h => (nomatch h), by decide⟩
theorem good_add {ns : List Int} {n : Int} (g : ∀ m ∈ ns, 0 ≤ m ∧ m < 1000003) (h : 0 ≤ n ∧ n < 1000003) : ∀ m ∈ ns ++ [n], 0 ≤ m ∧ m < 1000003 := fun m hm => by
  rcases List.mem_append.mp hm with h1 | h1
  · exact g m h1
  · rw [List.mem_singleton.mp h1]
    exact h

/-! ### text * int -/
theorem op_mul_str {X : Cx} : OpR X (binaryOp .Mult) (fun x y H Q => ∃ (z : Str) (n : Int), x = .str z ∧ y = .int n ∧ MulOk z n ∧ Q (.str (Txt.mul z n)) H) := by
  intro pins s σ H x y v u Q I rx ry h
  obtain ⟨i, j, rfl, rfl, hz, q⟩ := h
  obtain ⟨t, rfl⟩ := rx
  obtain ⟨t', rfl⟩ := ry
  exact SB.mul hz (fun t' tk => ⟨.str (Txt.mul i j), H, I.tok _, ⟨_, rfl⟩, q⟩)
theorem mulOk_small {z : Str} {n : Int} (hz : z.length ≤ 64) (h0 : 0 ≤ n) (h1 : n ≤ 64) : MulOk z n := by
  refine ⟨?_, fun h2 _ => ?_, fun _ _ => ?_⟩
  · rw [decide_eq_false (by omega), decide_eq_false (by omega)]
    rfl
  · intro h
    have h3 : (64 : Int) ≤ (2 ^ 63 - 1) / n := (Int.le_ediv_iff_mul_le (by omega)).mpr (by omega)
    omega
  · unfold PySem.Builtin.Str.tooLong
    refine decide_eq_false ?_
    have h3 : z.length * n.toNat ≤ 64 * 64 := Nat.mul_le_mul hz (by omega)
    have h4 : (64 * 64 : Nat) ≤ sizeLine := by decide
    omega
theorem tl_reps (x : Array Nat) : ∀ (k : Nat) (a : Array Nat), ((List.replicate k x).foldl (· ++ ·) a).toList = a.toList ++ (List.replicate k x.toList).flatten
  | 0, a => by simp
  | k + 1, a => by
    rw [List.replicate_succ, List.foldl_cons, tl_reps x k (a ++ x), List.replicate_succ, List.flatten_cons, Array.toList_append, List.append_assoc]
theorem tl_mul (z : Str) (n : Int) : tl (Txt.mul z n) = (List.replicate n.toNat (tl z)).flatten := by
  unfold Txt.mul
  by_cases h1 : n < 1
  · rw [if_pos h1, show n.toNat = 0 by omega]
    rfl
  · rw [if_neg h1]
    by_cases h2 : (n == 1 || z.length == 0) = true
    · rw [if_pos h2]
      rcases Bool.or_eq_true _ _ ▸ h2 with h3 | h3
      · have : n = 1 := by simpa using h3
        subst this
        show tl z = (List.replicate 1 (tl z)).flatten
        simp
      · have h4 : (tl z) = [] := by
          have : z.length = 0 := by simpa using h3
          rw [len_tl] at this
          exact List.eq_nil_of_length_eq_zero this
        rw [h4]
        simp
    · rw [if_neg h2]
      show ((List.replicate n.toNat z.cps).foldl (· ++ ·) #[]).toList = _
      rw [tl_reps]
      rfl

theorem rel_of {x : V} {u : Value} (h : absV u = some x) : RelV x u := by
  cases u <;> first | (cases h; done) | (cases h; exact rfl) | (cases h; exact ⟨_, rfl⟩)
theorem vals_of : ∀ {xs : List V} {us : List Value}, us.map absV = xs.map some → Vals xs us
  | [], [], _ => .nil
  | [], _ :: _, h => (nomatch h)
  | _ :: _, [], h => (nomatch h)
  | x :: xs, u :: us, h => by
    rw [List.map_cons, List.map_cons] at h
    exact .cons (rel_of (List.cons.inj h).1) (vals_of (List.cons.inj h).2)
theorem dp_strs {K : PySem.W.Frag} {H : Hp} : ∀ zs : List Str, DpAll K H (zs.map V.str) (zs.map PyData.str)
  | [] => .nil
  | z :: r => .cons (.str z) (dp_strs r)
/-! ### loops -/
section
variable {D : Ends} {tb : TS} {j : Nat} {σ : L2.St} {H : Hp}
theorem forR1 {n : Int} (hn : -(2 ^ 62) ≤ n ∧ n < 2 ^ 62) (Pv : Nat → L2.St → Hp → Prop) (h0 : Pv 0 σ H)
    (hs : ∀ (i : Nat) σ' H', (i : Int) < n → Pv i σ' H' → tb { D with nx := Pv (i + 1), ct := Pv (i + 1), bk := D.nx } (σ'.set j (some (.int (i : Int)))) H') (hd : ∀ σ' H', Pv n.toNat σ' H' → D.nx σ' H') :
    -(2 ^ 62) ≤ n ∧ n < 2 ^ 62 ∧ ∃ W : Nat → Nat → L2.St → Hp → Prop, (∃ m, W 0 m σ H) ∧ ∀ i m σ H, W i m σ H →
      ((Itr 0 n.toNat).stop i H ∧ D.nx σ H) ∨ ((Itr 0 n.toNat).go i H ∧ ∃ N : L2.St → Hp → Prop, (∀ σ' H', N σ' H' → ∃ m', m' < m ∧ W (i + 1) m' σ' H') ∧ ∀ x H', (Itr 0 n.toNat).yld i H x H' → gName j x σ H' fun σ2 H2 => tb { D with nx := N, ct := N, bk := D.nx } σ2 H2) :=
  ⟨hn.1, hn.2, for_range (lo := 0) (n := n.toNat) Pv h0 (fun i σ' H' hi p => by
    have e0 : (0 : Int) + (i : Int) = (i : Int) := Int.zero_add _
    show tb { D with nx := Pv (i + 1), ct := Pv (i + 1), bk := D.nx } (σ'.set j (some (.int ((0 : Int) + (i : Int))))) H'
    rw [e0]
    exact hs i σ' H' (by omega) p) hd⟩
end
theorem seq0 (n : Nat) : seqIndex? 0 (n + 1) = some 0 := by
  unfold seqIndex?
  have h : (0 : Int) < ((n + 1 : Nat) : Int) := by omega
  have h2 : (0 ≤ (0 : Int) && decide ((0 : Int) < ((n + 1 : Nat) : Int))) = true := by
    rw [decide_eq_true h]
    rfl
  show (if (0 ≤ (0 : Int) && decide ((0 : Int) < ((n + 1 : Nat) : Int))) = true then some (0 : Int).toNat else none) = some 0
  rw [if_pos h2]
  rfl
theorem at_lt {α : Type} {xs : List α} {n : Int} (h0 : 0 ≤ n) (h1 : n < (xs.length : Int)) : ∃ c, atI xs n = some c := by
  obtain ⟨m, rfl⟩ := Int.eq_ofNat_of_zero_le h0
  have hm : m < xs.length := by omega
  exact ⟨xs[m], atI_nat (List.getElem?_eq_getElem hm)⟩
theorem at_in {α : Type} {xs : List α} {n : Int} (h0 : 0 ≤ n) (h1 : n < (xs.length : Int)) : ∃ c, atI xs n = some c ∧ c ∈ xs := by
  obtain ⟨m, rfl⟩ := Int.eq_ofNat_of_zero_le h0
  have hm : m < xs.length := by omega
  exact ⟨xs[m], atI_nat (List.getElem?_eq_getElem hm), List.getElem_mem hm⟩
theorem emod_in {a : Int} : 0 ≤ a % 1000003 ∧ a % 1000003 < 1000003 := ⟨Int.emod_nonneg _ (by decide), Int.emod_lt_of_pos _ (by decide)⟩
theorem int_get {ns : List Int} {i : Nat} (h : i < ns.length) : (ns.map V.int)[i]? = some (.int ns[i]) := by
  rw [List.getElem?_map, List.getElem?_eq_getElem h]
  rfl
/-! ### comprehensions over a text -/
theorem lc_str {z : Str} {f : Nat → V} {j : Nat} {te : TE} {vs : List Nat} {σ : L2.St} {H1 : Hp} {D : Addr} {Qd : Hp → Prop} (hz : z.length ≤ 100000) (hD : H1 D = none) (hw : ∀ x, wipe ((wipe σ vs).set j (some x)) vs = wipe σ vs)
    (he : ∀ (c : Nat) H', Ex H1 H' → ∀ Q : VK, Q (f c) H' → te ((wipe σ vs).set j (some (.str ⟨#[c]⟩))) H' Q) (hd : Qd (upd H1 D (.lst ((tl z).map f)))) :
    ∃ W : Nat → Nat → Hp → Prop, (∃ m, W 0 m (upd H1 D (.lst []))) ∧ ∀ i m H, W i m H →
      ((Its z).stop i H ∧ Qd H) ∨ ((Its z).go i H ∧ ∃ Nx : Hp → Prop, (∀ H', Nx H' → ∃ m', m' < m ∧ W (i + 1) m' H') ∧ ∀ x H', (Its z).yld i H x H' → gName j x (wipe σ vs) H' fun σ2 H2 => wipe σ2 vs = wipe σ vs ∧ tYes σ2 H2 fun b H3 =>
        if b = true then te σ2 H3 fun y H4 => ∃ acc, H4 D = some (.lst acc) ∧ acc.length < sizeLine ∧ Nx (upd H4 D (.lst (acc ++ [y]))) else Nx H3) := by
  refine lc_it walk_str (fun i H' => H' = upd H1 D (.lst (((tl z).take i).map f))) rfl (fun _ _ _ _ => trivial) ?_ ?_
  · rintro i x H H' hi rfl ⟨rfl, c, hc, rfl⟩
    refine ⟨hw _, ?_⟩
    show te _ _ _
    refine he c _ (Ex.new hD) _ ?_
    have hc' : (tl z)[i]? = some c := by rw [← hc]; exact Array.getElem?_toList
    refine ⟨_, upd_same, ?_, ?_⟩
    · rw [List.length_map, List.length_take]
      exact sz_lt (by have := len_tl z; have hs : i < z.length := hi; omega)
    · rw [upd_upd, List.take_add_one, hc', List.map_append]
      rfl
  · rintro H rfl
    have e : (tl z).take z.cps.size = tl z := List.take_of_length_le (by rw [← len_tl]; exact Nat.le_refl _)
    rw [e]
    exact hd
theorem for_str {z : Str} {j : Nat} {tb : TS} {D : Ends} {σ : L2.St} {H : Hp} (Pv : Nat → L2.St → Hp → Prop) (h0 : Pv 0 σ H)
    (hs : ∀ i c σ' H', (tl z)[i]? = some c → Pv i σ' H' → tb { D with nx := Pv (i + 1), ct := Pv (i + 1), bk := D.nx } (σ'.set j (some (.str ⟨#[c]⟩))) H') (hd : ∀ σ' H', Pv (tl z).length σ' H' → D.nx σ' H') :
    ∃ W : Nat → Nat → L2.St → Hp → Prop, (∃ m, W 0 m σ H) ∧ ∀ i m σ H, W i m σ H →
      ((Its z).stop i H ∧ D.nx σ H) ∨ ((Its z).go i H ∧ ∃ N : L2.St → Hp → Prop, (∀ σ' H', N σ' H' → ∃ m', m' < m ∧ W (i + 1) m' σ' H') ∧ ∀ x H', (Its z).yld i H x H' → gName j x σ H' fun σ2 H2 => tb { D with nx := N, ct := N, bk := D.nx } σ2 H2) := by
  refine for_it walk_str Pv h0 (fun _ _ _ _ _ => trivial) ?_ ?_
  · rintro i x σ' H1 H2 hi p ⟨rfl, c, hc, rfl⟩
    exact hs i c σ' _ (by rw [← hc]; exact Array.getElem?_toList) p
  · intro σ' H' p
    exact hd σ' H' p
/-- [te for _ in range(n)]: things of a kind that stays true, also when a list is written -/
theorem lc_n {G : Hp → V → Prop} {n : Int} {j : Nat} {te : TE} {vs : List Nat} {σ : L2.St} {H1 : Hp} {D : Addr} {Qd : Hp → Prop} (hn : 0 ≤ n ∧ n ≤ 100000) (hD : H1 D = none) (hG : ∀ H H' v, Ex H H' → G H v → G H' v)
    (hG2 : ∀ H xs ys v, H D = some (.lst xs) → G H v → G (upd H D (.lst ys)) v) (hw : ∀ x, wipe ((wipe σ vs).set j (some x)) vs = wipe σ vs)
    (he : ∀ (i : Nat) H', (i : Int) < n → Ex H1 H' → ∀ Q : VK, (∀ v H2, Ex H' H2 → G H2 v → Q v H2) → te ((wipe σ vs).set j (some (.int (i : Int)))) H' Q) (hd : ∀ H' xs, Ex H1 H' → H' D = some (.lst xs) → (xs.length : Int) = n → (∀ x ∈ xs, G H' x) → Qd H') :
    ∃ W : Nat → Nat → Hp → Prop, (∃ m, W 0 m (upd H1 D (.lst []))) ∧ ∀ i m H, W i m H →
      ((Itr 0 n.toNat).stop i H ∧ Qd H) ∨ ((Itr 0 n.toNat).go i H ∧ ∃ Nx : Hp → Prop, (∀ H', Nx H' → ∃ m', m' < m ∧ W (i + 1) m' H') ∧ ∀ x H', (Itr 0 n.toNat).yld i H x H' → gName j x (wipe σ vs) H' fun σ2 H2 => wipe σ2 vs = wipe σ vs ∧ tYes σ2 H2 fun b H3 =>
        if b = true then te σ2 H3 fun y H4 => ∃ acc, H4 D = some (.lst acc) ∧ acc.length < sizeLine ∧ Nx (upd H4 D (.lst (acc ++ [y]))) else Nx H3) := by
  refine lc_range (lo := 0) (n := n.toNat) (fun i H' => ∃ xs : List V, Ex H1 H' ∧ H' D = some (.lst xs) ∧ xs.length = i ∧ ∀ x ∈ xs, G H' x) ⟨[], Ex.new hD, upd_same, rfl, fun _ h => (nomatch h)⟩ ?_ ?_
  · rintro i H' hi ⟨xs, e1, hL, hl, hx⟩
    have e0 : (0 : Int) + (i : Int) = (i : Int) := Int.zero_add _
    show wipe ((wipe σ vs).set j (some (.int ((0 : Int) + (i : Int))))) vs = wipe σ vs ∧ _
    refine ⟨hw _, ?_⟩
    show te ((wipe σ vs).set j (some (.int ((0 : Int) + (i : Int))))) _ _
    rw [e0]
    refine he i H' (by omega) e1 _ fun v H2 e2 g => ⟨xs, e2 _ _ hL, sz_lt (by omega), xs ++ [v], (e1.trans e2).mut hD, upd_same, by rw [List.length_append, hl]; rfl, fun x hm => ?_⟩
    rcases List.mem_append.mp hm with h | h
    · exact hG2 _ _ _ _ (e2 _ _ hL) (hG _ _ _ e2 (hx x h))
    · rw [List.mem_singleton.mp h]
      exact hG2 _ _ _ _ (e2 _ _ hL) g
  · rintro H' ⟨xs, e1, hL, hl, hx⟩
    exact hd H' xs e1 hL (by omega) hx
end UL

set_option Elab.async false
set_option linter.all false
set_option maxRecDepth 100000
/-! own: one of two readings; objects made with keywords where an error may leave; own ==; isinstance of an error that has a dict -/
namespace UL
open PySem PySem.Spec PyProof.Rows L2 Evl TL

/-! ### one of two readings -/
section
variable {X : Cx} {e : Expr} {t1 t2 : TE} {op : CmpOp} {tg iter : Expr} {w1 w2 : TI}
def tAlt (t1 t2 : TE) : TE := fun σ H Q => t1 σ H Q ∨ t2 σ H Q
theorem pe_alt (h1 : PE X e t1) (h2 : PE X e t2) : PE X e (tAlt t1 t2) :=
  ⟨fun pins s σ H Q I h => h.elim (fun q => h1.run pins s σ H Q I q) (fun q => h2.run pins s σ H Q I q)⟩
def iAlt (w1 w2 : TI) : TI := fun σ H R => w1 σ H R ∨ w2 σ H R
theorem pi_alt (h1 : PI X tg iter w1) (h2 : PI X tg iter w2) : PI X tg iter (iAlt w1 w2) :=
  ⟨fun pins s σ H R I h => h.elim (fun q => h1.run pins s σ H R I q) (fun q => h2.run pins s σ H R I q)⟩
def rAlt (r1 r2 : R2) : R2 := fun x y H Q => r1 x y H Q ∨ r2 x y H Q
theorem op_alt {f : Value → Value → Sem Value} {r1 r2 : R2} (h1 : OpR X f r1) (h2 : OpR X f r2) : OpR X f (rAlt r1 r2) :=
  fun pins s σ H x y v u Q I rx ry h => h.elim (fun q => h1 pins s σ H x y v u Q I rx ry q) (fun q => h2 pins s σ H x y v u Q I rx ry q)
def cAlt (r1 r2 : List V → Hp → VK → Prop) : List V → Hp → VK → Prop := fun xs H Q => r1 xs H Q ∨ r2 xs H Q
theorem call_alt {f : Value} {r1 r2 : List V → Hp → VK → Prop} (h1 : CallR X f r1) (h2 : CallR X f r2) : CallR X f (cAlt r1 r2) :=
  fun pins s σ H xs us Q I r h => h.elim (fun q => h1 pins s σ H xs us Q I r q) (fun q => h2 pins s σ H xs us Q I r q)
end

/-! ### C(e, .., k = v, ..) where what is raised is wished for at the caller's slots -/
def tMakeS (C : Addr) (n m : Nat) (sp : Sp) (gV : List V → List V → List V) (E : L2.St → XK) (t tk : TA) : TE := fun σ H Q => t σ H fun vs H1 => tk σ H1 fun zs H2 => vs.length = n ∧ zs.length = m ∧
  ∀ x dx, H2 x = none → H2 dx = none → dx ≠ x → sp (gV (.ref x :: vs) zs) (upd (upd H2 dx (.own x)) x (.ins C dx [])) (fun v H3 => v = .non ∧ Q (.ref x) H3) (E σ)
section
variable {X : Cx} {CX : CXT} {k n : Nat} {f C : Addr} {fd : FuncData} {ps ks : List Str} {sp : Sp} {E : L2.St → XK} {x : Str} {p pos : Pos} {e : Expr} {es : List Expr} {kws : List Keyword} {t tk : TA} {g : List Value → List Value → List Value} {gV : List V → List V → List V}
theorem mk_run {pins : List (Addr × Obj)} {σ : L2.St} {H : Hp} {s : Shared} {Q : VK} {us ws : List Value} {vs zs : List V} (M : Mk X.K C f) (F : FnOk X.prog X.w X.K X.mg X.base CX k f fd ps sp) (hr : Room (k + 1) X.A)
    (hb : KBn X.K fd ps (n + 1) ks g gV) (hx : PassesAt CX X σ (E σ)) (I : Inv X pins σ H s) (r : Vals vs us) (rz : Vals zs ws) (l1 : vs.length = n) (l2 : zs.length = ks.length)
    (h : ∀ x dx, H x = none → H dx = none → dx ≠ x → sp (gV (.ref x :: vs) zs) (upd (upd H dx (.own x)) x (.ins C dx [])) (fun v H2 => v = .non ∧ Q (.ref x) H2) (E σ)) :
    wpAny (model X.prog X.w) X.A (call (.ref C) us (ks.zip ws)) (EP X pins σ Q) X.xe s := by
  let sz := s.heap.objs.size
  have J := Inv.made (C := C) I
  have q0 := h (sz + 1) sz (I.hok.fresh (Nat.le_succ _)) (I.hok.fresh (Nat.le_refl _)) (Nat.ne_of_lt (Nat.lt_succ_self _))
  have ra : Vals (V.ref (sz + 1) :: vs) (Value.ref (sz + 1) :: us) := .cons rfl r
  have na : (Value.ref (sz + 1) :: us).length = n + 1 := by rw [← ra.length, List.length_cons, l1]
  have run := F.run _ X.stack _ _ ⟨Value.ref (sz + 1) :: us, ks.zip ws⟩ (g (Value.ref (sz + 1) :: us) ws) _ _ (E σ) (hr.make C us (ks.zip ws)) (J.env0.make C us (ks.zip ws)) (hb.to _ (Value.ref (sz + 1) :: us) ws J.kIn na (rz.length.symm.trans l2)) (hb.rel ra rz) q0
  refine wpAny_call (make_map (f := f) I.kIn M.makes M.init (beq_iff_eq.mp M.fn) (codeAny_mono run fun rr s' z => ?_))
  match rr, z with
  | .error er, z => exact hx pins _ _ er s' J z
  | .ok (.ret u), z =>
    obtain ⟨v, H', J', rv, ev, q⟩ := J.after z
    subst ev
    exact ⟨rv, ⟨V.ref (sz + 1), H', J', rfl, q⟩⟩
  | .ok .next, z => exact False.elim z
  | .ok .brk, z => exact False.elim z
  | .ok .cont, z => exact False.elim z
theorem pe_makeS (M : Mk X.K C f) (F : FnOk X.prog X.w X.K X.mg X.base CX k f fd ps sp) (hr : Room (k + 1) X.A) (hg : Gl X x) (hm : X.mg x = some (.ref C)) (hb : KBn X.K fd ps (n + 1) ks g gV) (hx : ∀ σ, PassesAt CX X σ (E σ)) (ha : PA X (e :: es) t) (hkw : PK X kws tk)
    (a1 : (backToKw pos (keywordEach kws X.env)).all (·.1.isSome) = true := by rfl) (a2 : (backToKw pos (keywordEach kws X.env)).filterMap (·.1) = ks := by rfl) (a3 : (x == ("__debug__" : Str)) = false := by decide)
    (a4 : starEach (e :: es) X.env = (false, eval e X.env) :: starEach es X.env := by rfl) (a5 : ((backTo pos (starEach (e :: es) X.env)).any (·.1) || (backToKw pos (keywordEach kws X.env)).any (·.1.isNone)) = false := by rfl) :
    PE X (.Call (.Name x p) (e :: es) kws pos) (tMakeS C n ks.length sp gV E t tk) := by
  refine ⟨fun pins s σ H Q I h => wpAny_Call_Name_kw (ld_glob I hg hm ?_ a3)⟩
  refine PySem.W.callWith_KW (h₀ := X.base) I.ok.mod.kin M.kp a1 (thn (ha.run pos pins s σ H _ I h) fun us s1 hh => ?_) a5 a4
  obtain ⟨vs, H1, I1, r, q⟩ := hh
  refine thn (hkw.run pos pins s1 σ H1 _ I1 q) fun ws s2 hh => ?_
  obtain ⟨zs, H2, I2, rz, l1, l2, q2⟩ := hh
  exact ⟨I2.kIn, by rw [a2]; exact mk_run M F hr hb (hx σ) I2 r rz l1 l2 q2⟩
end
/-- what leaves a call is wished for wherever the slots stand -/
theorem passAny {X : Cx} {W : WX} (tk : Takes X W) : ∀ σ, PassesAt (L2.CX X.prog X.w) X σ (WE W σ) := fun σ => passAt tk σ
/-- .. in a def that lets it out: the wish E is the caller's -/
theorem passOut {X : Cx} {E : XK} (tk : Takes X fun cls d _ H => E cls d H) : ∀ σ, PassesAt (L2.CX X.prog X.w) X σ E := fun σ => passAt tk σ

/-! ### own == -/
/-- what may stand on the right of an own ==: of its class, or of a type beside it -/
def RSide (K : PySem.W.Frag) (C : Addr) (y : V) (H : Hp) : Prop := (∃ b dy gs, y = .ref b ∧ H b = some (.ins C dy gs)) ∨ (∃ z, y = .str z ∧ PySem.W.subIn K (.type "str") (.ref C) = some false) ∨ ∃ b ys, y = .ref b ∧ H b = some (.tup ys) ∧ PySem.W.subIn K (.type "tuple") (.ref C) = some false
def rOwnEq (K : PySem.W.Frag) (C : Addr) (sp : Sp) (E : XK) : R2 := fun x y H Q => ∃ a dx fs, x = .ref a ∧ H a = some (.ins C dx fs) ∧ RSide K C y H ∧ sp [.ref a, y] H (fun v H' => (∃ b, v = .bl b) ∧ Q v H') E
section
variable {X : Cx} {CX : CXT} {k : Nat} {f C : Addr} {fd : FuncData} {ps : List Str} {sp : Sp} {E : XK}
theorem op_ownEq (F : FnOk X.prog X.w X.K X.mg X.base CX k f fd ps sp) (hr : Room k X.A) (hs : PySem.W.findIn X.K (.ref C) "__eq__" = some (some (.ref f))) (hf : PySem.W.isFn X.K (.ref f) = true) (hb : L2.Binds X.K fd ps []) (hx : Passes CX X E) :
    OpR X (compareOp .Eq) (rOwnEq X.K C sp E) := by
  intro pins s σ H x y v u Q I rx ry h
  obtain ⟨a, dx, fs, rfl, ha, hy, q⟩ := h
  cases rx
  obtain ⟨mA, J, _⟩ := ins_get I.hok ha
  obtain ⟨od, J, _⟩ := J.look
  obtain ⟨m, hF⟩ := I.fr
  have side : ∃ tb, PySem.W.Looks (model X.prog X.w) s.heap (typeOf u) tb ∧ PySem.W.notFirst X.K C tb = true := by
    rcases hy with ⟨b, dy, gs, rfl, hb2⟩ | ⟨z, rfl, hn⟩ | ⟨b, ys, rfl, hb2, hn⟩
    · cases ry
      obtain ⟨mB, J', _⟩ := ins_get I.hok hb2
      obtain ⟨od', J', _⟩ := J'.look
      exact ⟨_, J'.type, by simp [PySem.W.notFirst]⟩
    · obtain ⟨t, rfl⟩ := ry
      exact ⟨.type "str", .now, by simp [PySem.W.notFirst, hn]⟩
    · cases ry
      obtain ⟨z, its, r, o, hg, hc, n, hd⟩ := I.hok b _ hb2
      exact ⟨.type "tuple", hc ▸ (PySem.W.Looks.ld hg).andThen .now, by simp [PySem.W.notFirst, hn]⟩
  obtain ⟨tb, ty, nf⟩ := side
  show wpAny _ _ (richCompare .Eq (.ref a) u) _ _ _
  refine PySem.W.cmp_K (op := .Eq) (tb := tb) hr.units0 hF I.ok.mod.kin J ty nf hs hf ?_
  have r2 : Vals [V.ref a, y] [Value.ref a, u] := .cons rfl (.cons ry .nil)
  have hl : [Value.ref a, u].length = ps.length := by rw [← r2.length]; exact F.len _ _ _ _ q
  have bd := hb s [Value.ref a, u] I.kIn (by rw [List.append_nil]; exact hl)
  rw [List.append_nil] at bd
  refine wpAny_call (codeAny_mono (F.run X.A X.stack s H ⟨[.ref a, u], []⟩ [.ref a, u] [.ref a, y] _ E hr I.env0 bd r2 q) fun rr s' z => ?_)
  match rr, z with
  | .error er, z => exact hx pins σ H s er s' I z
  | .ok (.ret w), z =>
    obtain ⟨v, H', I', rv, ⟨b, rfl⟩, q'⟩ := I.after z
    cases rv
    exact ⟨V.bl b, H', I', rfl, q'⟩
  | .ok .next, z => exact False.elim z
  | .ok .brk, z => exact False.elim z
  | .ok .cont, z => exact False.elim z
end

/-! ### isinstance of a caught error that has a dict -/
def rIsX (K : PySem.W.Frag) (D a : Addr) (cls : Value) (d : Option Addr) : List V → Hp → VK → Prop := fun xs H Q => ∃ (c : V) (cv : Value) (b : Bool) (dd : Addr) (fs : List (Str × V)), xs = [.ref a, c] ∧ cls = .ref D ∧ (∀ u, RelV c u → u = cv) ∧ d = some dd ∧ H dd = some (.xd fs) ∧ PySem.W.kitOne K (.ref D) cv = some b ∧ Q (.bl b) H
structure ExI (K : PySem.W.Frag) (D : Addr) : Prop where
  c1 : (PySem.W.clsIn K D).isSome = true
  c2 : PySem.W.findIn K (.ref D) "__getattribute__" = some (some (.builtin "BaseException.__getattribute__"))
  c3 : PySem.W.findIn K (.ref D) "__getattr__" = some none
  c4 : PySem.W.subIn K (.ref D) (.type "BaseException") = some true
  c5 : PySem.W.findIn K (.ref D) "__class__" = some (some (.builtin "object.__class__"))
  c6 : PySem.W.specialIn K (.builtin "object.__class__") "__get__" = some (some (.builtin "getset_descriptor.__get__"))
  c7 : PySem.W.takesIn K (.builtin "object.__class__") = some true
  c8 : PySem.W.mroIn K D (.type "object") = some true
theorem call_isX {X : Cx} {a D : Addr} {cls : Value} {d : Option Addr} {oe : Obj} {pn : List (Addr × Obj)} (T : ExI X.K D) (hz : Zc cls d oe) (hf : ∃ vs, oe.data = .fields vs) : CallR (X.suite a ((a, oe) :: pn)) (.builtin "isinstance") (rIsX X.K D a cls d) := by
  intro pins s σ H xs us Q I r h
  obtain ⟨c, cv, b, dd, fs, rfl, rfl, hcv, rfl, hd, ek, q⟩ := h
  obtain ⟨u1, w1, e1, r1, rr1⟩ : ∃ u1 w1, us = [u1, w1] ∧ RelV (.ref a) u1 ∧ RelV c w1 := by
    cases r with
    | cons q1 q2 =>
      cases q2 with
      | cons q3 q4 =>
        cases q4
        exact ⟨_, _, rfl, q1, q3⟩
  subst e1
  cases r1
  have e2 := hcv _ rr1
  subst e2
  obtain ⟨hget, _⟩ := I.pin (a, oe) (List.mem_append.mpr (.inl List.mem_cons_self))
  obtain ⟨vs, hv⟩ := hf
  have hx : ObjOk X.prog X.w H s.heap dd (.xd fs) := I.hok dd _ hd
  obtain ⟨mA, hns, _⟩ := hx
  obtain ⟨od, ho, _⟩ := lookIn_ns hns
  have J : PySem.W.InstAt s.heap a oe D (some od) := ⟨hget, hz.1, by unfold PySem.W.notCls; rw [hv] <;> rfl, by rw [hz.2]; exact ho⟩
  exact PySem.W.kia_one (PySem.W.kitx_exc T.c1 T.c2 T.c3 T.c4 T.c5 T.c6 T.c7 T.c8) I.kIn J ek (fun z => nomatch z) fun tk => ⟨.bl b, H, I.kept (t' := tk) fun _ _ z => z, rfl, q⟩
/-! ### what the written part says of a class -/
structure TyF (K : PySem.W.Frag) (C : Addr) : Prop where
  ha : PySem.W.findIn K (.ref C) "__class__" = some (some (.builtin "object.__class__"))
  hn : PySem.W.specialIn K (.builtin "object.__class__") "__get__" = some (some (.builtin "getset_descriptor.__get__"))
  ht : PySem.W.takesIn K (.builtin "object.__class__") = some true
  hm : PySem.W.mroIn K C (.type "object") = some true
theorem tyx_ins {K : PySem.W.Frag} {H : Hp} {a C dx : Addr} {fs : List (Str × V)} (e : H a = some (.ins C dx fs)) (c : Cls K C) (t : TyF K C) : TyX K H (.ref a) (.ref C) := .base (.ins e c t.ha t.hn t.ht t.hm)
structure ExF (K : PySem.W.Frag) (C I : Addr) : Prop where
  ox : OexC K C
  ii : PySem.W.findIn K (.ref C) "__init__" = some (some (.ref I))
  nw : PySem.W.findIn K (.ref C) "what" = some none
  xf : XfC K C

/-! ### errors that keep what they are made with -/
/-- the promise of the base class's __init__: self.what = what -/
def spWhat (K : PySem.W.Frag) : Sp := fun vs H Q _ => ∃ (a C : Addr) (v : V), vs = [.ref a, v] ∧ flatV v = true ∧ H a = some (exo a C none) ∧ OexC K C ∧ PySem.W.findIn K (.ref C) "what" = some none ∧
  ∀ dx, H dx = none → dx ≠ a → Q .non (upd (upd H dx (exd dx [("what", v)])) a (exo a C (some dx)))
theorem raise_what {K : PySem.W.Frag} {C I : Addr} {H : Hp} {v : V} {Q : XK} (F : ExF K C I) (hv : flatV v = true) (k : ∀ d H', Ex H H' → H' d = some (.xd [("what", v)]) → Q (.ref C) (some d) H') :
    ∀ a, H a = none → spWhat K [.ref a, v] (upd H a (exo a C none)) (fun u H2 => u = .non ∧ ∃ (d : Addr) (fs : List (Str × V)), H2 a = some (exo a C (some d)) ∧ H2 d = some (exd d fs) ∧ H d = none ∧ Q (.ref C) (some d) (upd (L2.del H2 a) d (.xd fs))) (fun _ _ _ => False) := by
  intro a ha
  refine ⟨a, C, v, rfl, hv, upd_same, F.ox, F.nw, fun dx hd hne => ⟨rfl, dx, [("what", v)], upd_same, ?_, ?_, ?_⟩⟩
  · rw [upd_ne hne, upd_same]
  · rw [upd_ne hne] at hd
    exact hd
  · have hd0 : H dx = none := by
      rw [upd_ne hne] at hd
      exact hd
    refine k dx _ (fun b o hb => ?_) upd_same
    have b1 : b ≠ a := ne_of_none hb ha
    have b2 : b ≠ dx := ne_of_none hb hd0
    rw [upd_ne b2]
    show (if b = a then none else _) = _
    rw [if_neg b1, upd_ne b1, upd_ne b2, upd_ne b1]
    exact hb
theorem flat_ty {K : PySem.W.Frag} {H : Hp} {v : V} (h : flatV v = true) : ∃ t, TyX K H v t ∧ PySem.W.kitOne K t (.type "list") = some false ∧ PySem.W.kitOne K t (.type "tuple") = some false ∧ PySem.W.kitOne K t (.type "dict") = some false := by
  cases v with
  | non => exact ⟨_, .base .non, kit_ty (r := false) (by decide +kernel), kit_ty (r := false) (by decide +kernel), kit_ty (r := false) (by decide +kernel)⟩
  | bl b => exact ⟨_, .base (.bl b), kit_ty (r := false) (by decide +kernel), kit_ty (r := false) (by decide +kernel), kit_ty (r := false) (by decide +kernel)⟩
  | int i => exact ⟨_, .base (.int i), kit_ty (r := false) (by decide +kernel), kit_ty (r := false) (by decide +kernel), kit_ty (r := false) (by decide +kernel)⟩
  | str z => exact ⟨_, .base (.str z), kit_ty (r := false) (by decide +kernel), kit_ty (r := false) (by decide +kernel), kit_ty (r := false) (by decide +kernel)⟩
  | _ => cases h

/-! ### sequences: a list or a tuple -/
section
variable {K : PySem.W.Frag} {H H' : Hp} {v : V} {xs : List V}
def SeqV (K : PySem.W.Frag) (H : Hp) (v : V) (xs : List V) : Prop := ∃ a, v = .ref a ∧ (H a = some (.lst xs) ∨ H a = some (.tup xs) ∨ (SqT K H a xs ∧ ∃ o, K.lookup a = some o ∧ o.cls = .type "tuple"))
theorem SeqV.mono (e : Ex H H') (h : SeqV K H v xs) : SeqV K H' v xs := by
  obtain ⟨a, rfl, h | h | ⟨h, o⟩⟩ := h
  · exact ⟨a, rfl, .inl (e _ _ h)⟩
  · exact ⟨a, rfl, .inr (.inl (e _ _ h))⟩
  · exact ⟨a, rfl, .inr (.inr ⟨ex_t e h, o⟩)⟩
theorem SeqV.ty (h : SeqV K H v xs) : ∃ t, TyX K H v t ∧ PySem.W.kitAny K t [.type "list", .type "tuple"] = some true := by
  obtain ⟨a, rfl, h | h | ⟨_, o, ho, hc⟩⟩ := h
  · exact ⟨_, .base (.lst h), rfl⟩
  · exact ⟨_, .base (.tup h), rfl⟩
  · exact ⟨_, .kTuple ho hc, rfl⟩
theorem SeqV.two (h : SeqV K H v xs) : ∃ a, v = .ref a ∧ (SqL K H a xs ∨ SqT K H a xs) := by
  obtain ⟨a, rfl, h | h | ⟨h, o⟩⟩ := h
  · exact ⟨a, rfl, .inl (SqL.of h)⟩
  · exact ⟨a, rfl, .inr (SqT.of h)⟩
  · exact ⟨a, rfl, .inr h⟩
def NSeq (H : Hp) (v : V) : Prop := v = .non ∨ (∃ b, v = .bl b) ∨ (∃ i, v = .int i) ∨ (∃ z, v = .str z) ∨ ∃ a kvs, v = .ref a ∧ H a = some (.dK kvs)
theorem NSeq.mono (e : Ex H H') (h : NSeq H v) : NSeq H' v := by
  rcases h with h | h | h | h | ⟨a, kvs, h, h1⟩
  · exact .inl h
  · exact .inr (.inl h)
  · exact .inr (.inr (.inl h))
  · exact .inr (.inr (.inr (.inl h)))
  · exact .inr (.inr (.inr (.inr ⟨a, kvs, h, e _ _ h1⟩)))
theorem NSeq.ty (h : NSeq H v) : ∃ t, TyX K H v t ∧ PySem.W.kitAny K t [.type "list", .type "tuple"] = some false := by
  rcases h with rfl | ⟨b, rfl⟩ | ⟨i, rfl⟩ | ⟨z, rfl⟩ | ⟨a, kvs, rfl, h⟩
  · exact ⟨_, .base .non, rfl⟩
  · exact ⟨_, .base (.bl b), rfl⟩
  · exact ⟨_, .base (.int i), rfl⟩
  · exact ⟨_, .base (.str z), rfl⟩
  · exact ⟨_, .base (.dK h), rfl⟩
theorem for_seq {a : Addr} {tl : TE} {g : TG} {tb : TS} {D : Ends} {σ : L2.St} (htl : ∀ Q : VK, Q (.ref a) H → tl σ H Q) (hx : SqL K H a xs ∨ SqT K H a xs) (Pv : Nat → L2.St → Hp → Prop) (h0 : Pv 0 σ H) (stay : ∀ i σ' H', Pv i σ' H' → Ex H H')
    (hs : ∀ i x σ' H', xs[i]? = some x → Pv i σ' H' → g x σ' H' fun σ2 H2 => tb { D with nx := Pv (i + 1), ct := Pv (i + 1), bk := D.nx } σ2 H2) (hd : ∀ σ' H', Pv xs.length σ' H' → D.nx σ' H') : tFor (iAlt (iList K tl) (iTup K tl)) g tb D σ H := by
  rcases hx with hx | hx
  · exact .inl (htl _ ⟨a, rfl, ⟨_, hx⟩, for_list Pv h0 (fun i σ' H' _ p => ex_l (stay i σ' H' p) hx) hs hd⟩)
  · exact .inr (htl _ ⟨a, rfl, ⟨_, hx⟩, for_tup Pv h0 (fun i σ' H' _ p => ex_t (stay i σ' H' p) hx) hs hd⟩)
end

theorem del_at {H : Hp} {x b : Addr} {o : HO} (h : H b = some o) (n : b ≠ x) : L2.del H x b = some o := by
  show (if b = x then none else H b) = _
  rw [if_neg n]
  exact h
theorem sqT_del {K : PySem.W.Frag} {H : Hp} {x a C dx : Addr} {fs : List (Str × V)} {xs : List V} (hx : H x = some (.ins C dx fs)) (h : SqT K H a xs) : SqT K (L2.del H x) a xs := by
  rcases h with (h | ⟨o, h⟩) | h
  · exact .inl (.inl (del_at h (ne_of h hx (by intro z; cases z))))
  · exact .inl (.inr ⟨o, del_at h (ne_of h hx (by intro z; cases z))⟩)
  · exact .inr h
/-- all but the object at x stands -/
theorem ex_del {H H1 H' : Hp} {x : Addr} (e : Ex H H1) (k : ∀ b o, b ≠ x → H1 b = some o → H' b = some o) : Ex (L2.del H x) H' := fun b o hb => by
  by_cases n : b = x
  · rw [show L2.del H x b = none from if_pos n] at hb
    cases hb
  · rw [show L2.del H x b = H b from if_neg n] at hb
    exact k b o n (e b o hb)

def rLen (K : PySem.W.Frag) : List V → Hp → VK → Prop := fun xs H Q => ∃ p ys, xs = [.ref p] ∧ (SqL K H p ys ∨ SqT K H p ys) ∧ Q (.int ys.length) H
theorem cutV_mem {xs : List V} {lo hi : Option Int} : (∀ x ∈ cutV xs lo hi, x ∈ xs) ∧ (cutV xs lo hi).length ≤ xs.length := by
  unfold cutV
  refine ⟨fun x hx => List.mem_of_mem_drop (List.mem_of_mem_take hx), ?_⟩
  rw [List.length_take, List.length_drop]
  omega

theorem made_in {H : Hp} {x dx C : Addr} (hx : H x = none) (hd : H dx = none) : Ex H (upd (upd H dx (.own x)) x (.ins C dx [])) := fun b o hb => by
  rw [upd_ne (ne_of_none hb hx), upd_ne (ne_of_none hb hd)]
  exact hb
theorem made_ex {H H' : Hp} {x dx C : Addr} (hx : H x = none) (hd : H dx = none) (e : Ex (L2.del (upd (upd H dx (.own x)) x (.ins C dx [])) x) H') : Ex H H' := fun b o hb =>
  e b o (del_at (made_in hx hd b o hb) (ne_of_none hb hx))
theorem sqT_ty {K : PySem.W.Frag} {H : Hp} {t : Addr} {xs : List V} (h : SqT K H t xs) : TyX K H (.ref t) (.type "tuple") := by
  rcases h with (h | ⟨o, h⟩) | ⟨o, its, n, ho, hc, _⟩
  · exact .base (.tup h)
  · exact .fTuple h
  · exact .kTuple ho hc

theorem SeqV.isl {K : PySem.W.Frag} {H : Hp} {v : V} {xs : List V} (h : SeqV K H v xs) : (∃ a, v = .ref a ∧ H a = some (.lst xs) ∧ TyX K H v (.type "list")) ∨ (∃ a, v = .ref a ∧ SqT K H a xs ∧ TyX K H v (.type "tuple")) := by
  obtain ⟨a, rfl, h | h | ⟨h, o, ho, hc⟩⟩ := h
  · exact .inl ⟨a, rfl, h, .base (.lst h)⟩
  · exact .inr ⟨a, rfl, SqT.of h, .base (.tup h)⟩
  · exact .inr ⟨a, rfl, h, .kTuple ho hc⟩

theorem cut_one (xs : List V) : cutV xs (some 1) none = xs.drop 1 := by
  unfold cutV
  rw [show HT.sIx xs.length 0 (some 1) = min 1 xs.length from HT.sIx_nat xs.length 0 1, HT.sIx_none]
  cases xs with
  | nil => rfl
  | cons x r =>
    rw [show min 1 (x :: r).length = 1 by rw [List.length_cons]; omega]
    exact List.take_of_length_le (by rw [List.length_drop]; omega)

section
variable {K : PySem.W.Frag} {C D : Addr} {T : String} {b : Bool}
theorem cls_some (h : PySem.W.hasDictIn K C = true) : (PySem.W.clsIn K C).isSome = true := by
  obtain ⟨cd, hc, _⟩ := PySem.W.any_some h
  rw [hc]
  rfl
theorem kit_own : PySem.W.kitOne K (.ref C) (.ref C) = some true := by
  unfold PySem.W.kitOne
  rw [if_pos (beq_self_eq_true _)]
theorem both_cls (h1 : PySem.W.hasDictIn K C = true) (h2 : PySem.W.typeIn K (.ref C) = some (.type "type")) : ((PySem.W.clsIn K C).isSome && PySem.W.typeIn K (.ref C) == some (.type "type")) = true := by
  rw [cls_some h1, h2] <;> rfl
theorem kit_type_ref (h1 : PySem.W.hasDictIn K C = true) (h2 : PySem.W.typeIn K (.ref C) = some (.type "type")) (h3 : PySem.W.subIn K (.type T) (.ref C) = some b) : PySem.W.kitOne K (.type T) (.ref C) = some b := by
  unfold PySem.W.kitOne
  rw [if_neg (by intro z; cases (beq_iff_eq.mp z))]
  exact (show PySem.W.kitCls K (.type T) (.ref C) = PySem.W.subIn K (.type T) (.ref C) from if_pos (both_cls h1 h2)).trans h3
theorem kit_ref_type (hm : PySem.W.kitMeta T = true) (h : PySem.W.subIn K (.ref D) (.type T) = some b) : PySem.W.kitOne K (.ref D) (.type T) = some b := by
  unfold PySem.W.kitOne
  rw [if_neg (by intro z; cases (beq_iff_eq.mp z))]
  exact (show PySem.W.kitCls K (.ref D) (.type T) = PySem.W.subIn K (.ref D) (.type T) from if_pos hm).trans h
theorem kit_ref_ref (ne : D ≠ C) (h1 : PySem.W.hasDictIn K C = true) (h2 : PySem.W.typeIn K (.ref C) = some (.type "type")) (h3 : PySem.W.subIn K (.ref D) (.ref C) = some b) : PySem.W.kitOne K (.ref D) (.ref C) = some b := by
  unfold PySem.W.kitOne
  rw [if_neg (by intro z; exact ne (Value.ref.inj (beq_iff_eq.mp z)))]
  exact (show PySem.W.kitCls K (.ref D) (.ref C) = PySem.W.subIn K (.ref D) (.ref C) from if_pos (both_cls h1 h2)).trans h3
theorem exm_cls (h0 : PySem.W.subIn K (.ref C) (.type "BaseException") = some true) (h1 : PySem.W.hasDictIn K C = true) (h2 : PySem.W.typeIn K (.ref C) = some (.type "type")) (h3 : PySem.W.subIn K (.ref D) (.ref C) = some b) : PySem.W.exmOne K (.ref D) (.ref C) = some b := by
  have e1 : (PySem.W.subIn K (.ref C) (.type "BaseException") == some true) = true := by rw [h0] <;> rfl
  show (if (PySem.W.subIn K (.ref C) (.type "BaseException") == some true) = true then (if ((PySem.W.clsIn K C).isSome && PySem.W.typeIn K (.ref C) == some (.type "type")) = true then PySem.W.subIn K (.ref D) (.ref C) else none) else none) = some b
  rw [if_pos e1, if_pos (both_cls h1 h2)]
  exact h3
end

theorem cut_from (xs : List V) (k : Nat) : cutV xs (some (k : Int)) none = xs.drop k := by
  unfold cutV
  rw [HT.sIx_nat, HT.sIx_none]
  by_cases h : k ≤ xs.length
  · rw [Nat.min_eq_left h]
    exact List.take_of_length_le (by rw [List.length_drop]; omega)
  · rw [Nat.min_eq_right (by omega), List.drop_length, List.drop_eq_nil_of_le (by omega), List.take_nil]
end UL

set_option Elab.async false
set_option linter.all false
set_option maxRecDepth 100000
/-! own: a static method called off its class -/
namespace UL
open PySem PySem.Spec PyProof.Rows L2 Evl TL

/-- C.m is a staticmethod: its record at p, its def at g -/
structure SMet (K : PySem.W.Frag) (C : Addr) (mc : Value) (m : Str) (p g : Addr) : Prop where
  rd : PySem.W.readsIn K C mc = true
  ga : PySem.W.specialIn K (.ref C) "__getattribute__" = some (some (.builtin "type.__getattribute__"))
  fc : PySem.W.findCls K (.ref C) mc m = some (.get (.builtin "staticmethod.__get__") (.ref p) .none (.ref C))
  rc : ∃ rest, PySem.W.recIn K p "staticmethod" = some (.ref g :: rest)
  kg : PySem.W.keepIn K (.ref g) = true
def tSm (C : Addr) (sp : Sp) (E : L2.St → XK) (ta : TE) (t : TA) : TE := fun σ H Q => ta σ H fun x H1 => x = .ref C ∧ t σ H1 fun vs H2 => sp vs H2 Q (E σ)
section
variable {X : Cx} {CX : CXT} {k : Nat} {C p g : Addr} {mc : Value} {fd : FuncData} {ps : List Str} {sp : Sp} {E : L2.St → XK} {o e : Expr} {es : List Expr} {m : Str} {pos apos : Pos} {ta : TE} {t : TA} {pl : Sem Bool}
theorem pe_smS (he : PE X o ta) (c : SMet X.K C mc m p g) (F : FnOk X.prog X.w X.K X.mg X.base CX k g fd ps sp) (hr : Room k X.A) (hb : L2.Binds X.K fd ps []) (hx : ∀ σ, PassesAt CX X σ (E σ)) (ha : PA X (e :: es) t)
    (h1 : starEach (e :: es) X.env = (false, eval e X.env) :: starEach es X.env := by rfl) (h2 : (backTo pos (starEach es X.env)).any (·.1) = false := by rfl)
    (h3 : eval (.Call (.Attribute o m apos) (e :: es) [] pos) X.env = (do
      let who ← eval o X.env
      standAt apos.atName
      let (fn, fst) ← holding [who] (getMethod who m pl)
      callWith pos fn fst (backTo pos (starEach (e :: es) X.env)) (backToKw pos (keywordEach [] X.env))) := by rfl) :
    PE X (.Call (.Attribute o m apos) (e :: es) [] pos) (tSm C sp E ta t) := by
  refine ⟨fun pins s σ H Q I h => PySem.W.methodCall_KW (pl := pl) (thn (he.run pins s σ H _ I h) fun u s1 hh => ?_) h3⟩
  obtain ⟨x, H1, I1, rx, rfl, q⟩ := hh
  obtain rfl : u = Value.ref C := rx
  obtain ⟨rest, hrc⟩ := c.rc
  refine PySem.W.method_cls I1.kIn c.ga (PySem.W.cls_bind I1.kIn c.rd c.fc (wpAny_call (PySem.W.sm_get (s := { s1 with toks := s1.toks + 1 }) I1.kIn hrc (PySem.W.handed_on rfl ?_))))
  have I2 : Inv X pins σ H1 { s1 with toks := s1.toks + 1 } := I1.tok _
  refine PySem.W.callWith_K (h₀ := X.base) I1.ok.mod.kin c.kg (thn (ha.run pos pins _ σ H1 _ I2 q) fun us s3 hh => ?_) h1 h2
  obtain ⟨vs, H2, I3, rv, q2⟩ := hh
  exact ⟨I3.kIn, run_fnS F hr hb (hx σ) I3 rv q2⟩
end

/-- [f x for x in a sequence]: any walk over fixed items, an element each, nothing else changed -/
theorem lc_map {K : PySem.W.Frag} {J : It} {xs : List V} {G : Hp → Prop} {f : V → V} {j : Nat} {te : TE} {vs : List Nat} {σ : L2.St} {H1 : Hp} {D : Addr} {Qd : Hp → Prop} (w : L2.Walk J xs.length G (YAt xs)) (hz : xs.length ≤ 100000) (hD : H1 D = none)
    (hG : ∀ H', Ex H1 H' → G H') (hw : ∀ x, wipe ((wipe σ vs).set j (some x)) vs = wipe σ vs) (he : ∀ x H', x ∈ xs → Ex H1 H' → ∀ Q : VK, Q (f x) H' → te ((wipe σ vs).set j (some x)) H' Q) (hd : Qd (upd H1 D (.lst (xs.map f)))) :
    ∃ W : Nat → Nat → Hp → Prop, (∃ m, W 0 m (upd H1 D (.lst []))) ∧ ∀ i m H, W i m H →
      (J.stop i H ∧ Qd H) ∨ (J.go i H ∧ ∃ Nx : Hp → Prop, (∀ H', Nx H' → ∃ m', m' < m ∧ W (i + 1) m' H') ∧ ∀ x H', J.yld i H x H' → gName j x (wipe σ vs) H' fun σ2 H2 => wipe σ2 vs = wipe σ vs ∧ tYes σ2 H2 fun b H3 =>
        if b = true then te σ2 H3 fun y H4 => ∃ acc, H4 D = some (.lst acc) ∧ acc.length < sizeLine ∧ Nx (upd H4 D (.lst (acc ++ [y]))) else Nx H3) := by
  refine lc_it w (fun i H' => H' = upd H1 D (.lst ((xs.take i).map f))) rfl (fun i H' _ h => by rw [h]; exact hG _ (Ex.new hD)) ?_ ?_
  · rintro i x H H' hi rfl ⟨rfl, hx⟩
    refine ⟨hw _, ?_⟩
    show te _ _ _
    refine he x _ (List.mem_of_getElem? hx) (Ex.new hD) _ ⟨_, upd_same, ?_, ?_⟩
    · rw [List.length_map, List.length_take]
      exact sz_lt (by omega)
    · rw [upd_upd, List.take_add_one, hx, List.map_append]
      rfl
  · rintro H rfl
    rw [List.take_length]
    exact hd
/-- [f x for x in a sequence if p x] -/
theorem lc_filter {K : PySem.W.Frag} {J : It} {xs : List V} {G : Hp → Prop} {p : V → Bool} {f : V → V} {j : Nat} {tt : TT} {te : TE} {vs : List Nat} {σ : L2.St} {H1 : Hp} {D : Addr} {Qd : Hp → Prop} (w : L2.Walk J xs.length G (YAt xs)) (hz : xs.length ≤ 100000) (hD : H1 D = none)
    (hG : ∀ H', Ex H1 H' → G H') (hw : ∀ x, wipe ((wipe σ vs).set j (some x)) vs = wipe σ vs) (ht : ∀ x H', x ∈ xs → Ex H1 H' → ∀ Q : Bool → Hp → Prop, Q (p x) H' → tt ((wipe σ vs).set j (some x)) H' Q)
    (he : ∀ x H', x ∈ xs → p x = true → Ex H1 H' → ∀ Q : VK, Q (f x) H' → te ((wipe σ vs).set j (some x)) H' Q) (hd : Qd (upd H1 D (.lst ((xs.filter p).map f)))) :
    ∃ W : Nat → Nat → Hp → Prop, (∃ m, W 0 m (upd H1 D (.lst []))) ∧ ∀ i m H, W i m H →
      (J.stop i H ∧ Qd H) ∨ (J.go i H ∧ ∃ Nx : Hp → Prop, (∀ H', Nx H' → ∃ m', m' < m ∧ W (i + 1) m' H') ∧ ∀ x H', J.yld i H x H' → gName j x (wipe σ vs) H' fun σ2 H2 => wipe σ2 vs = wipe σ vs ∧ tt σ2 H2 fun b H3 =>
        if b = true then te σ2 H3 fun y H4 => ∃ acc, H4 D = some (.lst acc) ∧ acc.length < sizeLine ∧ Nx (upd H4 D (.lst (acc ++ [y]))) else Nx H3) := by
  refine lc_it w (fun i H' => H' = upd H1 D (.lst (((xs.take i).filter p).map f))) rfl (fun i H' _ h => by rw [h]; exact hG _ (Ex.new hD)) ?_ ?_
  · rintro i x H H' hi rfl ⟨rfl, hx⟩
    refine ⟨hw _, ?_⟩
    refine ht x _ (List.mem_of_getElem? hx) (Ex.new hD) _ ?_
    have e1 : (xs.take (i + 1)).filter p = (xs.take i).filter p ++ [x].filter p := by
      rw [List.take_add_one, hx, List.filter_append]
      rfl
    cases hp : p x with
    | true =>
      refine iteT (he x _ (List.mem_of_getElem? hx) hp (Ex.new hD) _ ⟨_, upd_same, ?_, ?_⟩)
      · rw [List.length_map]
        refine sz_lt (Nat.lt_of_le_of_lt (List.length_filter_le _ _) ?_)
        rw [List.length_take]
        omega
      · rw [upd_upd, e1, List.map_append]
        simp [hp]
    | false =>
      refine iteF ?_
      rw [e1]
      simp [hp]
  · rintro H rfl
    rw [List.take_length]
    exact hd
end UL

set_option Elab.async false
set_option linter.all false
set_option maxRecDepth 100000
/-! own module: `in`, an index and len of an object of an own class -/
namespace UL
open PySem PySem.Spec PyProof.Rows L2 Evl TL
section
variable {X : Cx} {CX : CXT} {k : Nat} {f C : Addr} {fd : FuncData} {ps : List Str} {sp : Sp} {E : XK}
/-- x in y, y of an own class; the answer is a truth -/
def rOwnIn (C : Addr) (neg : Bool) (sp : Sp) (E : XK) : R2 := fun x y H Q => ∃ a dx fs, y = .ref a ∧ H a = some (.ins C dx fs) ∧ sp [.ref a, x] H (fun v H' => ∃ b, v = .bl b ∧ Q (.bl (if neg then !b else b)) H') E
theorem op_ownIn (F : FnOk X.prog X.w X.K X.mg X.base CX k f fd ps sp) (hr : Room k X.A) (hs : PySem.W.findIn X.K (.ref C) "__contains__" = some (some (.ref f))) (hf : PySem.W.isFn X.K (.ref f) = true) (hb : L2.Binds X.K fd ps []) (hx : Passes CX X E) :
    OpR X (compareOp .In) (rOwnIn C false sp E) := by
  intro pins s σ H x y v u Q I rx ry h
  obtain ⟨a, dx, fs, rfl, ha, q⟩ := h
  cases ry
  obtain ⟨mA, J, _⟩ := ins_get I.hok ha
  obtain ⟨od, J, _⟩ := J.look
  obtain ⟨m, hF⟩ := I.fr
  refine PySem.W.in_K hF I.ok.mod.kin J hs hf ?_
  have r2 : Vals [V.ref a, x] [Value.ref a, v] := .cons rfl (.cons rx .nil)
  have hl : [Value.ref a, v].length = ps.length := by rw [← r2.length]; exact F.len _ _ _ _ q
  have bd := hb s [Value.ref a, v] I.kIn (by rw [List.append_nil]; exact hl)
  rw [List.append_nil] at bd
  refine wpAny_call (codeAny_mono (F.run X.A X.stack s H ⟨[.ref a, v], []⟩ [.ref a, v] [.ref a, x] _ E hr I.env0 bd r2 q) fun rr s' z => ?_)
  match rr, z with
  | .error er, z => exact hx pins σ H s er s' I z
  | .ok (.ret w), z =>
    obtain ⟨v, H', I', rv, b, rfl, q'⟩ := I.after z
    cases rv
    exact wpAny_pure ⟨V.bl b, H', I', rfl, q'⟩
  | .ok .next, z => exact False.elim z
  | .ok .brk, z => exact False.elim z
  | .ok .cont, z => exact False.elim z
theorem op_ownNotIn (F : FnOk X.prog X.w X.K X.mg X.base CX k f fd ps sp) (hr : Room k X.A) (hs : PySem.W.findIn X.K (.ref C) "__contains__" = some (some (.ref f))) (hf : PySem.W.isFn X.K (.ref f) = true) (hb : L2.Binds X.K fd ps []) (hx : Passes CX X E) :
    OpR X (compareOp .NotIn) (rOwnIn C true sp E) := by
  intro pins s σ H x y v u Q I rx ry h
  obtain ⟨a, dx, fs, rfl, ha, q⟩ := h
  cases ry
  obtain ⟨mA, J, _⟩ := ins_get I.hok ha
  obtain ⟨od, J, _⟩ := J.look
  obtain ⟨m, hF⟩ := I.fr
  refine PySem.W.notIn_K hF I.ok.mod.kin J hs hf ?_
  have r2 : Vals [V.ref a, x] [Value.ref a, v] := .cons rfl (.cons rx .nil)
  have hl : [Value.ref a, v].length = ps.length := by rw [← r2.length]; exact F.len _ _ _ _ q
  have bd := hb s [Value.ref a, v] I.kIn (by rw [List.append_nil]; exact hl)
  rw [List.append_nil] at bd
  refine wpAny_call (codeAny_mono (F.run X.A X.stack s H ⟨[.ref a, v], []⟩ [.ref a, v] [.ref a, x] _ E hr I.env0 bd r2 q) fun rr s' z => ?_)
  match rr, z with
  | .error er, z => exact hx pins σ H s er s' I z
  | .ok (.ret w), z =>
    obtain ⟨v, H', I', rv, b, rfl, q'⟩ := I.after z
    cases rv
    exact wpAny_pure ⟨V.bl (!b), H', I', rfl, q'⟩
  | .ok .next, z => exact False.elim z
  | .ok .brk, z => exact False.elim z
  | .ok .cont, z => exact False.elim z
/-- a[b], a of an own class -/
def rOwnIx (C : Addr) (sp : Sp) (E : XK) : R2 := fun x y H Q => ∃ a dx fs, x = .ref a ∧ H a = some (.ins C dx fs) ∧ sp [.ref a, y] H Q E
theorem pe_ixOwn {a b : Expr} {ta tb : TE} {pos : Pos} (F : FnOk X.prog X.w X.K X.mg X.base CX k f fd ps sp) (hr : Room (k + 1) X.A) (hs : PySem.W.findIn X.K (.ref C) "__getitem__" = some (some (.ref f))) (hi : PySem.W.fnIn X.K f = true) (hf : PySem.W.isFn X.K (.ref f) = true) (hb0 : L2.Binds X.K fd ps []) (hx : Passes CX X E)
    (ha : PE X a ta) (hb : PE X b tb) (hsl : ∀ x i, subscripted b true (.ref x) i = runValue (.builtin "lifetime.subscript" ⟨[.ref x, i], []⟩) := by intros; with_unfolding_all rfl) : PE X (.Subscript a b pos) (tOp (rOwnIx C sp E) ta tb) := by
  refine ⟨fun pins s0 σ H0 Q I h => ?_⟩
  refine Subscript_ (binT ha hb I h fun v u s x y H I rx ry q => ?_)
  obtain ⟨p, dx, fs, rfl, hp, q⟩ := q
  cases rx
  obtain ⟨mA, J, _⟩ := ins_get I.hok hp
  obtain ⟨od, J, _⟩ := J.look
  obtain ⟨m, hF⟩ := I.fr
  refine PySem.W.sub_K hF I.ok.mod.kin J hs hi hf ?_ (hsl _ _)
  have r2 : Vals [V.ref p, y] [Value.ref p, u] := .cons rfl (.cons ry .nil)
  have hl : [Value.ref p, u].length = ps.length := by rw [← r2.length]; exact F.len _ _ _ _ q
  have bd := hb0 s [Value.ref p, u] I.kIn (by rw [List.append_nil]; exact hl)
  rw [List.append_nil] at bd
  refine wpAny_call (codeAny_mono (F.run X.A.in1 X.stack s H ⟨[.ref p, u], []⟩ [.ref p, u] [.ref p, y] Q E hr.in1 I.env0.in1 bd r2 q) fun rr s' z => ?_)
  match rr, z with
  | .error er, z => exact hx pins σ H s er s' I z
  | .ok (.ret w), z => exact I.after z
  | .ok .next, z => exact False.elim z
  | .ok .brk, z => exact False.elim z
  | .ok .cont, z => exact False.elim z
/-- len of an object of an own class -/
theorem call_lenOwn (F : FnOk X.prog X.w X.K X.mg X.base CX k f fd ps sp) (hr : Room (k + 1) X.A) (hs : PySem.W.findIn X.K (.ref C) "__len__" = some (some (.ref f))) (hf : PySem.W.isFn X.K (.ref f) = true) (hb : L2.Binds X.K fd ps []) (hx : Passes CX X E) :
    CallR X (.builtin "len") (fun xs H Q => ∃ a dx fs, xs = [.ref a] ∧ H a = some (.ins C dx fs) ∧ sp [.ref a] H (fun v H' => ∃ n : Int, v = .int n ∧ 0 ≤ n ∧ n < 2 ^ 63 ∧ Q (.int n) H') E) := by
  intro pins s σ H xs us Q I r h
  obtain ⟨a, dx, fs, rfl, ha, q⟩ := h
  obtain ⟨u, rfl, ru⟩ := vals1 r
  obtain rfl : u = Value.ref a := ru
  obtain ⟨mA, J, _⟩ := ins_get I.hok ha
  obtain ⟨od, J, _⟩ := J.look
  obtain ⟨m, hF⟩ := I.fr
  refine PySem.W.len_K hF I.ok.mod.kin J hs hf ?_
  have r2 : Vals [V.ref a] [Value.ref a] := .cons rfl .nil
  have hl : [Value.ref a].length = ps.length := by rw [← r2.length]; exact F.len _ _ _ _ q
  have bd := hb s [Value.ref a] I.kIn (by rw [List.append_nil]; exact hl)
  rw [List.append_nil] at bd
  refine wpAny_call (codeAny_mono (F.run X.A.in1 X.stack s H ⟨[.ref a], []⟩ [.ref a] [.ref a] _ E hr.in1 I.env0.in1 bd r2 q) fun rr s' z => ?_)
  match rr, z with
  | .error er, z => exact hx pins σ H s er s' I z
  | .ok (.ret w), z =>
    obtain ⟨v, H', I', rv, n, rfl, n0, n1, q'⟩ := I.after z
    obtain ⟨t, rfl⟩ := rv
    exact ⟨⟨n0, n1⟩, V.int n, H', I'.tok _, ⟨_, rfl⟩, q'⟩
  | .ok .next, z => exact False.elim z
  | .ok .brk, z => exact False.elim z
  | .ok .cont, z => exact False.elim z
end
end UL

set_option Elab.async false
set_option linter.all false
set_option maxRecDepth 100000
/-! own: a try with several clauses, each 'except C as n' with the same n -/
namespace UL
open PySem PySem.Spec PyProof.Rows L2 Evl TL

/-- the clauses, and what they wish together of an error of the body -/
inductive AsOk (X : Cx) (i : Nat) (n : Str) : List ExceptHandler → (WX → Ends → WX) → Prop
  | nil : AsOk X i n [] (fun W _ => W)
  | cons {y : Str} {k : Value} {su : Addr → Value → Option Addr → TS} {st : Stmt} {sts : List Stmt} {q q' : Pos} {rest : List ExceptHandler} {f : WX → Ends → WX} (cn : Names X y k)
      (run : ∀ (a : Addr) (ob : Obj) (cls : Value) (d : Option Addr) (ps : List (Addr × Obj)), Zc cls d ob → (∃ z, ob.data = .fields z) → PSs (X.suite a ((a, ob) :: ps)) (st :: sts) (su a cls d)) (tl : AsOk X i n rest f) :
      AsOk X i n (.ExceptHandler (some (.Name y q)) (some n) (st :: sts) q' :: rest) (fun W D => wAs X.K k i su (f W D) D)
section
variable {X : Cx} {n : Str} {i : Nat} {body : List Stmt} {c0 : ExceptHandler} {cs : List ExceptHandler} {f : WX → Ends → WX} {tb : WX → TS} {W0 : WX} {pos : Pos}
theorem ps_try_asMany (e1 : X.stack = X.env :: X.outer) (e2 : X.env.frame = some X.env.locals) (nd : X.N.Nodup) (at_ : X.N[i]? = some n) (lo : X.env.kindOf n = some .local) (tk : Takes X W0)
    (hb : ∀ (W : WX) (pn : List (Addr × Obj)) (xe : Value → Shared → Prop), Takes (X.tr pn xe) W → PassesOwn (model X.prog X.w) X.A X.env xe → PSs (X.tr pn xe) body (tb W)) (hc : AsOk X i n (c0 :: cs) f) :
    PS X (.Try body (c0 :: cs) [] [] pos) (fun D σ H => tb (f W0 D) D σ H) := by
  refine ⟨fun pins s σ H D I h => wpAny_Try_except ?_⟩
  have ok := I.ok
  have fr : X.A.frames = some (X.env :: X.outer) := ok.frames.trans (by rw [e1])
  refine wpAny_mono ((hb (f W0 D) (X.pn ++ pins) (fun e s₁ => wpAny (model X.prog X.w) X.A (noteFrame e X.env) (fun _ s₂ => wpAny (model X.prog X.w) X.A (setFlight e none) (fun _ s₃ =>
    wpAny (model X.prog X.w) X.A (handleBy e X.env (c0 :: cs)) (SP X pins D) X.xe s₃) X.xe s₂) X.xe s₁) (fun u t xx => ?_) PassesOwn.looking).run [] s σ H D (I.toTry _) h) (fun fl s1 q => ?_) (fun _ _ z => z)
  · obtain ⟨a, B, t0, pins1, σ1, H1, cls, d, rfl, J1, nb, up, sky, na, os, ag, wish⟩ := xx
    have J := J1.ofTry (pins := pins) ok
    show wpAny _ X.A (noteFrame (.ref a) X.env) _ _ _
    refine Sky.land Zc.steady fr e2 (by rw [← e1]; exact sky) fun h3 fl3 up3 => ?_
    have J3 := J.landed (s' := { t with heap := h3 }) nb fl3.1 (up.trans up3) os ag
    obtain ⟨o3, z3, g3, k3, d3⟩ := fl3.there
    have nfr : a ∉ frs (X.env :: X.outer) := fun hm => by
      obtain ⟨_, o4, g4, nf⟩ := fl3.2.2.1.mem hm
      rw [g3] at g4
      cases g4
      exact nf _ d3
    have nL : a ≠ X.env.locals := fun z => nfr (List.mem_filterMap.mpr ⟨X.env, List.mem_cons_self, by rw [e2, z]⟩)
    have nF : a ∉ X.fs := fun hm => by
      obtain ⟨v, hv, q⟩ := List.mem_filterMap.mp hm
      exact nfr (List.mem_filterMap.mpr ⟨v, List.mem_cons_of_mem _ hv, q⟩)
    have S3 := J3.suite g3 d3 na nL nF
    have down : ∀ {l : List ExceptHandler} {g : WX → Ends → WX}, AsOk X i n l g → g W0 D cls d σ1 H1 → wpAny (model X.prog X.w) X.A (handleBy (.ref a) X.env l) (SP X pins D) X.xe { t with heap := h3 } := by
      intro l g hl
      induction hl with
      | nil =>
        intro w
        refine wpAny_handleBy_nil ?_
        obtain ⟨_, _, _, _, _, T, _, _, gz, _, dz, slot, _⟩ := id fl3
        unfold PySem.passOn
        refine wpAny_bind (wpAny_field gz dz slot ?_)
        rw [if_neg (by simp)]
        have go : wpAny (model X.prog X.w) X.A (setFlight (.ref a) X.env.frame) (fun _ t4 => wpAny (model X.prog X.w) X.A (throw (.ref a) : Sem Flow) (SP X pins D) X.xe t4) X.xe { t with heap := h3 } := by
          rw [e2]
          exact HandSPX.setFlight_upZ fl3 fun h4 hh4 up4 => wpAny_throw (tk _ _ ⟨a, B, t0, pins, σ1, H1, cls, d, rfl, J, nb, (up.trans up3).trans up4, .inr (.inr (by rw [e1]; exact hh4)), na, os, ag, w⟩)
        first
          | exact wpAny_bind go
          | exact wpAny_bind (wpAny_pure (wpAny_bind go))
      | @cons y k su st sts q q' rest g cn run tl ih =>
        rintro ⟨b, hb1, yes, no⟩
        refine wpAny_handleBy_cons (codeAny_handlers_test ?_) (fun z => nomatch z)
        have ty : PySem.W.Looks (model X.prog X.w) h3 (typeOf (.ref a)) cls := fun A Q E s k q => wpAny_typeOf_ref (k _ _ g3) (by rw [k3.1]; exact q)
        have look := PySem.W.exm_one (M := model X.prog X.w) J3.kIn ty hb1
        have seen : ∀ {Q : Value → Shared → Prop} {E : Value → Shared → Prop}, Q k { t with heap := h3 } → wpAny (model X.prog X.w) (X.A.mark (some (.ref a))) (eval (.Name y q) X.env) Q E { t with heap := h3 } := fun {Q E} p => by
          obtain ⟨c1, c2, c3 | ⟨c3, c4, c5⟩⟩ := cn
          · exact ld_glob (X := X.suite a ((a, o3) :: (X.pn ++ pins))) S3 c1 c3 p c2
          · exact ld_blt (X := X.suite a ((a, o3) :: (X.pn ++ pins))) S3 c1 c3 c4 p c5 c2
        refine seen (look.here ?_)
        cases b with
        | false => exact ih (no rfl)
        | true =>
          refine codeAny_handlers_suite_as (HandSPX.lands_againZ fl3 fun h4 fl4 up4 => ?_)
          have J4 := J.landed (s' := { t with heap := h4 }) nb fl4.1 ((up.trans up3).trans up4) os ag
          obtain ⟨o4, z4, g4, k4, d4⟩ := fl4.there
          refine store_ok (X := X.suite a ((a, o4) :: (X.pn ++ pins))) (v := .ref a) (J4.suite g4 d4 na nL nF) nd at_ (.inl lo) rfl (fun t5 S5 => ?_) (.inr lo)
          refine wpAny_mono ((run a o4 cls d (X.pn ++ pins) k4 ⟨_, d4⟩).run [] t5 _ H1 _ S5 (yes rfl a na)) (fun fl t6 r => ?_) (fun _ _ z => z.elim)
          have fin : ∀ {σ6 : L2.St} {H6 : Hp} {Q : Shared → Prop}, Inv (X.suite a ((a, o4) :: (X.pn ++ pins))) [] σ6 H6 t6 → (∀ t7, Inv X pins (σ6.set i none) H6 t7 → Q t7) →
              wpAny (model X.prog X.w) X.A (do bindName X.env n .none; unbindBehindTheSuite X.env n q') (fun _ t7 => Q t7) X.xe t6 := fun {σ6 H6 Q} S6 p => gone_ok (S6.unsuite ok) nd at_ lo p
          cases fl with
          | ret u =>
            obtain ⟨v, σ6, H6, S6, rv, p⟩ := r
            exact fin S6 fun t7 J7 => ⟨v, _, _, J7, rv, p⟩
          | next =>
            obtain ⟨σ6, H6, S6, p⟩ := r
            exact fin S6 fun t7 J7 => ⟨_, _, J7, p⟩
          | brk =>
            obtain ⟨σ6, H6, S6, p⟩ := r
            exact fin S6 fun t7 J7 => ⟨_, _, J7, p⟩
          | cont =>
            obtain ⟨σ6, H6, S6, p⟩ := r
            exact fin S6 fun t7 J7 => ⟨_, _, J7, p⟩
    exact down hc wish
  · cases fl with
    | ret u =>
      obtain ⟨v, σ1, H1, J, rv, p⟩ := q
      exact ⟨v, _, _, J.ofTry ok, rv, p⟩
    | next =>
      obtain ⟨σ1, H1, J, p⟩ := q
      exact wpAny_execs_nil ⟨_, _, J.ofTry ok, p⟩
    | brk =>
      obtain ⟨σ1, H1, J, p⟩ := q
      exact ⟨_, _, J.ofTry ok, p⟩
    | cont =>
      obtain ⟨σ1, H1, J, p⟩ := q
      exact ⟨_, _, J.ofTry ok, p⟩
end
end UL

set_option Elab.async false
set_option linter.all false
set_option maxRecDepth 100000
/-! own: defs with a star, C() of such a class, an index in a try, iter of a tuple, list of an object whose __iter__ hands out such an iterator and that has a length -/
namespace UL
open PySem PySem.Spec PyProof.Rows L2 Evl TL

/-! ### a def with one parameter and a star -/
section
variable {P : Program} {w : World} {K : PySem.W.Frag} {mg : Str → Option Value} {base : Heap} {x qual : Str} {st : Stmt} {f : Addr} {fd : FuncData} {N : List Str} {a b : Str} {k : Nat} {sp : Sp}
/-- what the caller promises, from what the body wants -/
def spStar (sp : Sp) : Sp := fun vs H Q E => ∃ v rest, vs = v :: rest ∧ rest.length ≤ 1000 ∧ ∀ p, H p = none → sp [v, .ref p] (upd H p (.tup rest)) Q E
theorem starFn (F : L2.Fun K x qual st f fd) (S : FnScope N [a, b] (defScope st))
    (h0 : ∀ (kV doc pm : Value) (an : Option Addr) (cdv ct : Value) (v : Value), bindArgs (PySem.W.fnOf x qual (defArgs st) (defBody st) (defScope st) .none kV doc pm an cdv ct) ⟨[v], []⟩ = (newTuple [] >>= fun t => pure [(a, v), (b, t)]))
    (h1 : ∀ (kV doc pm : Value) (an : Option Addr) (cdv ct : Value) (v r : Value) (rs : List Value), bindArgs (PySem.W.fnOf x qual (defArgs st) (defBody st) (defScope st) .none kV doc pm an cdv ct) ⟨v :: r :: rs, []⟩ = (newTuple (r :: rs) >>= fun t => pure [(a, v), (b, t)]))
    (body : ∀ (cdv : Value) (A : Around) (outer : List Env) (s : Shared) (H : Hp) (vs : List V) (Q : VK) (E : XK), Room k (A.deeper (envOfC qual (defScope st) s.heap.objs.size f cdv)) → sp vs H Q E →
      ∃ t, PSs (cxOf (L2.CX P w) P w K mg base N qual (defScope st) f cdv A outer s H E) (defBody st) t ∧ t { nx := fun _ H' => Q .non H', rt := Q } (start N vs) H) : FnR P w K mg base (L2.CX P w) (k + 1) f (spStar sp) := by
  obtain ⟨oc, od, kV, doc, pm, an, cdv, ct, osl, rfl, lk, code⟩ := F.ex
  have R := StX.fn_star (ps := [a]) (pv := b) lk code S StX.cxUp (fun us rest hl => StX.bind_star1 (B := fun zs => bindArgs (PySem.W.fnOf x qual (defArgs st) (defBody st) (defScope st) .none kV doc pm an cdv ct) ⟨zs, []⟩) (h0 kV doc pm an cdv ct) (h1 kV doc pm an cdv ct) us rest hl) fun A outer s H vs Q E hr h => body cdv A outer s H vs Q E hr h
  refine R.imp fun vs H Q E h => ?_
  obtain ⟨v, rest, rfl, hz, q⟩ := h
  exact ⟨[v], rest, rfl, rfl, Nat.le_trans hz (by decide), q⟩
end
section
variable {X : Cx} {CX : CXT} {k : Nat} {f C : Addr} {sp : Sp} {E : XK} {x : Str} {p pos : Pos}
/-- C() -/
theorem pe_makeR0 (M : Mk X.K C f) (F : FnR X.prog X.w X.K X.mg X.base CX k f sp) (room : Room (k + 1) X.A) (g1 : Gl X x) (g2 : X.mg x = some (.ref C)) (out : Passes CX X E) (g3 : (x == ("__debug__" : Str)) = false := by decide) :
    PE X (.Call (.Name x p) [] [] pos) (StX.tMakeR C sp E tNil) :=
  ⟨fun pins s σ H Q I h => wpAny_Call_Name_kw (ld_glob I g1 g2 (PySem.W.callWith_K0 I.kIn M.kp (StX.run_makeR M F room out I .nil h)) g3)⟩
end

/-! ### a[b] of an own class where what is raised is wished for at the slots -/
def tIxOwnS (C : Addr) (sp : Sp) (E : L2.St → XK) (ta tb : TE) : TE := fun σ H Q => ta σ H fun x H1 => tb σ H1 fun y H2 => rOwnIx C sp (E σ) x y H2 Q
section
variable {X : Cx} {CX : CXT} {k : Nat} {f C : Addr} {fd : FuncData} {ps : List Str} {sp : Sp} {E : L2.St → XK}
theorem pe_ixOwnS {a b : Expr} {ta tb : TE} {pos : Pos} (F : FnOk X.prog X.w X.K X.mg X.base CX k f fd ps sp) (hr : Room (k + 1) X.A) (hs : PySem.W.findIn X.K (.ref C) "__getitem__" = some (some (.ref f))) (hi : PySem.W.fnIn X.K f = true) (hf : PySem.W.isFn X.K (.ref f) = true) (hb0 : L2.Binds X.K fd ps []) (out : ∀ σ, PassesAt CX X σ (E σ))
    (ha : PE X a ta) (hb : PE X b tb) (hsl : ∀ x i, subscripted b true (.ref x) i = runValue (.builtin "lifetime.subscript" ⟨[.ref x, i], []⟩) := by intros; with_unfolding_all rfl) : PE X (.Subscript a b pos) (tIxOwnS C sp E ta tb) := by
  refine ⟨fun pins s0 σ H0 Q I h => ?_⟩
  have h' : tOp (rOwnIx C sp (E σ)) ta tb σ H0 Q := h
  refine Subscript_ (binT ha hb I h' fun v u s x y H I rx ry q => ?_)
  obtain ⟨p, dx, fs, rfl, hp, q⟩ := q
  cases rx
  obtain ⟨_, J, _⟩ := ins_get I.hok hp
  obtain ⟨_, J, _⟩ := J.look
  obtain ⟨m, fr⟩ := I.fr
  refine PySem.W.sub_K fr I.ok.mod.kin J hs hi hf ?_ (hsl _ _)
  have r2 : Vals [V.ref p, y] [Value.ref p, u] := .cons rfl (.cons ry .nil)
  have n2 : [Value.ref p, u].length = ps.length := r2.length.symm.trans (F.len _ _ _ _ q)
  have bd := hb0 s [Value.ref p, u] I.kIn (by rw [List.append_nil]; exact n2)
  rw [List.append_nil] at bd
  refine wpAny_call (codeAny_mono (F.run X.A.in1 X.stack s H ⟨[.ref p, u], []⟩ [.ref p, u] [.ref p, y] Q (E σ) hr.in1 I.env0.in1 bd r2 q) fun rr s' z => ?_)
  match rr, z with
  | .error er, z => exact out σ pins H s er s' I z
  | .ok (.ret w), z => exact I.after z
  | .ok .next, z => exact False.elim z
  | .ok .brk, z => exact False.elim z
  | .ok .cont, z => exact False.elim z
end

/-- what leaves a call leaves the def, too -/
theorem passX {X : Cx} {E : XK} (tk : Takes X fun cls d _ H => E cls d H) : Passes (L2.CX X.prog X.w) X E := fun pins σ H s e s' I c => passAt (W := fun cls d _ H => E cls d H) tk σ pins H s e s' I c

/-! ### iter of a tuple -/
def ItTup (t it : Addr) (i : Nat) : HO := .ext fun h => h.IsTupleIter it t i
theorem itTup_ok {P : Program} {w : World} {H : Hp} {h : Heap} {t it : Addr} {i : Nat} (e : h.IsTupleIter it t i) : ObjOk P w H h it (ItTup t it i) :=
  ⟨e, let ⟨o, ho, _⟩ := e; ⟨o, ho⟩, fun _ _ ⟨o, ho, r⟩ k => ⟨o, k _ ho, r⟩⟩
section
variable {X : Cx}
def rIterT (K : PySem.W.Frag) : List V → Hp → VK → Prop := fun xs H Q => ∃ t zs, xs = [.ref t] ∧ SqT K H t zs ∧ ∀ it, H it = none → Q (.ref it) (upd H it (ItTup t it 0))
theorem call_iterT : CallR X (.builtin "iter") (rIterT X.K) := by
  intro pins s σ H xs us Q I r h
  obtain ⟨t, zs, rfl, hq, q⟩ := h
  obtain ⟨u, rfl, ru⟩ := vals1 r
  cases ru
  obtain ⟨its, rv, pl, hz⟩ := I.tuple hq
  refine Calls.call_function_entry (by decide +kernel) (by decide +kernel) PySem.W.kdk_entry_iter (PySem.W.kdk_args_iter _) ?_
  unfold Builtin.«iter»
  refine wpAny_bind (m := someArgs "iter" 1 2 _) (wpAny_of_eq (a := [Value.ref t]) (by first | rfl | kernel_rfl!) ?_)
  show wpAny _ _ (pyIter (.ref t) >>= _) _ _ s
  refine wpAny_bind (wpAny_pyIter_tuple pl (wpAny_pure ⟨_, rfl, ?_⟩))
  exact ⟨.ref s.heap.objs.size, _, I.laid (t' := s.toks) (fun _ _ e => Heap.get?_push_of_some _ e) (Nat.le_refl _) (itTup_ok ⟨_, Heap.get?_push_size _ rfl, rfl, rfl⟩), rfl, q _ (I.hok.fresh (Nat.le_refl _))⟩
end

/-! ### list of such an object -/
structure ItL (K : PySem.W.Frag) (C fi fl : Addr) : Prop where
  it : PySem.W.findIn K (.ref C) "__iter__" = some (some (.ref fi))
  itF : PySem.W.isFn K (.ref fi) = true
  ln : PySem.W.findIn K (.ref C) "__len__" = some (some (.ref fl))
  lnF : PySem.W.isFn K (.ref fl) = true
section
variable {X : Cx} {pins : List (Addr × Obj)} {σ : L2.St} {H : Hp} {s : Shared} {A1 : Around} {t it q : Addr} {zs : List V}
/-- the turns: the iterator hands out what is left, the list grows -/
theorem itT_loop {R : Result → Shared → Prop} (calm : A1.in1.handled = none) (ex0 : X.ex = []) (hz : zs.length ≤ sizeLine) (nq : it ≠ q) (old : Fr0 X.H_0 it)
    (fin : ∀ (H' : Hp) s', Inv X pins σ (delH H' it) s' → H' q = some (.lst zs) → (∀ b, b ≠ it → b ≠ q → H' b = H b) → R (.ok (.ret .none)) s') :
    ∀ (n i : Nat) (H' : Hp) (s' : Shared), zs.length - i = n → i ≤ zs.length → Inv X pins σ H' s' → H' it = some (ItTup t it i) → H' q = some (.lst (zs.take i)) → SqT X.K H' t zs → t ≠ it → t ≠ q → (∀ b, b ≠ it → b ≠ q → H' b = H b) →
      codeAny (model X.prog X.w) A1 (.builtin "list.extend.loop" ⟨[.ref q, .ref it, .none], []⟩) R s' := by
  intro n
  induction n with
  | zero =>
    intro i H' s' hn hi I hit hq ht n1 n2 same
    obtain rfl : i = zs.length := by omega
    refine codeAny_builtin PySem.F.entry_extend_loop ?_
    rw [Around.under_plainId PySem.F.plain_extend_loop _]
    show wpAny _ A1.in1 (pyNext (.ref it) >>= _) _ _ s'
    obtain ⟨its, rv, pl, _⟩ := I.tuple ht
    refine wpAny_bind (wpAny_pyNext_tuple_end calm (I.hok it _ hit).1 pl (by rw [List.getElem?_toArray]; exact rv.none_of (List.getElem?_eq_none (Nat.le_refl _))) fun h' eb => ?_)
    obtain ⟨G, g1, g2, J⟩ := I.untrack hit old ex0
    have J2 : Inv X pins σ (delH H' it) { s' with heap := h' } := J.kept (h' := h') (t' := s'.toks) fun b o e => eb b o (fun z => by rw [z, g2] at e; cases e) (g1 b o e)
    exact wpAny_pure (fin H' _ J2 (by rw [hq, List.take_length]) same)
  | succ n ih =>
    intro i H' s' hn hi I hit hq ht n1 n2 same
    have hlt : i < zs.length := by omega
    refine codeAny_builtin PySem.F.entry_extend_loop ?_
    rw [Around.under_plainId PySem.F.plain_extend_loop _]
    show wpAny _ A1.in1 (pyNext (.ref it) >>= _) _ _ s'
    obtain ⟨its, rv, pl, _⟩ := I.tuple ht
    obtain ⟨u, hu, ru⟩ := rv.get (List.getElem?_eq_getElem hlt)
    refine wpAny_bind (wpAny_pyNext_tuple_item (I.hok it _ hit).1 pl (by rw [List.getElem?_toArray]; exact hu) fun h' e' sb => ?_)
    have J : Inv X pins σ (upd H' it (ItTup t it (i + 1))) { s' with heap := h' } := I.write (x := it) (e := it) (t' := s'.toks) (by rw [hit]; exact True.intro) (.inl rfl) (fun b o nb z => (sb.2 b nb).trans z) (let ⟨o, ho, _⟩ := e'; ⟨o, ho⟩) (itTup_ok e')
    have hq2 : upd H' it (ItTup t it (i + 1)) q = some (.lst (zs.take i)) := by rw [upd_ne (Ne.symm nq)]; exact hq
    obtain ⟨z, ls, k, r2, hl, e⟩ := J.lstM hq2
    have len : zs.take i = zs.take i := rfl
    have hl2 : (zs.take i).length = i := by rw [List.length_take]; omega
    have nx : zs.take i ++ [zs[i]] = zs.take (i + 1) := by rw [List.take_add_one, List.getElem?_eq_getElem hlt]; rfl
    show wpAny _ A1.in1 (updateSeq q (·.push u) >>= _) _ _ _
    refine wpAny_bind (wpAny_updateSeq e rfl (wpAny_pure ⟨plainId_quiet PySem.F.plain_extend_loop _, ?_⟩) (by rw [List.size_toArray]; omega) (by show (ls.toArray.push u).size ≤ sizeLine + 1; rw [Array.size_push, List.size_toArray]; omega))
    have J2 := J.lset (f := (·.push u)) (its' := ls ++ [u]) (ys := zs.take (i + 1)) (t' := s'.toks) hq2 e (by simp) (by rw [← nx]; exact r2.append (.cons ru .nil)) (by rw [List.length_take]; omega)
    refine ih (i + 1) _ _ (by omega) (by omega) J2 ?_ upd_same ?_ n1 n2 ?_
    · rw [upd_ne nq, upd_same]
    · rcases ht with (h | ⟨o, h⟩) | h
      · exact .inl (.inl (by rw [upd_ne n2, upd_ne n1]; exact h))
      · exact .inl (.inr ⟨o, by rw [upd_ne n2, upd_ne n1]; exact h⟩)
      · exact .inr h
    · intro b b1 b2
      rw [upd_ne b2, upd_ne b1]
      exact same b b1 b2
end
section
variable {X : Cx} {pins : List (Addr × Obj)} {σ : L2.St} {H : Hp} {s : Shared} {CI : CXT} {C fi fl a : Addr} {fdI fdL : FuncData} {psI psL : List Str} {spI spL : Sp} {EI EL : XK} {n : Nat} {A1 : Around}
/-- below the running body: the environment of a call -/
theorem env0_sub (sb : Sub X n A1) (I : Inv X pins σ H s) : Env0 X.prog X.w X.K X.mg X.base A1 X.stack s H := by
  have e := I.env0
  exact ⟨sb.fr.trans e.frames, e.mod, e.bs, e.bsz, e.funs, e.frf, e.hok, e.bare⟩
/-- the length is asked for: whatever is said of it -/
theorem lenHint {Q : Bool → Shared → Prop} {dx : Addr} {fs : List (Str × V)} {m : Int} (sb : Sub X n A1.in1) (hc : ItL X.K C fi fl) (FL : FnOk X.prog X.w X.K X.mg X.base CX0 n fl fdL psL spL) (bL : L2.Binds X.K fdL psL []) 
    (I : Inv X pins σ H s) (ha : H a = some (.ins C dx fs)) (hm : 0 ≤ m ∧ m ≤ 1000) (hsp : spL [.ref a] H (fun v H' => v = .int m ∧ H' = H) EL) (k : ∀ b s', Inv X pins σ H s' → Q b s') :
    wpAny (model X.prog X.w) A1 (Builtin.List.listLengthHint (.ref a)) Q X.xe s := by
  obtain ⟨_, J, _⟩ := ins_get I.hok ha
  obtain ⟨_, J, _⟩ := J.look
  obtain ⟨_, fr⟩ := I.fr
  unfold Builtin.List.listLengthHint
  refine wpAny_bind (wpAny_bind (J.type.here ((PySem.W.looks_findIn I.kIn hc.ln).here ?_)))
  refine PySem.W.KFB.if_not rfl ?_
  refine wpAny_ite_split (fun _ => ?_) (fun z => absurd rfl z)
  refine wpAny_bind (wpAny_rule (wpAny_bind (wpAny_attempt (PySem.W.len_K fr I.ok.mod.kin J hc.ln hc.lnF ?_))))
  have r2 : Vals [V.ref a] [Value.ref a] := .cons rfl .nil
  have n2 : [Value.ref a].length = psL.length := r2.length.symm.trans (FL.len _ _ _ _ hsp)
  have bd := bL s [Value.ref a] I.kIn (by rw [List.append_nil]; exact n2)
  rw [List.append_nil] at bd
  refine wpAny_call (codeAny_mono (FL.run A1.in1 X.stack s H ⟨[.ref a], []⟩ [.ref a] [.ref a] _ EL sb.room (env0_sub sb I) bd r2 hsp) fun rr s' z => ?_)
  match rr, z with
  | .error er, z => exact False.elim z
  | .ok (.ret w), z =>
    obtain ⟨v, H', I', rv, rfl, rfl⟩ := I.after z
    obtain ⟨t, rfl⟩ := rv
    refine ⟨⟨hm.1, by omega⟩, ?_⟩
    refine wpAny_bind (wpAny_pure ?_)
    refine wpAny_ite_split (fun z => ?_) (fun _ => wpAny_pure (k _ _ (I'.tok _)))
    rw [notLongL (Nat.le_trans (by omega : m.toNat ≤ 1000) (by decide))] at z
    cases z
  | .ok .next, z => exact False.elim z
  | .ok .brk, z => exact False.elim z
  | .ok .cont, z => exact False.elim z
/-- what list(o) asks: the two methods' promises, at any heap that has all that stands now -/
def rListOwnT (K : PySem.W.Frag) (H0 : Hp) (C : Addr) (spI spL : Sp) (EI EL : XK) : List V → Hp → VK → Prop := fun xs H Q => ∃ a dx fs t zs, xs = [.ref a] ∧ H a = some (.ins C dx fs) ∧ H t = some (.tup zs) ∧ zs.length ≤ 1000 ∧
  (∀ H', Ex H H' → spI [.ref a] H' (fun v H2 => ∃ it, v = .ref it ∧ H' it = none ∧ Fr0 H0 it ∧ H2 = upd H' it (ItTup t it 0)) EI) ∧ (∀ H', Ex H H' → spL [.ref a] H' (fun v H2 => v = .int (zs.length : Int) ∧ H2 = H') EL) ∧ ∀ q, H q = none → Q (.ref q) (upd H q (.lst zs))
theorem call_listOwnT (calm : X.calm = true) (ex0 : X.ex = []) (hc : ItL X.K C fi fl) (FI : FnOk X.prog X.w X.K X.mg X.base CX0 n fi fdI psI spI) (bI : L2.Binds X.K fdI psI []) (FL : FnOk X.prog X.w X.K X.mg X.base CX0 n fl fdL psL spL) (bL : L2.Binds X.K fdL psL []) (room : Room (n + 3) X.A) :
    CallR X (.type "list") (rListOwnT X.K X.H_0 C spI spL EI EL) := by
  intro pins s σ H xs us Q I rv h
  obtain ⟨a, dx, fs, t, zs, rfl, ha, ht, hz, hI, hL, hq⟩ := h
  obtain ⟨u, rfl, ru⟩ := rv.one
  cases ru
  have sb3 : Sub X (n + 3) X.A := ⟨room, rfl⟩
  have sb1 : Sub X (n + 1) X.A.in1.in1 := sb3.in1.in1
  have sb0 : Sub X n X.A.in1.in1.in1 := sb1.in1
  have fr : H s.heap.objs.size = none := I.hok.fresh (Nat.le_refl _)
  generalize eq : s.heap.objs.size = q at fr
  refine callType_codes (Q₁ := fun ob s1 => ob = .ref s.heap.objs.size ∧ s1 = { s with heap := s.heap.push { cls := .type "list", data := .seq #[] } }) PySem.F.called_list (PySem.F.typeCall_list_1 _) PySem.F.entry_list_init (code_list_new _ ⟨rfl, rfl⟩) fun ob s1 e1 => ?_
  obtain ⟨rfl, rfl⟩ := e1
  have g0 : (s.heap.push { cls := .type "list", data := .seq #[] }).get? s.heap.objs.size = some { cls := .type "list", data := .seq #[] } := Heap.get?_push_size _ rfl
  refine ⟨⟨_, g0, rfl⟩, PySem.F.args_list_init_2 _ _, ?_⟩
  have I1 : Inv X pins σ (upd H s.heap.objs.size (.lst [])) { s with heap := s.heap.push { cls := .type "list", data := .seq #[] } } := I.lnew (its := []) (t' := s.toks) .nil (Nat.zero_le _)
  show wpAny _ _ (do let old ← Builtin.List.listItems (.ref s.heap.objs.size); Builtin.List.listUpdate (.ref s.heap.objs.size) (fun _ => #[]); letGo old.toList.reverse; Builtin.List.listExtendWith (.ref s.heap.objs.size) (.ref a) .none) _ _ _
  unfold Builtin.List.listItems
  refine wpAny_bind (wpAny_bind (wpAny_seqItems g0 rfl (wpAny_pure ?_)))
  have I2 := I1.lset (f := fun _ => #[]) (its := []) (its' := []) (ys := []) (t' := s.toks) upd_same g0 rfl .nil (Nat.zero_le _)
  rw [upd_upd] at I2
  show wpAny _ _ (updateSeq s.heap.objs.size (fun _ => #[]) >>= fun _ => letGo (#[] : Array Value).toList.reverse >>= fun _ => Builtin.List.listExtendWith (.ref s.heap.objs.size) (.ref a) .none) _ _ _
  refine wpAny_bind (wpAny_updateSeq g0 rfl (wpAny_bind (wpAny_letGo ?_)))
  rw [eq] at I2 ⊢
  have ex : Ex H (upd H q (.lst [])) := Ex.new fr
  have ha2 := ex _ _ ha
  have nqa : q ≠ a := fun z => by rw [← z, fr] at ha; cases ha
  obtain ⟨_, J, _⟩ := ins_get I2.hok ha2
  obtain ⟨_, J, _⟩ := J.look
  obtain ⟨_, frm⟩ := I2.fr
  unfold Builtin.List.listExtendWith
  refine wpAny_bind (J.type.here ?_)
  have b1 : Builtin.List.listSameRef (.ref q) (.ref a) = false := by simp [Builtin.List.listSameRef, nqa]
  have b2 : (Value.ref C == Value.type "list") = false := rfl
  have b3 : (Value.ref C == Value.type "tuple") = false := rfl
  simp only [b1, b2, b3, Bool.or_false, Bool.false_eq_true, if_false]
  refine wpAny_bind (PySem.W.owit_iter frm I2.ok.mod.kin J hc.it hc.itF ?_)
  have q1 := hI _ ex
  have r2 : Vals [V.ref a] [Value.ref a] := .cons rfl .nil
  have n2 : [Value.ref a].length = psI.length := r2.length.symm.trans (FI.len _ _ _ _ q1)
  have bd := bI _ [Value.ref a] I2.kIn (by rw [List.append_nil]; exact n2)
  rw [List.append_nil] at bd
  refine wpAny_call (codeAny_mono (FI.run X.A.in1.in1 X.stack _ _ ⟨[.ref a], []⟩ [.ref a] [.ref a] _ EI (sb1.mono (Nat.le_succ n)).room (env0_sub (sb1.mono (Nat.le_succ n)) I2) bd r2 q1) fun rr s' z => ?_)
  match rr, z with
  | .error er, z => exact False.elim z
  | .ok .next, z => exact False.elim z
  | .ok .brk, z => exact False.elim z
  | .ok .cont, z => exact False.elim z
  | .ok (.ret w), z =>
    obtain ⟨v, H', I3, rv, it, rfl, hit, old, rfl⟩ := I2.after z
    cases rv
    have nit : it ≠ q := fun z => by rw [z, upd_same] at hit; cases hit
    have hitH : H it = none := by rw [upd_ne nit] at hit; exact hit
    have ex3 : Ex (upd H q (.lst [])) (upd (upd H q (.lst [])) it (ItTup t it 0)) := Ex.new hit
    have hT : s'.TypeIs (.ref it) "tuple_iterator" := by
      obtain ⟨o, ho, hc, _⟩ := (I3.hok it _ upd_same).1
      exact ⟨o, ho, hc⟩
    unfold PySem.W.OwitIt
    refine wpAny_specialOf hT PySem.F.slot_tuple_iterator_next.lookup ?_
    refine wpAny_bind (wpAny_holding (lenHint (m := (zs.length : Int)) sb0 hc FL bL I3 (ex3 _ _ ha2) ⟨by omega, by omega⟩ (hL _ (ex.trans ex3)) fun b s4 I4 => ?_))
    have nta : t ≠ it ∧ t ≠ q := ⟨ne_of_none ht hitH, ne_of_none ht fr⟩
    have go : ∀ s5, Inv X pins σ (upd (upd H q (.lst [])) it (ItTup t it 0)) s5 → codeAny (model X.prog X.w) X.A.in1 (.builtin "list.extend.loop" ⟨[.ref q, .ref it, .none], []⟩) (wants (fun r s₂ => r = .none ∧ EP X pins σ Q (.ref q) s₂) X.xe) s5 := fun s5 I5 => by
      refine itT_loop (A1 := X.A.in1) (R := wants (fun r s₂ => r = .none ∧ EP X pins σ Q (.ref q) s₂) X.xe) (H := upd H q (.lst [])) (show X.A.in1.in1.handled = none from I.ok.hd calm) ex0 (by rw [sizeLine_eq]; omega) nit old (fun H6 s6 I6 e6 k6 => ⟨rfl, .ref q, _, I6, rfl, ?_⟩) zs.length 0 _ s5 rfl (Nat.zero_le _) I5 upd_same ?_ ?_ nta.1 nta.2 (fun b b1 b2 => by rw [upd_ne b1])
      · have e : delH H6 it = upd H q (.lst zs) := by
          funext b
          by_cases h1 : b = it
          · rw [h1, upd_ne nit, hitH]
            exact if_pos rfl
          · rw [show delH H6 it b = H6 b from if_neg h1]
            by_cases h2 : b = q
            · rw [h2, upd_same, e6]
            · rw [k6 b h1 h2, upd_ne h2, upd_ne h2]
        rw [e]
        exact hq q fr
      · rw [upd_ne (Ne.symm nit), upd_same]
        rfl
      · exact SqT.of ((ex.trans ex3) _ _ ht)
    have h4q : upd (upd H q (.lst [])) it (ItTup t it 0) q = some (.lst []) := by rw [upd_ne (Ne.symm nit), upd_same]
    refine wpAny_ite_split (fun _ => ?_) (fun _ => wpAny_pure ⟨plainId_quiet PySem.F.plain_extend_loop _, go s4 I4⟩)
    refine wpAny_bind (wpAny_rule (wpAny_bind ?_))
    show wpAny _ _ (updateSeq q (·.push .none) >>= fun _ => updateSeq q (·.pop)) _ _ _
    obtain ⟨_, ls, k, r5, _, g5⟩ := I4.lstM h4q
    cases r5
    refine wpAny_bind (wpAny_updateSeq g5 rfl ?_)
    have I6 := I4.lset (f := (·.push Value.none)) (its' := [Value.none]) (ys := [.non]) (t' := s4.toks) h4q g5 (by simp) (.cons rfl .nil) (by rw [List.length_singleton, sizeLine_eq]; decide)
    obtain ⟨_, ls6, k6, r6, _, g6⟩ := I6.lstM upd_same
    obtain ⟨u6, rfl, _⟩ := r6.one
    refine wpAny_updateSeq g6 rfl ?_ (by show 1 ≤ sizeLine; rw [sizeLine_eq]; decide) (by show 0 ≤ sizeLine + 1; exact Nat.zero_le _)
    have I7 := I6.lset (f := (·.pop)) (its := [u6]) (its' := []) (ys := []) (t' := s4.toks) upd_same g6 (by rfl) .nil (Nat.zero_le _)
    rw [upd_upd, upd_id h4q] at I7
    exact wpAny_pure ⟨plainId_quiet PySem.F.plain_extend_loop _, go _ I7⟩
end
/-! ### lists by their length -/
theorem len1 {α : Type} {xs : List α} (h : xs.length = 1) : ∃ a0, xs = [a0] := by
  obtain ⟨a0, t0, rfl⟩ := List.exists_cons_of_length_eq_add_one h; have h1 := Nat.succ.inj h
  obtain rfl := List.eq_nil_of_length_eq_zero h1
  exact ⟨_, rfl⟩
theorem len2 {α : Type} {xs : List α} (h : xs.length = 2) : ∃ a0 a1, xs = [a0, a1] := by
  obtain ⟨a0, t0, rfl⟩ := List.exists_cons_of_length_eq_add_one h; have h1 := Nat.succ.inj h; obtain ⟨a1, t1, rfl⟩ := List.exists_cons_of_length_eq_add_one h1; have h2 := Nat.succ.inj h1
  obtain rfl := List.eq_nil_of_length_eq_zero h2
  exact ⟨_, _, rfl⟩
theorem len3 {α : Type} {xs : List α} (h : xs.length = 3) : ∃ a0 a1 a2, xs = [a0, a1, a2] := by
  obtain ⟨a0, t0, rfl⟩ := List.exists_cons_of_length_eq_add_one h; have h1 := Nat.succ.inj h; obtain ⟨a1, t1, rfl⟩ := List.exists_cons_of_length_eq_add_one h1; have h2 := Nat.succ.inj h1; obtain ⟨a2, t2, rfl⟩ := List.exists_cons_of_length_eq_add_one h2; have h3 := Nat.succ.inj h2
  obtain rfl := List.eq_nil_of_length_eq_zero h3
  exact ⟨_, _, _, rfl⟩
theorem len4 {α : Type} {xs : List α} (h : xs.length = 4) : ∃ a0 a1 a2 a3, xs = [a0, a1, a2, a3] := by
  obtain ⟨a0, t0, rfl⟩ := List.exists_cons_of_length_eq_add_one h; have h1 := Nat.succ.inj h; obtain ⟨a1, t1, rfl⟩ := List.exists_cons_of_length_eq_add_one h1; have h2 := Nat.succ.inj h1; obtain ⟨a2, t2, rfl⟩ := List.exists_cons_of_length_eq_add_one h2; have h3 := Nat.succ.inj h2; obtain ⟨a3, t3, rfl⟩ := List.exists_cons_of_length_eq_add_one h3; have h4 := Nat.succ.inj h3
  obtain rfl := List.eq_nil_of_length_eq_zero h4
  exact ⟨_, _, _, _, rfl⟩
theorem len5 {α : Type} {xs : List α} (h : xs.length = 5) : ∃ a0 a1 a2 a3 a4, xs = [a0, a1, a2, a3, a4] := by
  obtain ⟨a0, t0, rfl⟩ := List.exists_cons_of_length_eq_add_one h; have h1 := Nat.succ.inj h; obtain ⟨a1, t1, rfl⟩ := List.exists_cons_of_length_eq_add_one h1; have h2 := Nat.succ.inj h1; obtain ⟨a2, t2, rfl⟩ := List.exists_cons_of_length_eq_add_one h2; have h3 := Nat.succ.inj h2; obtain ⟨a3, t3, rfl⟩ := List.exists_cons_of_length_eq_add_one h3; have h4 := Nat.succ.inj h3; obtain ⟨a4, t4, rfl⟩ := List.exists_cons_of_length_eq_add_one h4; have h5 := Nat.succ.inj h4
  obtain rfl := List.eq_nil_of_length_eq_zero h5
  exact ⟨_, _, _, _, _, rfl⟩
theorem len12 {α : Type} {xs : List α} (h : xs.length = 12) : ∃ a0 a1 a2 a3 a4 a5 a6 a7 a8 a9 a10 a11, xs = [a0, a1, a2, a3, a4, a5, a6, a7, a8, a9, a10, a11] := by
  obtain ⟨a0, t0, rfl⟩ := List.exists_cons_of_length_eq_add_one h; have h1 := Nat.succ.inj h; obtain ⟨a1, t1, rfl⟩ := List.exists_cons_of_length_eq_add_one h1; have h2 := Nat.succ.inj h1; obtain ⟨a2, t2, rfl⟩ := List.exists_cons_of_length_eq_add_one h2; have h3 := Nat.succ.inj h2; obtain ⟨a3, t3, rfl⟩ := List.exists_cons_of_length_eq_add_one h3; have h4 := Nat.succ.inj h3; obtain ⟨a4, t4, rfl⟩ := List.exists_cons_of_length_eq_add_one h4; have h5 := Nat.succ.inj h4; obtain ⟨a5, t5, rfl⟩ := List.exists_cons_of_length_eq_add_one h5; have h6 := Nat.succ.inj h5; obtain ⟨a6, t6, rfl⟩ := List.exists_cons_of_length_eq_add_one h6; have h7 := Nat.succ.inj h6; obtain ⟨a7, t7, rfl⟩ := List.exists_cons_of_length_eq_add_one h7; have h8 := Nat.succ.inj h7; obtain ⟨a8, t8, rfl⟩ := List.exists_cons_of_length_eq_add_one h8; have h9 := Nat.succ.inj h8; obtain ⟨a9, t9, rfl⟩ := List.exists_cons_of_length_eq_add_one h9; have h10 := Nat.succ.inj h9; obtain ⟨a10, t10, rfl⟩ := List.exists_cons_of_length_eq_add_one h10; have h11 := Nat.succ.inj h10; obtain ⟨a11, t11, rfl⟩ := List.exists_cons_of_length_eq_add_one h11; have h12 := Nat.succ.inj h11
  obtain rfl := List.eq_nil_of_length_eq_zero h12
  exact ⟨_, _, _, _, _, _, _, _, _, _, _, _, rfl⟩
theorem len13 {α : Type} {xs : List α} (h : xs.length = 13) : ∃ a0 a1 a2 a3 a4 a5 a6 a7 a8 a9 a10 a11 a12, xs = [a0, a1, a2, a3, a4, a5, a6, a7, a8, a9, a10, a11, a12] := by
  obtain ⟨a0, t0, rfl⟩ := List.exists_cons_of_length_eq_add_one h; have h1 := Nat.succ.inj h; obtain ⟨a1, t1, rfl⟩ := List.exists_cons_of_length_eq_add_one h1; have h2 := Nat.succ.inj h1; obtain ⟨a2, t2, rfl⟩ := List.exists_cons_of_length_eq_add_one h2; have h3 := Nat.succ.inj h2; obtain ⟨a3, t3, rfl⟩ := List.exists_cons_of_length_eq_add_one h3; have h4 := Nat.succ.inj h3; obtain ⟨a4, t4, rfl⟩ := List.exists_cons_of_length_eq_add_one h4; have h5 := Nat.succ.inj h4; obtain ⟨a5, t5, rfl⟩ := List.exists_cons_of_length_eq_add_one h5; have h6 := Nat.succ.inj h5; obtain ⟨a6, t6, rfl⟩ := List.exists_cons_of_length_eq_add_one h6; have h7 := Nat.succ.inj h6; obtain ⟨a7, t7, rfl⟩ := List.exists_cons_of_length_eq_add_one h7; have h8 := Nat.succ.inj h7; obtain ⟨a8, t8, rfl⟩ := List.exists_cons_of_length_eq_add_one h8; have h9 := Nat.succ.inj h8; obtain ⟨a9, t9, rfl⟩ := List.exists_cons_of_length_eq_add_one h9; have h10 := Nat.succ.inj h9; obtain ⟨a10, t10, rfl⟩ := List.exists_cons_of_length_eq_add_one h10; have h11 := Nat.succ.inj h10; obtain ⟨a11, t11, rfl⟩ := List.exists_cons_of_length_eq_add_one h11; have h12 := Nat.succ.inj h11; obtain ⟨a12, t12, rfl⟩ := List.exists_cons_of_length_eq_add_one h12; have h13 := Nat.succ.inj h12
  obtain rfl := List.eq_nil_of_length_eq_zero h13
  exact ⟨_, _, _, _, _, _, _, _, _, _, _, _, _, rfl⟩
end UL

set_option Elab.async false
set_option linter.all false
set_option maxRecDepth 100000
/-! own: enumerate of a text, C(e) with C in a local name, a written dict of numbers by text -/
namespace UL
open PySem PySem.Spec PyProof.Rows L2 Evl TL

/-! ### enumerate(text) -/
def Ites (x : Str) : It :=
  ⟨fun i _ => i < x.cps.size, fun i H v H' => ∃ T c, v = .ref T ∧ H T = none ∧ H' = upd H T (.tup [.int (i : Nat), .str ⟨#[c]⟩]) ∧ x.cps[i]? = some c, fun i _ => i = x.cps.size⟩
theorem turn_enumS {P : Program} {w : World} {K : PySem.W.Frag} {elts : List Expr} {kk : Nat} {tpos : Pos} (x : Str) (t : Tok) (ty : String) (hty : ty = "str_ascii_iterator" ∨ ty = "str_iterator") (e it : Addr) :
    Turn P w K (.Tuple elts kk tpos) (Ites x) [e, it] e (fun i h => (∃ old, IsEnum h e it ((i : Nat) : Int) old) ∧ h.IsStrIter it ty x t i ∧ e ≠ it) where
  mem := by simp
  obj := fun i h st b hb => by
    obtain ⟨⟨old, he⟩, ⟨o, ho, hc, hd⟩, _⟩ := st
    have e' : b = e ∨ b = it := by simpa using hb
    rcases e' with z | z
    · rw [z]; exact ⟨_, he, fun v q => nomatch q⟩
    · rw [z]; exact ⟨o, ho, fun v q => by rw [hd] at q; cases q⟩
  keep := fun i h h' st k => let ⟨⟨old, he⟩, ⟨o, ho, r⟩, hne⟩ := st; ⟨⟨old, k e (by simp) _ he⟩, ⟨o, k it (by simp) o ho, r⟩, hne⟩
  item := by
    intro X hP hw hK hc i pins s σ H E I hf st hg
    subst hP hw hK
    obtain ⟨⟨old, he⟩, hit, hne⟩ := st
    have hel : e < s.heap.objs.size := Heap.lt_size he
    have hil : it < s.heap.objs.size := by obtain ⟨_, q, _⟩ := hit; exact Heap.lt_size q
    have D : Draws X.prog X.w X.A.in1 it [it] x.cps.size (fun i v => ∃ c u, x.cps[i]? = some c ∧ v = .str ⟨#[c]⟩ u) (fun i h => h.IsStrIter it ty x t i) := by
      rcases hty with q | q
      · rw [q]; exact Draws.strAscii (A := X.A.in1) (I.ok.hd hc) it x t
      · rw [q]; exact Draws.strWide (A := X.A.in1) (I.ok.hd hc) it x t
    refine wpAny_pyNext_enum_itemD D he hit hg hne (fun q => hne (by simpa using q)) fun u h' tk hP ho hit' hT hsz hk => ?_
    obtain ⟨c, tu, hcx, rfl⟩ := hP
    refine ⟨_, rfl, wpAny_letOwnedTupleGo_enum (s := { s with heap := h', toks := tk + 1 }) ho fun h'' he' sb => ?_⟩
    have hT2 : h''.get? s.heap.objs.size = some { cls := .type "tuple", data := .seq #[.int i tk, .str ⟨#[c]⟩ tu] } := (sb.2 _ (Nat.ne_of_gt hel)).trans hT
    have new : ObjOk X.prog X.w (upd H s.heap.objs.size (.tup [.int (i : Nat), .str ⟨#[c]⟩])) h'' s.heap.objs.size (.tup [.int (i : Nat), .str ⟨#[c]⟩]) :=
      ⟨by show 2 ≤ sizeLine; decide, [.int i tk, .str ⟨#[c]⟩ tu], .cons ⟨_, rfl⟩ (.cons ⟨_, rfl⟩ .nil), ⟨_, hT2, rfl, _, rfl⟩⟩
    have I1 : Inv X pins σ (upd H s.heap.objs.size (.tup [.int (i : Nat), .str ⟨#[c]⟩])) { s with heap := h'', toks := tk + 1 } :=
      I.turnedNew (ch := [e, it]) (fun b ob hb q => (sb.2 b (fun z => hb (by simp [z]))).trans (hk b ob (fun z => hb (by simp [z])) (fun z => hb (by simp [z])) q)) hf (Nat.le_refl _) new
    refine ⟨.ref s.heap.objs.size, _, I1, rfl, ⟨_, c, rfl, I.hok.fresh (Nat.le_refl _), rfl, hcx⟩, ⟨⟨.str ⟨#[c]⟩ tu, ?_⟩, ?_, hne⟩, fun b hb => ?_⟩
    · have e1 : ((i + 1 : Nat) : Int) = (i : Int) + 1 := by omega
      rw [e1]; exact he'
    · obtain ⟨o, ho2, r⟩ := hit'
      exact ⟨o, (sb.2 it (Ne.symm hne)).trans ho2, r⟩
    · have hb' : b < s.heap.objs.size := by
        have e' : b = e ∨ b = it := by simpa using hb
        rcases e' with z | z
        · rw [z]; exact hel
        · rw [z]; exact hil
      rw [upd_ne (Nat.ne_of_lt hb')]
      exact (hf b hb).1
  done := by
    intro X hP hw hK hc i pins s σ H E I hf st hg
    subst hP hw hK
    obtain ⟨⟨old, he⟩, hit, hne⟩ := st
    obtain ⟨f0, f1, f2, f3, f4, f5⟩ := hf it (by simp)
    have D : Draws X.prog X.w X.A.in1 it [it] x.cps.size (fun i v => ∃ c u, x.cps[i]? = some c ∧ v = .str ⟨#[c]⟩ u) (fun i h => h.IsStrIter it ty x t i) := by
      rcases hty with q | q
      · rw [q]; exact Draws.strAscii (A := X.A.in1) (I.ok.hd hc) it x t
      · rw [q]; exact Draws.strWide (A := X.A.in1) (I.ok.hd hc) it x t
    obtain rfl : i = x.cps.size := hg
    exact wpAny_pyNext_enum_endD D he hit fun h' eb => ⟨rfl, I.turned (t' := s.toks) (fun b o hb q => eb b o hb q) f0 f1 f3 f4 f5⟩
  self := fun A i s Q E st h => let ⟨⟨_, he⟩, _⟩ := st; wpAny_pyIter_enum he h
def iEnumS (ta : TA) : TI := fun σ H R => ta σ H fun vs H1 => ∃ x, vs = [.str x] ∧ R (Ites x) H1
theorem pi_enumS {X : Cx} {e : Expr} {ta : TA} {p pos tpos : Pos} {elts : List Expr} {kk : Nat} (hg : Gl X "enumerate") (hm : X.mg "enumerate" = none) (ha : PA X [e] ta) (hs : starEach [e] X.env = [(false, eval e X.env)] := by rfl) :
    PI X (.Tuple elts kk tpos) (.Call (.Name "enumerate" p) [e] [] pos) (iEnumS ta) := by
  refine ⟨fun pins s σ H R I h => ?_⟩
  refine Call_ (ld_blt I hg hm boot_enumerate (PyProof.Rows.callWith_type1 (thn (ha.run pos pins s σ H _ I h) fun us s1 ⟨vs, H1, I1, r1, q1⟩ => ?_) hs rfl))
  obtain ⟨x, ex, q⟩ := q1
  subst ex
  cases r1 with
  | cons r rr =>
    cases rr
    obtain ⟨t, rfl⟩ := r
    refine call_enumerate_str fun h' he hit hsz hk => wpAny_pyIter_enum he ?_
    have I2 : Inv X pins σ H1 { s1 with heap := h' } := I1.kept (t' := s1.toks) hk
    have fp : ∀ b ∈ [s1.heap.objs.size + 1, s1.heap.objs.size], FpOk X pins H1 b := fun b hb => by
      have e' : b = s1.heap.objs.size + 1 ∨ b = s1.heap.objs.size := by simpa using hb
      have hle : s1.heap.objs.size ≤ b := by
        rcases e' with z | z
        · rw [z]; exact Nat.le_add_right _ _
        · rw [z]; exact Nat.le_refl _
      exact I1.fpOk hle (I1.hok.fresh hle)
    cases hasc : x.cps.all (· < 128)
    · have hit' : h'.IsStrIter s1.heap.objs.size "str_iterator" x t 0 := by simpa [strIterType, hasc] using hit
      exact ⟨s1.heap.objs.size + 1, [s1.heap.objs.size + 1, s1.heap.objs.size], _, _, H1, rfl, I2, turn_enumS x t "str_iterator" (.inr rfl) (s1.heap.objs.size + 1) s1.heap.objs.size, ⟨⟨.none, he⟩, hit', Nat.succ_ne_self _⟩, fp, q⟩
    · have hit' : h'.IsStrIter s1.heap.objs.size "str_ascii_iterator" x t 0 := by simpa [strIterType, hasc] using hit
      exact ⟨s1.heap.objs.size + 1, [s1.heap.objs.size + 1, s1.heap.objs.size], _, _, H1, rfl, I2, turn_enumS x t "str_ascii_iterator" (.inl rfl) (s1.heap.objs.size + 1) s1.heap.objs.size, ⟨⟨.none, he⟩, hit', Nat.succ_ne_self _⟩, fp, q⟩
theorem walk_enumS {z : Str} : L2.Walk (Ites z) z.cps.size (fun _ => True) (fun i H v H' => ∃ T c, v = .ref T ∧ H T = none ∧ H' = upd H T (.tup [.int (i : Nat), .str ⟨#[c]⟩]) ∧ z.cps[i]? = some c) :=
  ⟨fun _ _ hi _ => hi, fun _ _ => rfl, fun _ _ _ _ _ _ y => y⟩

/-! ### C(e, ..) with C in a local name -/
def tMakeL (i : Nat) (C : Addr) (sp : Sp) (dvs : List V) (E : XK) (t : TA) : TE := fun σ H Q => σ[i]? = some (some (.ref C)) ∧ t σ H fun vs H1 => ∀ x dx, H1 x = none → H1 dx = none → dx ≠ x → sp (.ref x :: (vs ++ dvs)) (upd (upd H1 dx (.own x)) x (.ins C dx [])) (fun v H2 => v = .non ∧ Q (.ref x) H2) E
section
variable {X : Cx} {CX : CXT} {x : Str} {i : Nat} {C f : Addr} {k : Nat} {fd : FuncData} {ps : List Str} {sp : Sp} {ds : List Value} {dvs : List V} {E : XK} {e : Expr} {es : List Expr} {t : TA} {p pos : Pos}
theorem pe_makeL (M : Mk X.K C f) (F : FnOk X.prog X.w X.K X.mg X.base CX k f fd ps sp) (hr : Room (k + 1) X.A) (hN : X.N[i]? = some x) (hv : Vis X.env.scope x) (hb : L2.Binds X.K fd ps ds) (hd : Vals dvs ds) (hx : Passes CX X E)
    (ha : PA X (e :: es) t) (hdb : (x == ("__debug__" : Str)) = false := by decide) (hcd : (x == ("__classdict__" : Str)) = false := by decide) (he : starEach (e :: es) X.env = (false, eval e X.env) :: starEach es X.env := by rfl) (hpl : (backTo pos (starEach es X.env)).any (·.1) = false := by rfl) :
    PE X (.Call (.Name x p) (e :: es) [] pos) (tMakeL i C sp dvs E t) := by
  refine ⟨fun pins s σ H Q I h => ?_⟩
  obtain ⟨hs, ht⟩ := h
  refine wpAny_Call_Name_kw (thn ((pe_var (pos := p) hN hv hdb hcd).run pins s σ H (fun v H1 => v = .ref C ∧ H1 = H) I ⟨.ref C, hs, rfl, rfl⟩) fun u s1 ⟨v, H1, I1, r1, q1⟩ => ?_)
  obtain ⟨rfl, rfl⟩ := q1
  cases r1
  refine PySem.W.callWith_K (h₀ := X.base) I.ok.mod.kin M.kp (thn (ha.run pos pins s1 σ _ _ I1 ht) fun us s2 ⟨vs, H2, I2, r, q⟩ => ⟨I2.kIn, ?_⟩) he hpl
  exact run_make M F hr hb hd hx I2 r q
end

/-! ### a written dict -/
/-- at d the dict of these, told by the written part -/
structure WD (K : PySem.W.Frag) (w : World) (d : Addr) (kvs : List (Str × Int)) : Prop where
  ex : ∃ es n, K.lookup d = some ⟨.type "dict", none, .dict es n, #[]⟩ ∧ PySem.W.KeysLit w.params es.toList ∧ Paired (fun (e : DictEntry) (kv : Str × Int) => ∃ t u, e.key = .str kv.1 t ∧ e.val = .int kv.2 u) es.toList kvs ∧ (d == sysModules) = false
theorem lookup_put2 {z k : Str} {v : Int} {l : List (Str × Int)} (h : z ≠ k) : ((k, v) :: l).lookup z = l.lookup z := by
  have e : (z == k) = false := by simpa using h
  simp [List.lookup, e]
theorem wd_ns {K : PySem.W.Frag} {d : Addr} {es : Array DictEntry} {n : Nat} {kvs : List (Str × Int)} (h : K.lookup d = some ⟨.type "dict", none, .dict es n, #[]⟩) (p : Paired (fun (e : DictEntry) (kv : Str × Int) => ∃ t u, e.key = .str kv.1 t ∧ e.val = .int kv.2 u) es.toList kvs) (z : Str) :
    (∃ i u, kvs.lookup z = some i ∧ PySem.W.nsIn K d z = some (some (.int i u))) ∨ (kvs.lookup z = none ∧ PySem.W.nsIn K d z = some none) := by
  unfold PySem.W.nsIn
  rw [h]
  show (∃ i u, _ ∧ (match es.toList.find? (·.key.isStr z) with | some e => some (some e.val) | none => if es.toList.any (·.refKey) then none else some none) = _) ∨ (_ ∧ (match es.toList.find? (·.key.isStr z) with | some e => some (some e.val) | none => if es.toList.any (·.refKey) then none else some none) = _)
  generalize es.toList = l at p
  have hr : l.any (·.refKey) = false := by
    clear h
    induction p with
    | nil => rfl
    | cons q _ ih =>
      obtain ⟨t, u, hk, hv⟩ := q
      rw [List.any_cons, ih]
      unfold DictEntry.refKey
      rw [hk]
      rfl
  rw [hr]
  clear h hr
  induction p with
  | nil => exact .inr ⟨rfl, rfl⟩
  | @cons e kv l kvs q pr ih =>
    obtain ⟨k, v⟩ := kv
    obtain ⟨t, u, hk, hv⟩ := q
    dsimp only at hk hv
    by_cases e1 : z = k
    · subst e1
      refine .inl ⟨v, u, by simp [List.lookup], ?_⟩
      rw [List.find?_cons_of_pos (by rw [hk]; simp [Value.isStr])]
      show some (some e.val) = _
      rw [hv]
    · rw [List.find?_cons_of_neg (by rw [hk]; simp [Value.isStr]; exact fun z => e1 z.symm), lookup_put2 e1]
      exact ih
section
variable {X : Cx}
theorem op_inW : OpR X (compareOp .In) (fun x y H Q => ∃ (z : Str) (d : Addr) (kvs : List (Str × Int)), x = .str z ∧ y = .ref d ∧ WD X.K X.w d kvs ∧ Q (.bl (kvs.lookup z).isSome) H) := by
  intro pins s σ H x y v u Q I rx ry h
  obtain ⟨z, d, kvs, rfl, rfl, ⟨es, n, hl, hk, hp, low⟩, q⟩ := h
  rcases wd_ns hl hp z with ⟨i, t, e1, e2⟩ | ⟨e1, e2⟩
  · rw [e1] at q
    exact op_in_kd ⟨hl, hk, low⟩ pins s σ H _ _ v u Q I rx ry ⟨z, _, rfl, rfl, e2, q⟩
  · rw [e1] at q
    exact op_in_kd ⟨hl, hk, low⟩ pins s σ H _ _ v u Q I rx ry ⟨z, _, rfl, rfl, e2, q⟩
theorem ix_W : IxR X (fun x y H Q => ∃ (z : Str) (d : Addr) (kvs : List (Str × Int)) (i : Int), x = .ref d ∧ y = .str z ∧ WD X.K X.w d kvs ∧ kvs.lookup z = some i ∧ Q (.int i) H) := by
  intro value slice pins s σ H x y v u Q I rx ry h hs
  obtain ⟨z, d, kvs, i, rfl, rfl, ⟨es, n, hl, hk, hp, low⟩, e, q⟩ := h
  rcases wd_ns hl hp z with ⟨j, t, e1, e2⟩ | ⟨e1, e2⟩
  · rw [e] at e1
    cases e1
    exact ix_kdict value slice pins s σ H _ _ v u Q I rx ry ⟨d, z, .int i, rfl, rfl, ⟨es, n, _, hl, hk, e2, ⟨_, rfl⟩⟩, q⟩ hs
  · rw [e] at e1
    cases e1
end
end UL

set_option Elab.async false
set_option linter.all false
set_option maxRecDepth 100000
/-! own: the reader of expressions as a machine over pieces, without a heap -/
namespace UL
open PySem PySem.Spec PyProof.Rows L2 Evl TL

/-- the string of these signs -/
def ofL (l : List Nat) : Str := ⟨l.toArray⟩
theorem tl_ofL (l : List Nat) : tl (ofL l) = l := by simp [tl, ofL]
theorem ofL_tl (z : Str) : ofL (tl z) = z := by
  cases z
  simp [tl, ofL]
theorem ofL_inj {a b : List Nat} (h : ofL a = ofL b) : a = b := by rw [← tl_ofL a, h, tl_ofL]
/-- a node -/
inductive Nd where
  | name (w : Str)
  | call (w : Str) (os : List Nat)
  | op (w : Str) (os : List Nat)
  deriving DecidableEq
/-! ### cutting -/
def cutGo : List Nat → List Nat → List (List Nat)
  | p, [] => if p = [] then [] else [p]
  | p, c :: r => if c = 40 then (p ++ [c]) :: cutGo [] r else if c = 44 ∨ c = 41 then (if p = [] then [] else [p]) ++ [c] :: cutGo [] r else cutGo (p ++ [c]) r
theorem cutGo_nil (p : List Nat) : cutGo p [] = if p = [] then [] else [p] := by rw [cutGo]
theorem cutGo_cons (p : List Nat) (c : Nat) (r : List Nat) : cutGo p (c :: r) = if c = 40 then (p ++ [c]) :: cutGo [] r else if c = 44 ∨ c = 41 then (if p = [] then [] else [p]) ++ [c] :: cutGo [] r else cutGo (p ++ [c]) r := by rw [cutGo]
/-- no sign of these three -/
def plainL (w : List Nat) : Prop := ∀ c ∈ w, c ≠ 40 ∧ c ≠ 41 ∧ c ≠ 44
theorem cut_plain : ∀ (w p r : List Nat), plainL w → cutGo p (w ++ r) = cutGo (p ++ w) r
  | [], p, r, _ => by rw [List.nil_append, List.append_nil]
  | c :: w, p, r, h => by
    have hc := h c List.mem_cons_self
    rw [List.cons_append, cutGo_cons, if_neg hc.1, if_neg (by omega), cut_plain w _ r fun d hd => h d (List.mem_cons_of_mem _ hd), List.append_assoc]
    rfl
theorem cut_word {w : List Nat} (h : plainL w) (h0 : w ≠ []) : cutGo [] w = [w] := by
  have e := cut_plain w [] [] h
  rw [List.append_nil, List.nil_append] at e
  rw [e, cutGo_nil, if_neg h0]
theorem cut_open {w : List Nat} (h : plainL w) (r : List Nat) : cutGo [] (w ++ 40 :: r) = (w ++ [40]) :: cutGo [] r := by
  rw [cut_plain w [] _ h, List.nil_append, cutGo_cons, if_pos rfl]
theorem cut_at {c : Nat} (hc : c = 44 ∨ c = 41) : ∀ (t p r : List Nat), cutGo p (t ++ c :: r) = cutGo p t ++ [c] :: cutGo [] r
  | [], p, r => by
    rw [List.nil_append, cutGo_cons, if_neg (by omega), if_pos hc, cutGo_nil]
  | d :: t, p, r => by
    rw [List.cons_append, cutGo_cons, cutGo_cons]
    by_cases h1 : d = 40
    · rw [if_pos h1, if_pos h1, cut_at hc t [] r, List.cons_append]
    · rw [if_neg h1, if_neg h1]
      by_cases h2 : d = 44 ∨ d = 41
      · rw [if_pos h2, if_pos h2, cut_at hc t [] r, List.append_assoc]
        rfl
      · rw [if_neg h2, if_neg h2, cut_at hc t _ r]
/-! ### the machine -/
def opsT : List (Str × Int) := [("part", 1), ("pick", 2), ("then", 2)]
def oper (okw : Str → Bool) (w : Str) (os : List Nat) : Option Nd :=
  match opsT.lookup w with
  | some n => if (os.length : Int) = n then some (.op w os) else none
  | none => if okw w = true ∧ os.length ≤ 4 then some (.call w os) else none
theorem oper_at {okw : Str → Bool} {w : Str} {os : List Nat} {n : Int} (h : opsT.lookup w = some n) : oper okw w os = if (os.length : Int) = n then some (.op w os) else none := by
  unfold oper
  rw [h]
theorem oper_no {okw : Str → Bool} {w : Str} {os : List Nat} (h : opsT.lookup w = none) : oper okw w os = if okw w = true ∧ os.length ≤ 4 then some (.call w os) else none := by
  unfold oper
  rw [h]
theorem some_if {α : Type} {p : Prop} [Decidable p] {a b : α} (h : (if p then some a else none) = some b) : p ∧ a = b := by
  by_cases e : p
  · rw [if_pos e] at h
    exact ⟨e, Option.some.inj h⟩
  · rw [if_neg e] at h
    cases h
/-- the operations that wait, the innermost last -/
abbrev Wt := List (Str × List Nat)
def addTop (W : Wt) (n : Nat) : Wt := match W.getLast? with
  | none => W
  | some (w, os) => W.dropLast ++ [(w, os ++ [n])]
theorem addTop_snoc (W : Wt) (w : Str) (os : List Nat) (n : Nat) : addTop (W ++ [(w, os)]) n = W ++ [(w, os ++ [n])] := by
  unfold addTop
  rw [List.getLast?_concat, List.dropLast_concat]
theorem addTop_nil (n : Nat) : addTop [] n = [] := rfl
structure Rd where
  N : List Nd
  W : Wt
  b : Bool
def rstep (okw : Str → Bool) (s : Rd) (p : List Nat) : Option Rd :=
  if p = [44] then (if s.W = [] ∨ s.b = false then none else some ⟨s.N, s.W, false⟩)
  else if p = [41] then
    (match s.W.getLast? with
    | none => none
    | some (w, os) => if os ≠ [] ∧ s.b = false then none else
      match oper okw w os with
      | none => none
      | some nd => some ⟨s.N ++ [nd], addTop s.W.dropLast s.N.length, true⟩)
  else if s.b = true then none
  else if p.getLast? = some 40 then some ⟨s.N, s.W ++ [(ofL p.dropLast, [])], s.b⟩
  else if okw (ofL p) = true then some ⟨s.N ++ [.name (ofL p)], addTop s.W s.N.length, true⟩
  else none
def rrun (okw : Str → Bool) : Rd → List (List Nat) → Option Rd
  | s, [] => some s
  | s, p :: ps => (rstep okw s p).bind fun s' => rrun okw s' ps
theorem rrun_append (okw : Str → Bool) : ∀ (ps qs : List (List Nat)) (s : Rd), rrun okw s (ps ++ qs) = (rrun okw s ps).bind fun s' => rrun okw s' qs
  | [], qs, s => rfl
  | p :: ps, qs, s => by
    rw [List.cons_append, rrun, rrun]
    cases rstep okw s p with
    | none => rfl
    | some s' => exact rrun_append okw ps qs s'
/-- the text is that of an expression whose nodes, from the lo-th on, are ns -/
def GoodE (okw : Str → Bool) (t : List Nat) (lo : Nat) (ns : List Nd) : Prop :=
  ns ≠ [] ∧ ∀ N W, N.length = lo → rrun okw ⟨N, W, false⟩ (cutGo [] t) = some ⟨N ++ ns, addTop W (lo + ns.length - 1), true⟩
/-- texts behind one another -/
abbrev It1 := List Nat × List Nd
def Stk (okw : Str → Bool) : Nat → List It1 → Prop
  | _, [] => True
  | lo, (t, ns) :: r => GoodE okw t lo ns ∧ Stk okw (lo + ns.length) r
def flat (l : List It1) : List Nd := l.flatMap (·.2)
def rootsL : Nat → List It1 → List Nat
  | _, [] => []
  | lo, (_, ns) :: r => (lo + ns.length - 1) :: rootsL (lo + ns.length) r
theorem stk_append (okw : Str → Bool) : ∀ (a b : List It1) (lo : Nat), Stk okw lo (a ++ b) ↔ Stk okw lo a ∧ Stk okw (lo + (flat a).length) b
  | [], b, lo => by simp [Stk, flat]
  | (t, ns) :: a, b, lo => by
    show GoodE okw t lo ns ∧ Stk okw (lo + ns.length) (a ++ b) ↔ (GoodE okw t lo ns ∧ Stk okw (lo + ns.length) a) ∧ _
    rw [stk_append okw a b, show (flat ((t, ns) :: a)).length = ns.length + (flat a).length by simp [flat], ← Nat.add_assoc, and_assoc]
theorem roots_append : ∀ (a b : List It1) (lo : Nat), rootsL lo (a ++ b) = rootsL lo a ++ rootsL (lo + (flat a).length) b
  | [], b, lo => by simp [rootsL, flat]
  | (t, ns) :: a, b, lo => by
    show (lo + ns.length - 1) :: rootsL (lo + ns.length) (a ++ b) = (lo + ns.length - 1) :: rootsL (lo + ns.length) a ++ _
    rw [roots_append a b, show (flat ((t, ns) :: a)).length = ns.length + (flat a).length by simp [flat], ← Nat.add_assoc]
    rfl
theorem roots_len : ∀ (a : List It1) (lo : Nat), (rootsL lo a).length = a.length
  | [], _ => rfl
  | (t, ns) :: a, lo => by simp [rootsL, roots_len a]
def joinC : List (List Nat) → List Nat
  | [] => []
  | [t] => t
  | t :: u :: r => t ++ 44 :: joinC (u :: r)
theorem args_run (okw : Str → Bool) : ∀ (b : List It1) (lo : Nat) (N : List Nd) (W : Wt) (w : Str) (os : List Nat) (T : List Nat), b ≠ [] → Stk okw lo b → N.length = lo →
    rrun okw ⟨N, W ++ [(w, os)], false⟩ (cutGo [] (joinC (b.map (·.1)) ++ 41 :: T)) = rrun okw ⟨N ++ flat b, W ++ [(w, os ++ rootsL lo b)], true⟩ ([41] :: cutGo [] T)
  | [], _, _, _, _, _, _, h, _, _ => absurd rfl h
  | [(t, ns)], lo, N, W, w, os, T, _, hs, hN => by
    show rrun okw _ (cutGo [] (t ++ 41 :: T)) = _
    rw [cut_at (.inr rfl), rrun_append, hs.1.2 N _ hN, addTop_snoc]
    show rrun okw ⟨N ++ ns, _, true⟩ _ = rrun okw ⟨N ++ flat [(t, ns)], _, true⟩ _
    rw [show flat [(t, ns)] = ns by simp [flat]]
    rfl
  | (t, ns) :: (t2, ns2) :: b, lo, N, W, w, os, T, _, hs, hN => by
    show rrun okw _ (cutGo [] ((t ++ 44 :: joinC (((t2, ns2) :: b).map (·.1))) ++ 41 :: T)) = _
    rw [List.append_assoc, List.cons_append, cut_at (.inl rfl), rrun_append, hs.1.2 N _ hN, addTop_snoc]
    show rrun okw ⟨N ++ ns, W ++ [(w, os ++ [lo + ns.length - 1])], true⟩ ([44] :: cutGo [] _) = _
    rw [rrun]
    have e : rstep okw ⟨N ++ ns, W ++ [(w, os ++ [lo + ns.length - 1])], true⟩ [44] = some ⟨N ++ ns, W ++ [(w, os ++ [lo + ns.length - 1])], false⟩ := by
      unfold rstep
      rw [if_pos rfl, if_neg (by simp)]
    rw [e]
    show rrun okw ⟨N ++ ns, W ++ [(w, os ++ [lo + ns.length - 1])], false⟩ _ = _
    rw [args_run okw ((t2, ns2) :: b) (lo + ns.length) (N ++ ns) W w _ T (by simp) hs.2 (by rw [List.length_append, hN])]
    rw [List.append_assoc, List.append_assoc, show flat ((t, ns) :: (t2, ns2) :: b) = ns ++ flat ((t2, ns2) :: b) by simp [flat]]
    rfl
theorem open_step (okw : Str → Bool) (N : List Nd) (W : Wt) (w : List Nat) (hw : plainL w) : rstep okw ⟨N, W, false⟩ (w ++ [40]) = some ⟨N, W ++ [(ofL w, [])], false⟩ := by
  unfold rstep
  rw [if_neg (fun h => by have := congrArg List.getLast? h; simp at this), if_neg (fun h => by have := congrArg List.getLast? h; simp at this), if_neg (by simp), if_pos (by simp), List.dropLast_concat]
theorem close_step (okw : Str → Bool) (N : List Nd) (W : Wt) (w : Str) (os : List Nat) (b : Bool) (nd : Nd) (hb : os = [] ∨ b = true) (ho : oper okw w os = some nd) : rstep okw ⟨N, W ++ [(w, os)], b⟩ [41] = some ⟨N ++ [nd], addTop W N.length, true⟩ := by
  unfold rstep
  rw [if_neg (by simp), if_pos rfl]
  show (match (W ++ [(w, os)]).getLast? with | none => none | some (w, os) => _) = _
  rw [List.getLast?_concat]
  show (if os ≠ [] ∧ b = false then none else _) = _
  rw [if_neg (by rcases hb with h | h <;> simp [h]), ho, List.dropLast_concat]
/-- an operation with its operands -/
theorem good_op {okw : Str → Bool} {lo : Nat} {b : List It1} {w : List Nat} {nd : Nd} (hs : Stk okw lo b) (hw : plainL w) (ho : oper okw (ofL w) (rootsL lo b) = some nd) :
    GoodE okw (w ++ 40 :: joinC (b.map (·.1)) ++ [41]) lo (flat b ++ [nd]) := by
  refine ⟨by simp, fun N W hN => ?_⟩
  rw [List.append_assoc, List.cons_append, cut_open hw, rrun, open_step okw N W w hw]
  show rrun okw ⟨N, W ++ [(ofL w, [])], false⟩ _ = _
  cases b with
  | nil =>
    show rrun okw _ (cutGo [] [41]) = _
    rw [show cutGo [] [41] = [[41]] by rfl, rrun, close_step okw N W (ofL w) [] false nd (.inl rfl) ho]
    show some (Rd.mk (N ++ [nd]) (addTop W N.length) true) = some (Rd.mk (N ++ ([] ++ [nd])) (addTop W (lo + ([] ++ [nd]).length - 1)) true)
    rw [hN]
    rfl
  | cons i r =>
    rw [args_run okw (i :: r) lo N W (ofL w) [] [] (by simp) hs hN, rrun, List.nil_append, close_step okw _ W (ofL w) _ true nd (.inr rfl) ho]
    show some (Rd.mk (N ++ flat (i :: r) ++ [nd]) (addTop W (N ++ flat (i :: r)).length) true) = _
    rw [List.append_assoc, List.length_append, hN, List.length_append]
    rfl
theorem good_name {okw : Str → Bool} {lo : Nat} {w : List Nat} (hw : plainL w) (h0 : w ≠ []) (hk : okw (ofL w) = true) : GoodE okw w lo [.name (ofL w)] := by
  refine ⟨by simp, fun N W hN => ?_⟩
  rw [cut_word hw h0, rrun]
  have hl : w.getLast? ≠ some 40 := fun e => (hw 40 (List.mem_of_getLast? e)).1 rfl
  have e : rstep okw ⟨N, W, false⟩ w = some ⟨N ++ [.name (ofL w)], addTop W N.length, true⟩ := by
    unfold rstep
    rw [if_neg (fun h => (hw 44 (by rw [h]; simp)).2.2 rfl), if_neg (fun h => (hw 41 (by rw [h]; simp)).2.1 rfl), if_neg (by simp), if_neg hl, if_pos hk]
  rw [e]
  show some (Rd.mk _ (addTop W N.length) true) = _
  rw [hN]
  rfl
theorem cut_count : ∀ (t p : List Nat), (cutGo p t).length ≤ 2 * t.length + 1
  | [], p => by
    rw [cutGo_nil]
    split <;> simp
  | c :: t, p => by
    rw [cutGo_cons]
    have h1 := cut_count t []
    have h2 := cut_count t (p ++ [c])
    rw [List.length_cons]
    split
    · rw [List.length_cons]
      omega
    · split
      · rw [List.length_append, List.length_cons]
        split
        · rw [List.length_nil]
          omega
        · rw [List.length_singleton]
          omega
      · omega
theorem cut_mem : ∀ (t p : List Nat), ∀ x ∈ cutGo p t, x ≠ [] ∧ x.length ≤ p.length + t.length
  | [], p, x, hx => by
    rw [cutGo_nil] at hx
    split at hx
    · cases hx
    · rename_i h
      rw [List.mem_singleton.mp hx]
      exact ⟨h, by omega⟩
  | c :: t, p, x, hx => by
    rw [cutGo_cons] at hx
    rw [List.length_cons]
    have i1 := cut_mem t []
    have i2 := cut_mem t (p ++ [c])
    split at hx
    · rcases List.mem_cons.mp hx with h | h
      · rw [h]
        exact ⟨by simp, by rw [List.length_append, List.length_singleton]; omega⟩
      · have := i1 x h
        exact ⟨this.1, by have := this.2; simp at this; omega⟩
    · split at hx
      · rcases List.mem_append.mp hx with h | h
        · split at h
          · cases h
          · rename_i h0
            rw [List.mem_singleton.mp h]
            exact ⟨h0, by omega⟩
        · rcases List.mem_cons.mp h with h | h
          · rw [h]
            exact ⟨by simp, by rw [List.length_singleton]; omega⟩
          · have := i1 x h
            exact ⟨this.1, by have := this.2; simp at this; omega⟩
      · have := i2 x hx
        exact ⟨this.1, by have := this.2; rw [List.length_append, List.length_singleton] at this; omega⟩
theorem last_at {α : Type} {l : List α} {c : α} (h : l.getLast? = some c) : atI l (-1) = some c := by
  have h0 : l ≠ [] := fun e => by rw [e] at h; cases h
  have hp : 0 < l.length := List.length_pos_iff.mpr h0
  unfold atI
  have e : ixN l.length (-1) = some (l.length - 1) := by
    unfold ixN
    rw [if_neg (by decide), if_pos (by omega)]
    congr 1
    omega
  rw [e]
  show l[l.length - 1]? = some c
  rw [← List.getLast?_eq_getElem?]
  exact h
theorem cut_last (l : List Nat) : cutS (ofL l) none (some (-1)) = ofL l.dropLast := by
  have hl : (ofL l).length = l.length := by rw [len_tl, tl_ofL]
  unfold cutS
  rw [HT.sIx_none, hl, show HT.sIx l.length l.length (some (-1)) = l.length - 1 by show (if (-1 : Int) < 0 then (-1 + (l.length : Int)).toNat else min (-1 : Int).toNat l.length) = _; rw [if_pos (by decide)]; omega, List.drop_zero, Nat.sub_zero]
  have e : (ofL l).cps.toList = l := tl_ofL l
  rw [e, ← List.dropLast_eq_take]
  rfl
/-- two lists, part by part -/
inductive Al2 {α β : Type} (R : α → β → Prop) : List α → List β → Prop
  | nil : Al2 R [] []
  | cons {a : α} {b : β} {as : List α} {bs : List β} : R a b → Al2 R as bs → Al2 R (a :: as) (b :: bs)
theorem Al2.imp {α β : Type} {R S : α → β → Prop} {as : List α} {bs : List β} (h : Al2 R as bs) (k : ∀ a b, R a b → S a b) : Al2 S as bs := by
  induction h with
  | nil => exact .nil
  | cons h _ ih => exact .cons (k _ _ h) ih
theorem Al2.snoc {α β : Type} {R : α → β → Prop} {as : List α} {bs : List β} {a : α} {b : β} (h : Al2 R as bs) (k : R a b) : Al2 R (as ++ [a]) (bs ++ [b]) := by
  induction h with
  | nil => exact .cons k .nil
  | cons h _ ih => exact .cons h ih
theorem Al2.len {α β : Type} {R : α → β → Prop} {as : List α} {bs : List β} (h : Al2 R as bs) : as.length = bs.length := by
  induction h with
  | nil => rfl
  | cons _ _ ih => rw [List.length_cons, List.length_cons, ih]
theorem Al2.get {α β : Type} {R : α → β → Prop} {as : List α} {bs : List β} (h : Al2 R as bs) : ∀ (i : Nat) (a : α), as[i]? = some a → ∃ b, bs[i]? = some b ∧ R a b := by
  induction h with
  | nil =>
    intro i a h
    cases h
  | cons h _ ih =>
    intro i a e
    cases i with
    | zero =>
      cases e
      exact ⟨_, rfl, h⟩
    | succ i => exact ih i a e
theorem Al2.unsnoc {α β : Type} {R : α → β → Prop} {as : List α} {bs : List β} {b : β} (h : Al2 R as (bs ++ [b])) : ∃ as' a, as = as' ++ [a] ∧ Al2 R as' bs ∧ R a b := by
  induction bs generalizing as with
  | nil =>
    cases h with
    | cons h1 h2 =>
      cases h2
      exact ⟨[], _, rfl, .nil, h1⟩
  | cons c bs ih =>
    cases h with
    | cons h1 h2 =>
      obtain ⟨as', a, rfl, h3, h4⟩ := ih h2
      exact ⟨_ :: as', a, rfl, .cons h1 h3, h4⟩
theorem rstep_comma {okw : Str → Bool} {s s' : Rd} (h : rstep okw s [44] = some s') : s.W ≠ [] ∧ s.b = true ∧ s' = ⟨s.N, s.W, false⟩ := by
  unfold rstep at h
  rw [if_pos rfl] at h
  by_cases e : s.W = [] ∨ s.b = false
  · rw [if_pos e] at h
    cases h
  · rw [if_neg e] at h
    exact ⟨fun z => e (.inl z), by cases hb : s.b <;> simp_all, (Option.some.inj h).symm⟩
theorem rstep_close {okw : Str → Bool} {s s' : Rd} (h : rstep okw s [41] = some s') : ∃ W w os nd, s.W = W ++ [(w, os)] ∧ (os = [] ∨ s.b = true) ∧ oper okw w os = some nd ∧ s' = ⟨s.N ++ [nd], addTop W s.N.length, true⟩ := by
  unfold rstep at h
  rw [if_neg (by simp), if_pos rfl] at h
  rcases List.eq_nil_or_concat s.W with e | ⟨W, ⟨w, os⟩, e⟩
  · rw [e] at h
    cases h
  · rw [List.concat_eq_append] at e
    rw [e, List.getLast?_concat, List.dropLast_concat] at h
    have h : (if os ≠ [] ∧ s.b = false then none else match oper okw w os with | none => none | some nd => some (Rd.mk (s.N ++ [nd]) (addTop W s.N.length) true)) = some s' := h
    by_cases e2 : os ≠ [] ∧ s.b = false
    · rw [if_pos e2] at h
      cases h
    · rw [if_neg e2] at h
      cases ho : oper okw w os with
      | none =>
        rw [ho] at h
        cases h
      | some nd =>
        rw [ho] at h
        refine ⟨W, w, os, nd, e, ?_, ho, (Option.some.inj h).symm⟩
        cases os with
        | nil => exact .inl rfl
        | cons a r =>
          refine .inr ?_
          cases hb : s.b with
          | true => rfl
          | false => exact absurd ⟨by simp, hb⟩ e2
theorem rstep_else {okw : Str → Bool} {s s' : Rd} {p : List Nat} (h1 : p ≠ [44]) (h2 : p ≠ [41]) (h : rstep okw s p = some s') : s.b = false ∧
    ((p.getLast? = some 40 ∧ s' = ⟨s.N, s.W ++ [(ofL p.dropLast, [])], false⟩) ∨ (p.getLast? ≠ some 40 ∧ okw (ofL p) = true ∧ s' = ⟨s.N ++ [.name (ofL p)], addTop s.W s.N.length, true⟩)) := by
  unfold rstep at h
  rw [if_neg h1, if_neg h2] at h
  cases hb : s.b with
  | true =>
    rw [hb, if_pos rfl] at h
    cases h
  | false =>
    rw [hb, if_neg (by simp)] at h
    refine ⟨rfl, ?_⟩
    by_cases e : p.getLast? = some 40
    · rw [if_pos e] at h
      exact .inl ⟨e, (Option.some.inj h).symm⟩
    · rw [if_neg e] at h
      by_cases e2 : okw (ofL p) = true
      · rw [if_pos e2] at h
        exact .inr ⟨e, e2, (Option.some.inj h).symm⟩
      · rw [if_neg e2] at h
        cases h
/-! ### what the machine's nodes are -/
def opsOf : Nd → List Nat
  | .name _ => []
  | .call _ os => os
  | .op _ os => os
def WfNd : Nd → Prop
  | .name _ => True
  | .call _ os => os.length ≤ 4
  | .op w os => opsT.lookup w = some (os.length : Int)
def WfN (N : List Nd) : Prop := ∀ j nd, N[j]? = some nd → WfNd nd ∧ ∀ n ∈ opsOf nd, n < j
structure WfR (s : Rd) : Prop where
  wn : WfN s.N
  ww : ∀ y ∈ s.W, ∀ n ∈ y.2, n < s.N.length
theorem wfN_snoc {N : List Nd} {nd : Nd} (h : WfN N) (h1 : WfNd nd) (h2 : ∀ n ∈ opsOf nd, n < N.length) : WfN (N ++ [nd]) := by
  intro j d hj
  by_cases e : j < N.length
  · rw [List.getElem?_append_left e] at hj
    exact h j d hj
  · rw [List.getElem?_append_right (by omega)] at hj
    obtain ⟨h3, h4⟩ := List.getElem?_eq_some_iff.mp hj
    rw [List.length_singleton] at h3
    have e2 : j = N.length := by omega
    subst e2
    simp at h4
    subst h4
    exact ⟨h1, h2⟩
theorem oper_wf {okw : Str → Bool} {w : Str} {os : List Nat} {nd : Nd} (h : oper okw w os = some nd) : WfNd nd ∧ opsOf nd = os := by
  cases hl : opsT.lookup w with
  | some n =>
    rw [oper_at hl] at h
    obtain ⟨e, rfl⟩ := some_if h
    exact ⟨by show opsT.lookup w = some _; rw [hl, e], rfl⟩
  | none =>
    rw [oper_no hl] at h
    obtain ⟨e, rfl⟩ := some_if h
    exact ⟨e.2, rfl⟩
theorem addTop_wf {W : Wt} {n m : Nat} (h : ∀ y ∈ W, ∀ k ∈ y.2, k < n) (hn : n < m) : ∀ y ∈ addTop W n, ∀ k ∈ y.2, k < m := by
  rcases List.eq_nil_or_concat W with e | ⟨V, ⟨w, os⟩, e⟩
  · rw [e]
    intro y hy
    cases hy
  · rw [List.concat_eq_append] at e
    subst e
    rw [addTop_snoc]
    intro y hy k hk
    rcases List.mem_append.mp hy with h1 | h1
    · have := h y (List.mem_append_left _ h1) k hk
      omega
    · rw [List.mem_singleton.mp h1] at hk
      rcases List.mem_append.mp hk with h2 | h2
      · have := h (w, os) (by simp) k h2
        omega
      · rw [List.mem_singleton.mp h2]
        exact hn
theorem rstep_wf {okw : Str → Bool} {s s' : Rd} {p : List Nat} (R : WfR s) (h : rstep okw s p = some s') : WfR s' := by
  by_cases e1 : p = [44]
  · subst e1
    obtain ⟨_, _, rfl⟩ := rstep_comma h
    exact ⟨R.wn, R.ww⟩
  · by_cases e2 : p = [41]
    · subst e2
      obtain ⟨W, w, os, nd, hW, _, hop, rfl⟩ := rstep_close h
      obtain ⟨h1, h2⟩ := oper_wf hop
      refine ⟨wfN_snoc R.wn h1 (by rw [h2]; exact R.ww (w, os) (by rw [hW]; simp)), ?_⟩
      exact addTop_wf (fun y hy => R.ww y (by rw [hW]; exact List.mem_append_left _ hy)) (by rw [List.length_append, List.length_singleton]; omega)
    · obtain ⟨_, ⟨_, rfl⟩ | ⟨_, _, rfl⟩⟩ := rstep_else e1 e2 h
      · refine ⟨R.wn, fun y hy => ?_⟩
        rcases List.mem_append.mp hy with h1 | h1
        · exact R.ww y h1
        · rw [List.mem_singleton.mp h1]
          intro n hn
          cases hn
      · exact ⟨wfN_snoc R.wn trivial (fun n hn => by cases hn), addTop_wf R.ww (by rw [List.length_append, List.length_singleton]; omega)⟩
theorem rrun_wf {okw : Str → Bool} : ∀ {ps : List (List Nat)} {s s' : Rd}, WfR s → rrun okw s ps = some s' → WfR s'
  | [], s, s', R, h => by
    obtain rfl := Option.some.inj h
    exact R
  | p :: ps, s, s', R, h => by
    rw [rrun] at h
    obtain ⟨t, h1, h2⟩ := Option.bind_eq_some_iff.mp h
    exact rrun_wf (rstep_wf R h1) h2
/-- the lowest nodes of the ranges -/
def fstOf (fs : List Nat) (nd : Nd) : Nat := match opsOf nd with
  | [] => fs.length
  | n :: _ => fs.getD n 0
def firstsL (ns : List Nd) : List Nat := ns.foldl (fun fs nd => fs ++ [fstOf fs nd]) []
theorem firstsL_snoc (ns : List Nd) (nd : Nd) : firstsL (ns ++ [nd]) = firstsL ns ++ [fstOf (firstsL ns) nd] := by
  unfold firstsL
  rw [List.foldl_append]
  rfl
theorem firstsL_len (ns : List Nd) : (firstsL ns).length = ns.length := by
  rcases List.eq_nil_or_concat ns with e | ⟨r, d, e⟩
  · rw [e]; rfl
  · rw [List.concat_eq_append] at e
    subst e
    rw [firstsL_snoc, List.length_append, List.length_append, firstsL_len r]
    rfl
termination_by ns.length
decreasing_by simp_all
/-- their words -/
def WkNd (okw : Str → Bool) : Nd → Prop
  | .name w => okw w = true
  | .call w _ => okw w = true
  | .op _ _ => True
theorem oper_wk {okw : Str → Bool} {w : Str} {os : List Nat} {nd : Nd} (h : oper okw w os = some nd) : WkNd okw nd := by
  cases hl : opsT.lookup w with
  | some n =>
    rw [oper_at hl] at h
    obtain ⟨e, rfl⟩ := some_if h
    trivial
  | none =>
    rw [oper_no hl] at h
    obtain ⟨e, rfl⟩ := some_if h
    exact e.1
theorem rstep_wk {okw : Str → Bool} {s s' : Rd} {p : List Nat} (R : ∀ nd ∈ s.N, WkNd okw nd) (h : rstep okw s p = some s') : ∀ nd ∈ s'.N, WkNd okw nd := by
  have snoc : ∀ {nd : Nd}, WkNd okw nd → ∀ d ∈ s.N ++ [nd], WkNd okw d := fun {nd} h d hd => by
    rcases List.mem_append.mp hd with h1 | h1
    · exact R d h1
    · rw [List.mem_singleton.mp h1]
      exact h
  by_cases e1 : p = [44]
  · subst e1
    obtain ⟨_, _, rfl⟩ := rstep_comma h
    exact R
  · by_cases e2 : p = [41]
    · subst e2
      obtain ⟨W, w, os, nd, hW, _, hop, rfl⟩ := rstep_close h
      exact snoc (oper_wk hop)
    · obtain ⟨_, ⟨_, rfl⟩ | ⟨_, hk, rfl⟩⟩ := rstep_else e1 e2 h
      · exact R
      · exact snoc hk
theorem rrun_wk {okw : Str → Bool} : ∀ {ps : List (List Nat)} {s s' : Rd}, (∀ nd ∈ s.N, WkNd okw nd) → rrun okw s ps = some s' → ∀ nd ∈ s'.N, WkNd okw nd
  | [], s, s', R, h => by
    obtain rfl := Option.some.inj h
    exact R
  | p :: ps, s, s', R, h => by
    rw [rrun] at h
    obtain ⟨t, h1, h2⟩ := Option.bind_eq_some_iff.mp h
    exact rrun_wk (rstep_wk R h1) h2
/-- a whole text -/
theorem good_run {okw : Str → Bool} {t : List Nat} {ns : List Nd} (g : GoodE okw t 0 ns) : rrun okw ⟨[], [], false⟩ (cutGo [] t) = some ⟨ns, [], true⟩ := by
  have h := g.2 [] [] rfl
  rw [List.nil_append] at h
  exact h
theorem good_wf {okw : Str → Bool} {t : List Nat} {ns : List Nd} (g : GoodE okw t 0 ns) : WfN ns ∧ ∀ nd ∈ ns, WkNd okw nd :=
  ⟨(rrun_wf (s := ⟨[], [], false⟩) ⟨(fun j nd h => by cases h), (fun y hy => by cases hy)⟩ (good_run g)).wn, rrun_wk (s := ⟨[], [], false⟩) (fun nd h => by cases h) (good_run g)⟩
end UL

set_option Elab.async false
set_option linter.all false
set_option maxRecDepth 100000
/-! own: the nodes of an expression as a forest: ranges, and what lies below a node -/
namespace UL
open PySem PySem.Spec PyProof.Rows L2 Evl TL

/-- the nodes so far, the roots that no node has as an operand yet -/
inductive Forest : List Nd → List Nat → Prop
  | nil : Forest [] []
  | node {N : List Nd} {r : List Nat} {nd : Nd} : Forest N (r ++ opsOf nd) → Forest (N ++ [nd]) (r ++ [N.length])
def stkOf (s : Rd) : List Nat := s.W.flatMap (·.2) ++ (if s.W = [] ∧ s.b = true then [s.N.length - 1] else [])
theorem addTop_flat {W : Wt} {n : Nat} (h : W ≠ []) : (addTop W n).flatMap (·.2) = W.flatMap (·.2) ++ [n] ∧ addTop W n ≠ [] := by
  rcases List.eq_nil_or_concat W with e | ⟨V, ⟨w, os⟩, e⟩
  · exact absurd e h
  · rw [List.concat_eq_append] at e
    subst e
    rw [addTop_snoc]
    simp
theorem stk_add {N : List Nd} {W : Wt} {nd : Nd} : stkOf ⟨N ++ [nd], addTop W N.length, true⟩ = W.flatMap (·.2) ++ [N.length] := by
  unfold stkOf
  by_cases h : W = []
  · subst h
    simp [addTop_nil]
  · obtain ⟨h1, h2⟩ := addTop_flat (n := N.length) h
    show (addTop W N.length).flatMap (·.2) ++ (if addTop W N.length = [] ∧ true = true then _ else _) = _
    rw [h1, if_neg (fun z => h2 z.1), List.append_nil]
theorem rstep_forest {okw : Str → Bool} {s s' : Rd} {p : List Nat} (F : Forest s.N (stkOf s)) (h : rstep okw s p = some s') : Forest s'.N (stkOf s') := by
  by_cases e1 : p = [44]
  · subst e1
    obtain ⟨h1, _, rfl⟩ := rstep_comma h
    have : stkOf ⟨s.N, s.W, false⟩ = stkOf s := by
      unfold stkOf
      rw [if_neg (fun z => h1 z.1), if_neg (fun z => h1 z.1)]
    rw [this]
    exact F
  · by_cases e2 : p = [41]
    · subst e2
      obtain ⟨W, w, os, nd, hW, _, hop, rfl⟩ := rstep_close h
      rw [stk_add]
      refine Forest.node ?_
      rw [(oper_wf hop).2]
      have e : stkOf s = W.flatMap (·.2) ++ os := by
        unfold stkOf
        rw [hW, if_neg (fun z => by simp at z)]
        simp
      rw [← e]
      exact F
    · obtain ⟨hb, ⟨_, rfl⟩ | ⟨_, _, rfl⟩⟩ := rstep_else e1 e2 h
      · have e : stkOf ⟨s.N, s.W ++ [(ofL p.dropLast, [])], false⟩ = stkOf s := by
          unfold stkOf
          rw [if_neg (fun z => by simp at z), if_neg (fun z => by rw [hb] at z; simp at z)]
          simp
        rw [e]
        exact F
      · rw [stk_add]
        refine Forest.node ?_
        have e : stkOf s = s.W.flatMap (·.2) ++ opsOf (.name (ofL p)) := by
          unfold stkOf
          rw [if_neg (fun z => by rw [hb] at z; simp at z)]
          rfl
        rw [← e]
        exact F
theorem rrun_forest {okw : Str → Bool} : ∀ {ps : List (List Nat)} {s s' : Rd}, Forest s.N (stkOf s) → rrun okw s ps = some s' → Forest s'.N (stkOf s')
  | [], s, s', R, h => by
    obtain rfl := Option.some.inj h
    exact R
  | p :: ps, s, s', R, h => by
    rw [rrun] at h
    obtain ⟨t, h1, h2⟩ := Option.bind_eq_some_iff.mp h
    exact rrun_forest (rstep_forest R h1) h2
theorem good_forest {okw : Str → Bool} {t : List Nat} {ns : List Nd} (g : GoodE okw t 0 ns) : Forest ns [ns.length - 1] :=
  rrun_forest (s := ⟨[], [], false⟩) (by unfold stkOf; simp; exact .nil) (good_run g)

/-! ### ranges -/
def fst (N : List Nd) (i : Nat) : Nat := (firstsL N).getD i 0
theorem fst_old {N : List Nd} {nd : Nd} {i : Nat} (h : i < N.length) : fst (N ++ [nd]) i = fst N i := by
  unfold fst
  rw [firstsL_snoc, List.getD_eq_getElem?_getD, List.getD_eq_getElem?_getD, List.getElem?_append_left (by rw [firstsL_len]; exact h)]
theorem fst_new {N : List Nd} {nd : Nd} : fst (N ++ [nd]) N.length = match opsOf nd with | [] => N.length | n :: _ => fst N n := by
  unfold fst
  rw [firstsL_snoc, List.getD_eq_getElem?_getD, List.getElem?_append_right (by rw [firstsL_len]; exact Nat.le_refl _), firstsL_len, Nat.sub_self]
  show fstOf (firstsL N) nd = _
  unfold fstOf
  cases opsOf nd with
  | nil => exact firstsL_len N
  | cons n r => rfl
/-- the ranges of these roots lie side by side from lo to hi -/
def Part (f : Nat → Nat) : Nat → List Nat → Nat → Prop
  | lo, [], hi => lo = hi
  | lo, r :: rs, hi => f r = lo ∧ lo ≤ r ∧ Part f (r + 1) rs hi
theorem part_append (f : Nat → Nat) : ∀ (a b : List Nat) (lo hi : Nat), Part f lo (a ++ b) hi ↔ ∃ m, Part f lo a m ∧ Part f m b hi
  | [], b, lo, hi => ⟨fun h => ⟨lo, rfl, h⟩, fun ⟨m, h1, h2⟩ => by have h1 : lo = m := h1; subst h1; exact h2⟩
  | r :: a, b, lo, hi => by
    constructor
    · rintro ⟨h1, h2, h3⟩
      obtain ⟨m, h4, h5⟩ := (part_append f a b _ hi).mp h3
      exact ⟨m, ⟨h1, h2, h4⟩, h5⟩
    · rintro ⟨m, ⟨h1, h2, h4⟩, h5⟩
      exact ⟨h1, h2, (part_append f a b _ hi).mpr ⟨m, h4, h5⟩⟩
theorem part_le {f : Nat → Nat} : ∀ {a : List Nat} {lo hi : Nat}, Part f lo a hi → lo ≤ hi
  | [], lo, hi, h => Nat.le_of_eq h
  | r :: a, lo, hi, ⟨_, h2, h3⟩ => by have := part_le h3; omega
theorem part_mem {f : Nat → Nat} : ∀ {a : List Nat} {lo hi : Nat}, Part f lo a hi → ∀ r ∈ a, lo ≤ f r ∧ f r ≤ r ∧ r < hi
  | [], _, _, _, r, hr => by cases hr
  | q :: a, lo, hi, ⟨h1, h2, h3⟩, r, hr => by
    rcases List.mem_cons.mp hr with e | hr
    · subst e
      have := part_le h3
      omega
    · have := part_mem h3 r hr
      omega
theorem part_cover {f : Nat → Nat} : ∀ {a : List Nat} {lo hi : Nat}, Part f lo a hi → ∀ i, lo ≤ i → i < hi → ∃ r ∈ a, f r ≤ i ∧ i ≤ r
  | [], lo, hi, h, i, h1, h2 => by have h : lo = hi := h; omega
  | q :: a, lo, hi, ⟨h1, h2, h3⟩, i, h4, h5 => by
    by_cases e : i ≤ q
    · exact ⟨q, List.mem_cons_self, by omega, e⟩
    · obtain ⟨r, hr, h6⟩ := part_cover h3 i (by omega) h5
      exact ⟨r, List.mem_cons_of_mem _ hr, h6⟩
theorem part_congr {f g : Nat → Nat} : ∀ {a : List Nat} {lo hi : Nat}, (∀ r ∈ a, f r = g r) → Part f lo a hi → Part g lo a hi
  | [], _, _, _, h => h
  | r :: a, _, _, e, ⟨h1, h2, h3⟩ => ⟨(e r List.mem_cons_self).symm.trans h1, h2, part_congr (fun q hq => e q (List.mem_cons_of_mem _ hq)) h3⟩
/-! ### going up -/
def parF (N : List Nd) (i : Nat) : Option Nat := (List.range N.length).foldl (fun o j => match N[j]? with | some nd => if i ∈ opsOf nd then some j else o | none => o) none
theorem parF_snoc (N : List Nd) (nd : Nd) (i : Nat) : parF (N ++ [nd]) i = if i ∈ opsOf nd then some N.length else parF N i := by
  unfold parF
  rw [List.length_append, List.length_singleton, List.range_succ, List.foldl_append]
  have e : ∀ (l : List Nat) (o : Option Nat), (∀ j ∈ l, j < N.length) → l.foldl (fun o j => match (N ++ [nd])[j]? with | some nd => if i ∈ opsOf nd then some j else o | none => o) o = l.foldl (fun o j => match N[j]? with | some nd => if i ∈ opsOf nd then some j else o | none => o) o := by
    intro l
    induction l with
    | nil => intro o _; rfl
    | cons j l ih =>
      intro o hj
      rw [List.foldl_cons, List.foldl_cons, List.getElem?_append_left (hj j List.mem_cons_self)]
      exact ih _ fun q hq => hj q (List.mem_cons_of_mem _ hq)
  rw [e _ _ fun j hj => List.mem_range.mp hj, List.foldl_cons, List.foldl_nil, List.getElem?_append_right (Nat.le_refl _), Nat.sub_self]
  rfl
inductive Anc (p : Nat → Option Nat) : Nat → Nat → Prop
  | refl (i : Nat) : Anc p i i
  | step {i j k : Nat} : p i = some j → Anc p j k → Anc p i k
structure ForOk (N : List Nd) (st : List Nat) : Prop where
  part : Part (fst N) 0 st N.length
  root : ∀ r ∈ st, parF N r = none
  up : ∀ i j, parF N i = some j → i < j ∧ j < N.length
  anc : ∀ i at_, i < N.length → at_ < N.length → (Anc (parF N) i at_ ↔ fst N at_ ≤ i ∧ i ≤ at_)
  le : ∀ at_, at_ < N.length → fst N at_ ≤ at_
theorem forest_ok {N : List Nd} {st : List Nat} (F : Forest N st) : ForOk N st := by
  induction F with
  | nil => exact ⟨rfl, (fun r h => by cases h), (fun i j h => by cases h), (fun i a h => by cases h), (fun a h => by cases h)⟩
  | @node N r nd F ih =>
    obtain ⟨part, root, up, anc, le⟩ := ih
    obtain ⟨m, pr, po⟩ := (part_append _ _ _ _ _).mp part
    have hps : ∀ i, parF (N ++ [nd]) i = if i ∈ opsOf nd then some N.length else parF N i := parF_snoc N nd
    have hlen : (N ++ [nd]).length = N.length + 1 := by rw [List.length_append, List.length_singleton]
    have hos : ∀ o ∈ opsOf nd, m ≤ fst N o ∧ fst N o ≤ o ∧ o < N.length := part_mem po
    have hrs : ∀ q ∈ r, q < m := fun q hq => (part_mem pr q hq).2.2
    have hm : m ≤ N.length := part_le po
    have fnew : fst (N ++ [nd]) N.length = m ∧ m ≤ N.length := by
      refine ⟨?_, hm⟩
      rw [fst_new]
      cases ho : opsOf nd with
      | nil =>
        rw [ho] at po
        exact (show m = N.length from po).symm
      | cons o os =>
        rw [ho] at po
        exact po.1
    have old1 : ∀ i at_, i < N.length → at_ < N.length → (Anc (parF (N ++ [nd])) i at_ ↔ Anc (parF N) i at_) := by
      intro i at_ hi ha
      constructor
      · intro h
        have gen : ∀ {x y : Nat}, Anc (parF (N ++ [nd])) x y → y < N.length → x < N.length → Anc (parF N) x y := by
          intro x y hxy
          induction hxy with
          | refl => exact fun _ _ => .refl _
          | @step x j y hp hr ih2 =>
            intro hy hx
            rw [hps] at hp
            by_cases e : x ∈ opsOf nd
            · rw [if_pos e] at hp
              cases hp
              cases hr with
              | refl => omega
              | step hp2 _ =>
                rw [hps, if_neg (fun z => by have := (hos _ z).2.2; omega)] at hp2
                have := up _ _ hp2
                omega
            · rw [if_neg e] at hp
              exact .step hp (ih2 hy (up _ _ hp).2)
        exact gen h ha hi
      · intro h
        induction h with
        | refl => exact .refl _
        | @step x j y hp hr ih2 =>
          refine .step ?_ (ih2 (up _ _ hp).2 ha)
          rw [hps, if_neg (fun z => by rw [root x (List.mem_append_right _ z)] at hp; cases hp)]
          exact hp
    refine ⟨?_, ?_, ?_, ?_, ?_⟩
    · rw [hlen]
      refine (part_append _ _ _ _ _).mpr ⟨m, part_congr (fun q hq => (fst_old (by have := hrs q hq; omega)).symm) pr, fnew.1, fnew.2, rfl⟩
    · intro q hq
      rw [hps]
      rcases List.mem_append.mp hq with h | h
      · rw [if_neg (fun z => by have := hos q z; have := hrs q h; omega)]
        exact root q (List.mem_append_left _ h)
      · rw [List.mem_singleton.mp h, if_neg (fun z => by have := (hos _ z).2.2; omega)]
        cases e : parF N N.length with
        | none => rfl
        | some j => have := up _ _ e; omega
    · intro i j h
      rw [hps] at h
      rw [hlen]
      by_cases e : i ∈ opsOf nd
      · rw [if_pos e] at h
        cases h
        exact ⟨(hos i e).2.2, by omega⟩
      · rw [if_neg e] at h
        have := up i j h
        omega
    · intro i at_ hi ha
      rw [hlen] at hi ha
      by_cases e : at_ = N.length
      · subst e
        rw [fnew.1]
        by_cases e2 : i = N.length
        · subst e2
          exact ⟨fun _ => ⟨fnew.2, Nat.le_refl _⟩, fun _ => .refl _⟩
        · have hi' : i < N.length := by omega
          constructor
          · intro h
            refine ⟨?_, by omega⟩
            have gen : ∀ {x y : Nat}, Anc (parF (N ++ [nd])) x y → y = N.length → x < N.length → ∃ o ∈ opsOf nd, Anc (parF N) x o := by
              intro x y hxy
              induction hxy with
              | refl => intro h1 h2; omega
              | @step x j y hp hr ih2 =>
                intro hy hx
                rw [hps] at hp
                by_cases e : x ∈ opsOf nd
                · exact ⟨x, e, .refl _⟩
                · rw [if_neg e] at hp
                  obtain ⟨o, h1, h2⟩ := ih2 hy (up _ _ hp).2
                  exact ⟨o, h1, .step hp h2⟩
            obtain ⟨o, h1, h2⟩ := gen h rfl hi'
            have h3 := hos o h1
            have := (anc i o hi' h3.2.2).mp h2
            omega
          · rintro ⟨h1, _⟩
            obtain ⟨o, ho, h2, h3⟩ := part_cover po i h1 hi'
            have h4 := (anc i o hi' (hos o ho).2.2).mpr ⟨h2, h3⟩
            have h5 := (old1 i o hi' (hos o ho).2.2).mpr h4
            have tr : ∀ {x y z : Nat}, Anc (parF (N ++ [nd])) x y → Anc (parF (N ++ [nd])) y z → Anc (parF (N ++ [nd])) x z := by
              intro x y z h1 h2
              induction h1 with
              | refl => exact h2
              | step hp _ ih => exact .step hp (ih h2)
            exact tr h5 (.step (by rw [hps, if_pos ho]) (.refl _))
      · have ha' : at_ < N.length := by omega
        rw [fst_old ha']
        by_cases e2 : i = N.length
        · subst e2
          constructor
          · intro h
            cases h with
            | refl => exact absurd rfl e
            | step hp _ =>
              rw [hps, if_neg (fun z => by have := (hos _ z).2.2; omega)] at hp
              have := up _ _ hp
              omega
          · rintro ⟨_, h⟩
            omega
        · rw [old1 i at_ (by omega) ha']
          exact anc i at_ (by omega) ha'
    · intro a ha
      rw [hlen] at ha
      by_cases e : a = N.length
      · subst e
        rw [fnew.1]
        exact fnew.2
      · rw [fst_old (by omega)]
        exact le a (by omega)
/-- so many steps up -/
def upB (p : Nat → Option Nat) : Nat → Nat → Nat → Bool
  | 0, _, _ => false
  | k + 1, i, a => decide (i = a) || (match p i with | some j => upB p k j a | none => false)
theorem upB_anc {p : Nat → Option Nat} {n : Nat} (up : ∀ i j, p i = some j → i < j ∧ j < n) : ∀ (k i a : Nat), i < n → n ≤ k + i → (upB p k i a = true ↔ Anc p i a)
  | 0, i, a, hi, hk => by omega
  | k + 1, i, a, hi, hk => by
    rw [upB, Bool.or_eq_true, decide_eq_true_iff]
    constructor
    · rintro (h | h)
      · rw [h]
        exact .refl _
      · cases e : p i with
        | none => rw [e] at h; cases h
        | some j =>
          rw [e] at h
          have := up i j e
          exact .step e ((upB_anc up k j a this.2 (by omega)).mp h)
    · intro h
      cases h with
      | refl => exact .inl rfl
      | @step _ j _ hp hr =>
        right
        rw [hp]
        have := up i j hp
        exact (upB_anc up k j a this.2 (by omega)).mpr hr
end UL

set_option Elab.async false
set_option linter.all false
set_option maxRecDepth 100000
/-! own: o.m(e, ..) in a try, where it may let an error out -/
namespace UL
open PySem PySem.Spec PyProof.Rows L2 Evl TL
def tMethT (C : Addr) (m : Str) (sp : Sp) (E : L2.St → XK) (ta : TE) (t : TA) : TE := fun σ H Q => ta σ H fun x H1 => ∃ a dx fs, x = .ref a ∧ H1 a = some (.ins C dx fs) ∧ fs.lookup m = none ∧ t σ H1 fun vs H2 => sp (.ref a :: vs) H2 Q (E σ)
section
variable {X : Cx} {CX : CXT} {k : Nat} {f C : Addr} {fd : FuncData} {ps : List Str} {sp : Sp} {E : L2.St → XK} {m : Str} {pos apos : Pos} {e o : Expr} {es : List Expr} {ta : TE} {t : TA}
theorem pe_methT {pl : Sem Bool} (he : PE X o ta) (c : Cls X.K C) (hm : Meth X.K C m f) (F : FnOk X.prog X.w X.K X.mg X.base CX k f fd ps sp) (hr : Room k X.A) (hb : L2.Binds X.K fd ps []) (hx : ∀ σ, PassesAt CX X σ (E σ)) (ha : PA X (e :: es) t)
    (hst : starEach (e :: es) X.env = (false, eval e X.env) :: starEach es X.env := by rfl) (hpl : (backTo pos (starEach es X.env)).any (·.1) = false := by rfl)
    (ht : eval (.Call (.Attribute o m apos) (e :: es) [] pos) X.env = (do
      let ov ← eval o X.env
      standAt apos.atName
      let (f, first) ← holding [ov] (getMethod ov m pl)
      callWith pos f first (backTo pos (starEach (e :: es) X.env)) (backToKw pos (keywordEach [] X.env))) := by rfl) :
    PE X (.Call (.Attribute o m apos) (e :: es) [] pos) (tMethT C m sp E ta t) := by
  refine ⟨fun pins s σ H Q I h => ?_⟩
  refine PySem.W.methodCall_KW (pl := pl) (thn (he.run pins s σ H _ I h) fun u s1 ⟨x, H1, I1, rx, a, dx, fs, ex, ea, l, q⟩ => ?_) ht
  subst ex
  obtain rfl : u = Value.ref a := rx
  refine getmeth_ok I1 ea c hm l ?_
  refine PySem.W.callWith_K (first := [.ref a]) (h₀ := X.base) I.ok.mod.kin hm.kp (thn (ha.run pos pins s1 σ H1 _ I1 q) fun us s2 ⟨vs, H2, I2, r, q2⟩ => ⟨I2.kIn, ?_⟩) hst hpl
  exact run_fnS (us := .ref a :: us) (vs := .ref a :: vs) F hr hb (hx σ) I2 (.cons rfl r) q2
end
end UL

set_option Elab.async false
set_option linter.all false
set_option maxRecDepth 100000
/-! own: the text of the nodes -/
namespace UL
open PySem PySem.Spec PyProof.Rows L2 Evl TL

def ndT (f : Nat → List Nat) : Nd → List Nat
  | .name w => tl w
  | .call w os => tl w ++ 40 :: joinC (os.map f) ++ [41]
  | .op w os => tl w ++ 40 :: joinC (os.map f) ++ [41]
def txs (N : List Nd) : List (List Nat) := N.foldl (fun T nd => T ++ [ndT (fun i => T.getD i []) nd]) []
def tx (N : List Nd) (i : Nat) : List Nat := (txs N).getD i []
theorem txs_snoc (N : List Nd) (nd : Nd) : txs (N ++ [nd]) = txs N ++ [ndT (tx N) nd] := by
  unfold txs
  rw [List.foldl_append]
  rfl
theorem txs_len (N : List Nd) : (txs N).length = N.length := by
  have gen : ∀ (N : List Nd) (T : List (List Nat)), (N.foldl (fun T nd => T ++ [ndT (fun i => T.getD i []) nd]) T).length = T.length + N.length := by
    intro N
    induction N with
    | nil => intro T; rfl
    | cons nd r ih =>
      intro T
      rw [List.foldl_cons, ih, List.length_append, List.length_singleton, List.length_cons]
      omega
  have := gen N []
  rw [List.length_nil, Nat.zero_add] at this
  exact this
theorem tx_old {N : List Nd} {nd : Nd} {i : Nat} (h : i < N.length) : tx (N ++ [nd]) i = tx N i := by
  unfold tx
  rw [txs_snoc, List.getD_eq_getElem?_getD, List.getD_eq_getElem?_getD, List.getElem?_append_left (by rw [txs_len]; exact h)]
theorem tx_new {N : List Nd} {nd : Nd} : tx (N ++ [nd]) N.length = ndT (tx N) nd := by
  show (txs (N ++ [nd])).getD N.length [] = _
  rw [txs_snoc, List.getD_eq_getElem?_getD, List.getElem?_append_right (by rw [txs_len]; exact Nat.le_refl _), txs_len, Nat.sub_self]
  rfl
/-! ### what was read -/
theorem cut_flat : ∀ (t p : List Nat), (cutGo p t).flatten = p ++ t
  | [], p => by
    rw [cutGo_nil]
    by_cases h : p = []
    · rw [if_pos h, h]; rfl
    · rw [if_neg h]; simp
  | c :: r, p => by
    rw [cutGo_cons]
    by_cases h1 : c = 40
    · rw [if_pos h1, List.flatten_cons, cut_flat r []]
      simp
    · rw [if_neg h1]
      by_cases h2 : c = 44 ∨ c = 41
      · rw [if_pos h2, List.flatten_append, List.flatten_cons, cut_flat r []]
        by_cases h3 : p = []
        · rw [if_pos h3, h3]; simp
        · rw [if_neg h3]; simp
      · rw [if_neg h2, cut_flat r (p ++ [c])]
        simp
def midT (f : Nat → List Nat) (os : List Nat) : List Nat := os.flatMap fun o => f o ++ [44]
theorem joinC_snoc : ∀ (ts : List (List Nat)) (t : List Nat), joinC (ts ++ [t]) = (ts.flatMap fun u => u ++ [44]) ++ t
  | [], t => rfl
  | [u], t => by simp [joinC]
  | u :: v :: r, t => by
    have := joinC_snoc (v :: r) t
    show joinC (u :: v :: (r ++ [t])) = _
    rw [joinC]
    rw [show v :: (r ++ [t]) = (v :: r) ++ [t] from rfl, this, List.flatMap_cons]
    simp
theorem mid_join (f : Nat → List Nat) (os : List Nat) (o : Nat) : midT f os ++ f o = joinC ((os ++ [o]).map f) := by
  rw [List.map_append, List.map_singleton, joinC_snoc, List.flatMap_map]
  rfl
theorem join_mid (f : Nat → List Nat) {os : List Nat} (h : os ≠ []) : joinC (os.map f) ++ [44] = midT f os := by
  rcases List.eq_nil_or_concat os with e | ⟨q, o, e⟩
  · exact absurd e h
  · rw [List.concat_eq_append] at e
    subst e
    rw [← mid_join]
    unfold midT
    rw [List.flatMap_append]
    simp
def segT (f : Nat → List Nat) (V : Wt) : List Nat := V.flatMap fun y => tl y.1 ++ 40 :: midT f y.2
theorem segT_snoc (f : Nat → List Nat) (V : Wt) (w : Str) (os : List Nat) : segT f (V ++ [(w, os)]) = segT f V ++ (tl w ++ 40 :: midT f os) := by
  unfold segT
  rw [List.flatMap_append]
  simp
theorem midT_congr {f g : Nat → List Nat} {os : List Nat} (h : ∀ o ∈ os, f o = g o) : midT f os = midT g os := by
  unfold midT
  induction os with
  | nil => rfl
  | cons o r ih =>
    rw [List.flatMap_cons, List.flatMap_cons, h o List.mem_cons_self, ih fun q hq => h q (List.mem_cons_of_mem _ hq)]
theorem segT_congr {f g : Nat → List Nat} {V : Wt} (h : ∀ y ∈ V, ∀ o ∈ y.2, f o = g o) : segT f V = segT g V := by
  unfold segT
  induction V with
  | nil => rfl
  | cons y r ih =>
    rw [List.flatMap_cons, List.flatMap_cons, midT_congr (h y List.mem_cons_self), ih fun q hq => h q (List.mem_cons_of_mem _ hq)]
/-- the text that was read up to here -/
inductive SoFar : Rd → List Nat → Prop
  | start : SoFar ⟨[], [], false⟩ []
  | whole {N : List Nd} : SoFar ⟨N, [], true⟩ (tx N (N.length - 1))
  | open_ {N : List Nd} {V : Wt} {w : Str} {os : List Nat} : SoFar ⟨N, V ++ [(w, os)], false⟩ (segT (tx N) V ++ (tl w ++ 40 :: midT (tx N) os))
  | shut {N : List Nd} {V : Wt} {w : Str} {os : List Nat} (h : os ≠ []) : SoFar ⟨N, V ++ [(w, os)], true⟩ (segT (tx N) V ++ (tl w ++ 40 :: joinC (os.map (tx N))))
theorem sofar_add {N : List Nd} {V : Wt} {nd : Nd} (hw : ∀ y ∈ V, ∀ o ∈ y.2, o < N.length) : SoFar ⟨N ++ [nd], addTop V N.length, true⟩ (segT (tx N) V ++ ndT (tx N) nd) := by
  rcases List.eq_nil_or_concat V with e | ⟨U, ⟨w, os⟩, e⟩
  · subst e
    have h := SoFar.whole (N := N ++ [nd])
    rw [List.length_append, List.length_singleton, Nat.add_sub_cancel, tx_new] at h
    exact h
  · rw [List.concat_eq_append] at e
    subst e
    rw [addTop_snoc, segT_snoc]
    have h := SoFar.shut (N := N ++ [nd]) (V := U) (w := w) (os := os ++ [N.length]) (by simp)
    rw [← mid_join, tx_new, segT_congr (g := tx N) (fun y hy o ho => tx_old (hw y (List.mem_append_left _ hy) o ho)), midT_congr (g := tx N) (fun o ho => tx_old (hw (w, os) (by simp) o ho))] at h
    rw [List.append_assoc, List.append_assoc, List.cons_append]
    exact h
theorem oper_word {okw : Str → Bool} {w : Str} {os : List Nat} {nd : Nd} (h : oper okw w os = some nd) : nd = .call w os ∨ nd = .op w os := by
  cases hl : opsT.lookup w with
  | some n =>
    rw [oper_at hl] at h
    exact .inr (some_if h).2.symm
  | none =>
    rw [oper_no hl] at h
    exact .inl (some_if h).2.symm
theorem sofar_step {okw : Str → Bool} {s s' : Rd} {p C : List Nat} (R : WfR s) (J : SoFar s C) (h : rstep okw s p = some s') : SoFar s' (C ++ p) := by
  by_cases e1 : p = [44]
  · subst e1
    obtain ⟨h1, h2, rfl⟩ := rstep_comma h
    cases J with
    | start => cases h2
    | whole => exact absurd rfl h1
    | open_ => cases h2
    | @shut N V w os hos =>
      rw [List.append_assoc, List.append_assoc, List.cons_append, join_mid _ hos]
      exact .open_
  · by_cases e2 : p = [41]
    · subst e2
      obtain ⟨W, w, os, nd, hW, hb, hop, rfl⟩ := rstep_close h
      have hnd : ndT (tx s.N) nd = tl w ++ 40 :: joinC (os.map (tx s.N)) ++ [41] := by
        rcases oper_word hop with rfl | rfl <;> rfl
      have hC : C ++ [41] = segT (tx s.N) W ++ ndT (tx s.N) nd := by
        rw [hnd]
        cases J with
        | start => cases W <;> cases hW
        | whole => cases W <;> cases hW
        | @open_ N V w' os' =>
          have hW : V ++ [(w', os')] = W ++ [(w, os)] := hW
          obtain ⟨rfl, h3⟩ := List.append_inj' hW rfl
          cases h3
          rcases hb with rfl | hb
          · simp [midT, joinC]
          · cases hb
        | @shut N V w' os' h =>
          have hW : V ++ [(w', os')] = W ++ [(w, os)] := hW
          obtain ⟨rfl, h3⟩ := List.append_inj' hW rfl
          cases h3
          simp
      rw [hC]
      exact sofar_add fun y hy o ho => R.ww y (by rw [hW]; exact List.mem_append_left _ hy) o ho
    · obtain ⟨hb, ⟨hp, rfl⟩ | ⟨_, _, rfl⟩⟩ := rstep_else e1 e2 h
      · have hp2 : p = p.dropLast ++ [40] := by
          rcases List.eq_nil_or_concat p with e | ⟨q, c, e⟩
          · rw [e] at hp; cases hp
          · rw [List.concat_eq_append] at e
            rw [e, List.getLast?_concat] at hp
            rw [e, List.dropLast_concat, Option.some.inj hp]
        have fin : ∀ V N, C = segT (tx N) V → SoFar ⟨N, V ++ [(ofL p.dropLast, [])], false⟩ (C ++ p) := fun V N hC => by
          have h := SoFar.open_ (N := N) (V := V) (w := ofL p.dropLast) (os := [])
          rw [tl_ofL] at h
          rw [hC]
          conv => arg 2; rw [hp2]
          exact h
        cases J with
        | start => exact fin [] [] rfl
        | whole => cases hb
        | @open_ N V w os => exact fin _ N (segT_snoc _ _ _ _).symm
        | shut h => cases hb
      · have hC : C ++ p = segT (tx s.N) s.W ++ ndT (tx s.N) (.name (ofL p)) := by
          rw [show ndT (tx s.N) (.name (ofL p)) = p from tl_ofL p]
          cases J with
          | start => rfl
          | whole => cases hb
          | open_ => rw [segT_snoc]
          | shut h => cases hb
        rw [hC]
        exact sofar_add R.ww
theorem sofar_run {okw : Str → Bool} : ∀ {ps : List (List Nat)} {s s' : Rd} {C : List Nat}, WfR s → SoFar s C → rrun okw s ps = some s' → SoFar s' (C ++ ps.flatten)
  | [], s, s', C, R, J, h => by
    obtain rfl := Option.some.inj h
    rw [List.flatten_nil, List.append_nil]
    exact J
  | p :: ps, s, s', C, R, J, h => by
    rw [rrun] at h
    obtain ⟨t, h1, h2⟩ := Option.bind_eq_some_iff.mp h
    rw [List.flatten_cons, ← List.append_assoc]
    exact sofar_run (rstep_wf R h1) (sofar_step R J h1) h2
theorem good_text {okw : Str → Bool} {t : List Nat} {ns : List Nd} (g : GoodE okw t 0 ns) : tx ns (ns.length - 1) = t := by
  have h := sofar_run (s := ⟨[], [], false⟩) ⟨(fun j nd h => by cases h), (fun y hy => by cases hy)⟩ .start (good_run g)
  rw [cut_flat, List.nil_append, List.nil_append] at h
  generalize hs : (⟨ns, [], true⟩ : Rd) = s at h
  cases h with
  | start => exact absurd (congrArg Rd.b hs) (by simp)
  | whole => cases hs; rfl
  | open_ => exact absurd (congrArg Rd.b hs) (by simp)
  | @shut N V w os h => exact absurd (congrArg Rd.W hs) (by simp)
/-! ### nodes that can be read -/
structure WordOk (okw : Str → Bool) : Prop where
  pl : ∀ w, okw w = true → plainL (tl w)
  ne : ∀ w, okw w = true → tl w ≠ []
  le : ∀ w, okw w = true → (tl w).length ≤ 8
  no : ∀ w, okw w = true → opsT.lookup w = none
def GoodNd (okw : Str → Bool) : Nd → Prop
  | .name w => okw w = true
  | .call w os => okw w = true ∧ os.length ≤ 4
  | .op w os => opsT.lookup w = some (os.length : Int)
theorem op_pl {w : Str} {n : Int} (h : opsT.lookup w = some n) : plainL (tl w) ∧ (tl w).length ≤ 8 ∧ n ≤ 2 := by
  unfold opsT at h
  have e : ∀ (a b : Str) (m : Int) (r : List (Str × Int)), w ≠ a → ((a, m) :: r).lookup w = r.lookup w := fun a b m r hne => by
    rw [List.lookup_cons]
    have : (w == a) = false := by
      rw [beq_eq_false_iff_ne]
      exact hne
    rw [this]
  by_cases h1 : w = "part"
  · subst h1
    rw [List.lookup_cons_self] at h
    exact ⟨by unfold plainL; decide +kernel, by decide +kernel, by have := Option.some.inj h; omega⟩
  · rw [e _ "" _ _ h1] at h
    by_cases h2 : w = "pick"
    · subst h2
      rw [List.lookup_cons_self] at h
      exact ⟨by unfold plainL; decide +kernel, by decide +kernel, by have := Option.some.inj h; omega⟩
    · rw [e _ "" _ _ h2] at h
      by_cases h3 : w = "then"
      · subst h3
        rw [List.lookup_cons_self] at h
        exact ⟨by unfold plainL; decide +kernel, by decide +kernel, by have := Option.some.inj h; omega⟩
      · rw [e _ "" _ _ h3] at h
        cases h
theorem joinC_le : ∀ b : List It1, (∀ i ∈ b, i.1.length ≤ 14 * i.2.length) → (joinC (b.map (·.1))).length ≤ 14 * (flat b).length + b.length
  | [], _ => Nat.zero_le _
  | [i], h => by
    have := h i List.mem_cons_self
    simp only [List.map_cons, List.map_nil, joinC, flat, List.flatMap_cons, List.flatMap_nil, List.append_nil, List.length_cons, List.length_nil]
    omega
  | i :: j :: r, h => by
    have h1 := h i List.mem_cons_self
    have h2 := joinC_le (j :: r) fun k hk => h k (List.mem_cons_of_mem _ hk)
    rw [show (flat (i :: j :: r)).length = i.2.length + (flat (j :: r)).length by simp [flat]]
    rw [List.map_cons, List.map_cons, joinC, List.length_append, List.length_cons, List.length_cons]
    rw [List.map_cons] at h2
    omega
theorem flat_snoc (a : List It1) (i : It1) : flat (a ++ [i]) = flat a ++ i.2 := by simp [flat]
/-- every forest of good nodes is read from some texts -/
theorem forest_stk {okw : Str → Bool} (K : WordOk okw) {N : List Nd} {st : List Nat} (F : Forest N st) : (∀ nd ∈ N, GoodNd okw nd) →
    ∃ its : List It1, Stk okw 0 its ∧ flat its = N ∧ rootsL 0 its = st ∧ ∀ i ∈ its, i.1.length ≤ 14 * i.2.length := by
  induction F with
  | nil => exact fun _ => ⟨[], trivial, rfl, rfl, fun i h => by cases h⟩
  | @node N r nd F ih =>
    intro hN
    obtain ⟨its, hs, hf, hr, hl⟩ := ih fun d hd => hN d (List.mem_append_left _ hd)
    have hnd := hN nd (List.mem_append_right _ (List.mem_singleton.mpr rfl))
    have hlen : its.length = r.length + (opsOf nd).length := by
      have := congrArg List.length hr
      rw [roots_len, List.length_append] at this
      exact this
    obtain ⟨a, b, rfl, hal⟩ : ∃ a b, its = a ++ b ∧ a.length = r.length := ⟨its.take r.length, its.drop r.length, (List.take_append_drop _ _).symm, by rw [List.length_take]; omega⟩
    obtain ⟨sa, sb⟩ := (stk_append okw a b 0).mp hs
    rw [Nat.zero_add] at sb
    rw [roots_append, Nat.zero_add] at hr
    obtain ⟨ra, rb⟩ := List.append_inj hr (by rw [roots_len]; exact hal)
    have hfl : N.length = (flat a).length + (flat b).length := by
      rw [← hf]
      simp [flat]
    have hfab : flat a ++ flat b = N := by
      rw [← hf]
      simp [flat]
    have hbl : b.length = (opsOf nd).length := by
      rw [← rb, roots_len]
    have jl := joinC_le b fun i hi => hl i (List.mem_append_right _ hi)
    obtain ⟨t, hg, htl⟩ : ∃ t, GoodE okw t (flat a).length (flat b ++ [nd]) ∧ t.length ≤ 14 * (flat b ++ [nd]).length := by
      cases nd with
      | name w =>
        have hb : b = [] := List.eq_nil_of_length_eq_zero hbl
        subst hb
        have h := good_name (okw := okw) (lo := (flat a).length) (K.pl w hnd) (K.ne w hnd) (by rw [ofL_tl]; exact hnd)
        rw [ofL_tl] at h
        have := K.le w hnd
        exact ⟨tl w, h, by rw [List.length_append, List.length_singleton]; omega⟩
      | call w os =>
        obtain ⟨h1, h2⟩ := hnd
        have ho : oper okw (ofL (tl w)) (rootsL (flat a).length b) = some (.call w os) := by
          rw [ofL_tl, rb, oper_no (K.no w h1), if_pos ⟨h1, h2⟩]
          rfl
        refine ⟨_, good_op sb (K.pl w h1) ho, ?_⟩
        have := K.le w h1
        have hb4 : b.length ≤ 4 := by rw [hbl]; exact h2
        rw [List.length_append, List.length_append, List.length_cons, List.length_append, List.length_singleton, List.length_singleton]
        omega
      | op w os =>
        have h1 : opsT.lookup w = some (os.length : Int) := hnd
        have ho : oper okw (ofL (tl w)) (rootsL (flat a).length b) = some (.op w os) := by
          rw [ofL_tl, rb, oper_at h1]
          show (if (os.length : Int) = (os.length : Int) then _ else _) = _
          rw [if_pos rfl]
          rfl
        obtain ⟨p1, p2, p3⟩ := op_pl h1
        refine ⟨_, good_op sb p1 ho, ?_⟩
        have hb4 : b.length ≤ 4 := by
          rw [hbl]
          show os.length ≤ 4
          omega
        rw [List.length_append, List.length_append, List.length_cons, List.length_append, List.length_singleton, List.length_singleton]
        omega
    refine ⟨a ++ [(t, flat b ++ [nd])], (stk_append okw a _ 0).mpr ⟨sa, by rw [Nat.zero_add]; exact ⟨hg, trivial⟩⟩, ?_, ?_, ?_⟩
    · rw [flat_snoc, ← List.append_assoc, hfab]
    · rw [roots_append, Nat.zero_add, ra]
      show r ++ [(flat a).length + (flat b ++ [nd]).length - 1] = _
      rw [List.length_append, List.length_singleton, hfl]
      congr 2
    · intro i hi
      rcases List.mem_append.mp hi with h | h
      · exact hl i (List.mem_append_left _ h)
      · rw [List.mem_singleton.mp h]
        exact htl
theorem forest_good {okw : Str → Bool} (K : WordOk okw) {N : List Nd} {r : Nat} (F : Forest N [r]) (hN : ∀ nd ∈ N, GoodNd okw nd) : GoodE okw (tx N (N.length - 1)) 0 N ∧ (tx N (N.length - 1)).length ≤ 14 * N.length := by
  obtain ⟨its, hs, hf, hr, hl⟩ := forest_stk K F hN
  have h1 : its.length = 1 := by
    have := congrArg List.length hr
    rw [roots_len] at this
    exact this
  match its, h1 with
  | [(t, ns)], _ =>
    have hf : ns = N := by rw [← hf]; simp [flat]
    subst hf
    have hg : GoodE okw t 0 ns := hs.1
    rw [good_text hg]
    exact ⟨hg, hl (t, ns) List.mem_cons_self⟩
/-- other words, the same operands -/
theorem forest_same {N : List Nd} {st : List Nat} (F : Forest N st) : ∀ {M : List Nd}, M.map opsOf = N.map opsOf → Forest M st := by
  induction F with
  | nil =>
    intro M h
    cases M with
    | nil => exact .nil
    | cons _ _ => cases h
  | @node N r nd F ih =>
    intro M h
    rcases List.eq_nil_or_concat M with e | ⟨L, d, e⟩
    · rw [e] at h
      simp at h
    · rw [List.concat_eq_append] at e
      subst e
      rw [List.map_append, List.map_append] at h
      obtain ⟨h1, h2⟩ := List.append_inj' h rfl
      have h2 : opsOf d = opsOf nd := by simpa using h2
      have hl : L.length = N.length := by
        have := congrArg List.length h1
        rw [List.length_map, List.length_map] at this
        exact this
      rw [← hl]
      refine .node ?_
      rw [h2]
      exact ih h1
/-! ### how long the texts are -/
def wordOf : Nd → Str
  | .name w => w
  | .call w _ => w
  | .op w _ => w
theorem joinC_len2 (f : Nat → List Nat) : ∀ os : List Nat, (joinC (os.map f)).length ≤ (os.map fun o => (f o).length).sum + os.length
  | [] => Nat.le_refl _
  | [o] => by simp [joinC]
  | o :: q :: r => by
    have := joinC_len2 f (q :: r)
    rw [List.map_cons] at this
    rw [List.map_cons, List.map_cons, joinC, List.length_append, List.length_cons, List.map_cons, List.sum_cons, List.length_cons]
    omega
theorem ndT_len (f : Nat → List Nat) {nd : Nd} (h : (tl (wordOf nd)).length ≤ 8) (h4 : (opsOf nd).length ≤ 4) : (ndT f nd).length ≤ 14 + ((opsOf nd).map fun o => (f o).length).sum := by
  cases nd with
  | name w =>
    show (tl w).length ≤ _
    have : (tl w).length ≤ 8 := h
    omega
  | call w os =>
    have h : (tl w).length ≤ 8 := h
    have h4 : os.length ≤ 4 := h4
    have := joinC_len2 f os
    show (tl w ++ 40 :: joinC (os.map f) ++ [41]).length ≤ 14 + (os.map fun o => (f o).length).sum
    rw [List.length_append, List.length_append, List.length_cons, List.length_singleton]
    omega
  | op w os =>
    have h : (tl w).length ≤ 8 := h
    have h4 : os.length ≤ 4 := h4
    have := joinC_len2 f os
    show (tl w ++ 40 :: joinC (os.map f) ++ [41]).length ≤ 14 + (os.map fun o => (f o).length).sum
    rw [List.length_append, List.length_append, List.length_cons, List.length_singleton]
    omega
theorem forest_mem {N : List Nd} {st : List Nat} (F : Forest N st) : ∀ r ∈ st, r < N.length := by
  induction F with
  | nil => exact fun r h => by cases h
  | @node N r nd F ih =>
    intro q hq
    rw [List.length_append, List.length_singleton]
    rcases List.mem_append.mp hq with h | h
    · have := ih q (List.mem_append_left _ h)
      omega
    · rw [List.mem_singleton.mp h]
      omega
theorem forest_len {N : List Nd} {st : List Nat} (F : Forest N st) : (∀ nd ∈ N, (tl (wordOf nd)).length ≤ 8 ∧ (opsOf nd).length ≤ 4) →
    (st.map fun r => (tx N r).length).sum ≤ 14 * N.length ∧ ∀ i, i < N.length → (tx N i).length ≤ 14 * N.length := by
  induction F with
  | nil => exact fun _ => ⟨Nat.le_refl _, fun i h => by cases h⟩
  | @node N r nd F ih =>
    intro hN
    obtain ⟨h1, h2⟩ := ih fun d hd => hN d (List.mem_append_left _ hd)
    obtain ⟨g1, g2⟩ := hN nd (List.mem_append_right _ (List.mem_singleton.mpr rfl))
    have hm := forest_mem F
    have hnew := ndT_len (tx N) g1 g2
    rw [List.map_append, List.sum_append] at h1
    have old : (r.map fun q => (tx (N ++ [nd]) q).length) = r.map fun q => (tx N q).length := List.map_congr_left fun q hq => by rw [tx_old (hm q (List.mem_append_left _ hq))]
    rw [List.length_append, List.length_singleton]
    refine ⟨?_, fun i hi => ?_⟩
    · rw [List.map_append, List.sum_append, old]
      show _ + ((tx (N ++ [nd]) N.length).length + 0) ≤ _
      rw [tx_new]
      omega
    · by_cases e : i < N.length
      · rw [tx_old e]
        have := h2 i e
        omega
      · have e : i = N.length := by omega
        rw [e, tx_new]
        omega
/-! ### nodes as data -/
def ndI (os : List Nat) : List PyData := os.map fun (n : Nat) => PyData.int (n : Int)
def nodeD : Nd → PyData
  | .name w => .tuple [.str "name", .str w]
  | .call w os => .tuple [.str "call", .str w, .tuple (ndI os)]
  | .op w os => .tuple (.str w :: ndI os)
theorem eqv_ndI : ∀ os qs : List Nat, PyData.eqvAll (ndI os) (ndI qs) = decide (os = qs)
  | [], [] => by rw [show decide (([] : List Nat) = []) = true from decide_eq_true rfl]; simp [ndI, PyData.eqvAll]
  | [], q :: r => by simp [ndI, PyData.eqvAll]
  | o :: r, [] => by simp [ndI, PyData.eqvAll]
  | o :: r, q :: t => by
    have h := eqv_ndI r t
    unfold ndI at h ⊢
    rw [List.map_cons, List.map_cons, PyData.eqvAll, h, PyData.eqv, Bool.eq_iff_iff]
    simp
    intro _
    omega
theorem eqv_str (a b : Str) : PyData.eqv (.str a) (.str b) = decide (a = b) := by
  rw [PyData.eqv, Bool.eq_iff_iff]
  simp
def OpW (w : Str) : Prop := w ≠ "name" ∧ w ≠ "call"
def NdW : Nd → Prop
  | .op w _ => OpW w
  | _ => True
theorem eqv_node {a b : Nd} (ha : NdW a) (hb : NdW b) : PyData.eqv (nodeD a) (nodeD b) = decide (a = b) := by
  cases a with
  | name w =>
    cases b with
    | name v =>
      show PyData.eqv (.tuple [.str "name", .str w]) (.tuple [.str "name", .str v]) = _
      simp [PyData.eqv, PyData.eqvAll]
      exact Bool.eq_iff_iff.mpr (by simp)
    | call v qs =>
      show PyData.eqv (.tuple [.str "name", .str w]) (.tuple [.str "call", .str v, .tuple (ndI qs)]) = _
      simp [PyData.eqv, PyData.eqvAll]
    | op v qs =>
      show PyData.eqv (.tuple [.str "name", .str w]) (.tuple (.str v :: ndI qs)) = _
      rw [PyData.eqv, PyData.eqvAll, eqv_str, decide_eq_false (fun z => hb.1 z.symm)]
      simp
  | call w os =>
    cases b with
    | name v =>
      show PyData.eqv (.tuple [.str "call", .str w, .tuple (ndI os)]) (.tuple [.str "name", .str v]) = _
      simp [PyData.eqv, PyData.eqvAll]
    | call v qs =>
      show PyData.eqv (.tuple [.str "call", .str w, .tuple (ndI os)]) (.tuple [.str "call", .str v, .tuple (ndI qs)]) = _
      simp [PyData.eqv, PyData.eqvAll, eqv_ndI]
      exact Bool.eq_iff_iff.mpr (by simp)
    | op v qs =>
      show PyData.eqv (.tuple [.str "call", .str w, .tuple (ndI os)]) (.tuple (.str v :: ndI qs)) = _
      rw [PyData.eqv, PyData.eqvAll, eqv_str, decide_eq_false (fun z => hb.2 z.symm)]
      simp
  | op w os =>
    cases b with
    | name v =>
      show PyData.eqv (.tuple (.str w :: ndI os)) (.tuple [.str "name", .str v]) = _
      rw [PyData.eqv, PyData.eqvAll, eqv_str, decide_eq_false ha.1]
      simp
    | call v qs =>
      show PyData.eqv (.tuple (.str w :: ndI os)) (.tuple [.str "call", .str v, .tuple (ndI qs)]) = _
      rw [PyData.eqv, PyData.eqvAll, eqv_str, decide_eq_false ha.2]
      simp
    | op v qs =>
      show PyData.eqv (.tuple (.str w :: ndI os)) (.tuple (.str v :: ndI qs)) = _
      rw [PyData.eqv, PyData.eqvAll, eqv_str, eqv_ndI, Bool.eq_iff_iff]
      simp
theorem eqv_nodes : ∀ ns ms : List Nd, (∀ nd ∈ ns, NdW nd) → (∀ nd ∈ ms, NdW nd) → PyData.eqvAll (ns.map nodeD) (ms.map nodeD) = decide (ns = ms)
  | [], [], _, _ => by simp [PyData.eqvAll]
  | [], q :: r, _, _ => by simp [PyData.eqvAll]
  | o :: r, [], _, _ => by simp [PyData.eqvAll]
  | o :: r, q :: t, h1, h2 => by
    rw [List.map_cons, List.map_cons, PyData.eqvAll, eqv_node (h1 o List.mem_cons_self) (h2 q List.mem_cons_self), eqv_nodes r t (fun d hd => h1 d (List.mem_cons_of_mem _ hd)) (fun d hd => h2 d (List.mem_cons_of_mem _ hd)), Bool.eq_iff_iff]
    simp
end UL

set_option Elab.async false
set_option linter.all false
set_option maxRecDepth 100000
/-! own: the reader's machine by numbers alone, and texts from which innermost calls are taken away -/
namespace UL
open PySem PySem.Spec PyProof.Rows L2 Evl TL

def fitsW (okw : Str → Bool) (w : Str) (k : Nat) : Bool := match opsT.lookup w with
  | some n => decide ((k : Int) = n)
  | none => okw w && decide (k ≤ 4)
theorem oper_fits {okw : Str → Bool} (w : Str) (os : List Nat) : (oper okw w os).isSome = fitsW okw w os.length := by
  unfold fitsW
  cases hl : opsT.lookup w with
  | some n =>
    rw [oper_at hl]
    show _ = decide ((os.length : Int) = n)
    by_cases h : (os.length : Int) = n
    · rw [if_pos h, decide_eq_true h]; rfl
    · rw [if_neg h, decide_eq_false h]; rfl
  | none =>
    rw [oper_no hl]
    show _ = (okw w && decide (os.length ≤ 4))
    by_cases h : okw w = true ∧ os.length ≤ 4
    · rw [if_pos h, h.1, decide_eq_true h.2]; rfl
    · rw [if_neg h]
      cases ho : okw w with
      | false => rfl
      | true => rw [decide_eq_false fun q => h ⟨ho, q⟩]; rfl
structure Cd where
  n : Nat
  W : List (Str × Nat)
  b : Bool
def incT (W : List (Str × Nat)) : List (Str × Nat) := match W.getLast? with
  | none => W
  | some (w, k) => W.dropLast ++ [(w, k + 1)]
theorem incT_snoc (W : List (Str × Nat)) (w : Str) (k : Nat) : incT (W ++ [(w, k)]) = W ++ [(w, k + 1)] := by
  unfold incT
  rw [List.getLast?_concat, List.dropLast_concat]
theorem incT_nil : incT [] = [] := rfl
def cstep (okw : Str → Bool) (s : Cd) (p : List Nat) : Option Cd :=
  if p = [44] then (if s.W = [] ∨ s.b = false then none else some ⟨s.n, s.W, false⟩)
  else if p = [41] then
    (match s.W.getLast? with
    | none => none
    | some (w, k) => if k ≠ 0 ∧ s.b = false then none else if fitsW okw w k = true then some ⟨s.n + 1, incT s.W.dropLast, true⟩ else none)
  else if s.b = true then none
  else if p.getLast? = some 40 then some ⟨s.n, s.W ++ [(ofL p.dropLast, 0)], s.b⟩
  else if p = [9] then some ⟨s.n, incT s.W, true⟩
  else if okw (ofL p) = true then some ⟨s.n + 1, incT s.W, true⟩
  else none
def crun (okw : Str → Bool) : Cd → List (List Nat) → Option Cd
  | s, [] => some s
  | s, p :: ps => (cstep okw s p).bind fun s' => crun okw s' ps
theorem crun_append (okw : Str → Bool) : ∀ (ps qs : List (List Nat)) (s : Cd), crun okw s (ps ++ qs) = (crun okw s ps).bind fun s' => crun okw s' qs
  | [], qs, s => rfl
  | p :: ps, qs, s => by
    rw [List.cons_append, crun, crun]
    cases cstep okw s p with
    | none => rfl
    | some s' => exact crun_append okw ps qs s'
/-! ### the machine of nodes, by numbers -/
def absW (W : Wt) : List (Str × Nat) := W.map fun y => (y.1, y.2.length)
def absR (s : Rd) : Cd := ⟨s.N.length, absW s.W, s.b⟩
theorem absW_snoc (W : Wt) (w : Str) (os : List Nat) : absW (W ++ [(w, os)]) = absW W ++ [(w, os.length)] := by
  unfold absW
  rw [List.map_append]
  rfl
theorem absW_add (W : Wt) (n : Nat) : absW (addTop W n) = incT (absW W) := by
  rcases List.eq_nil_or_concat W with e | ⟨V, ⟨w, os⟩, e⟩
  · rw [e]; rfl
  · rw [List.concat_eq_append] at e
    subst e
    rw [addTop_snoc, absW_snoc, absW_snoc, incT_snoc, List.length_append]
    rfl
theorem absW_nil {W : Wt} : absW W = [] ↔ W = [] := List.map_eq_nil_iff
theorem step_abs {okw : Str → Bool} (s : Rd) {p : List Nat} (h9 : p ≠ [9]) : (rstep okw s p).map absR = cstep okw (absR s) p := by
  unfold rstep cstep
  show _ = (if p = [44] then (if absW s.W = [] ∨ s.b = false then none else some (Cd.mk s.N.length (absW s.W) false)) else _)
  by_cases h1 : p = [44]
  · rw [if_pos h1, if_pos h1]
    by_cases h : s.W = [] ∨ s.b = false
    · rw [if_pos h, if_pos (h.imp absW_nil.mpr id)]; rfl
    · rw [if_neg h, if_neg (fun q => h (q.imp absW_nil.mp id))]; rfl
  rw [if_neg h1, if_neg h1]
  by_cases h2 : p = [41]
  · rw [if_pos h2, if_pos h2]
    show Option.map absR _ = (match (absW s.W).getLast? with
      | none => none
      | some (w, k) => if k ≠ 0 ∧ s.b = false then none else if fitsW okw w k = true then some (Cd.mk (s.N.length + 1) (incT (absW s.W).dropLast) true) else none)
    rcases List.eq_nil_or_concat s.W with e | ⟨V, ⟨w, os⟩, e⟩
    · rw [e]; rfl
    · rw [List.concat_eq_append] at e
      rw [e, absW_snoc, List.getLast?_concat, List.getLast?_concat, List.dropLast_concat, List.dropLast_concat]
      show Option.map absR (if os ≠ [] ∧ s.b = false then none else match oper okw w os with
        | none => none
        | some nd => some ⟨s.N ++ [nd], addTop V s.N.length, true⟩) = if os.length ≠ 0 ∧ s.b = false then none else if fitsW okw w os.length = true then some (Cd.mk (s.N.length + 1) (incT (absW V)) true) else none
      by_cases h : os ≠ [] ∧ s.b = false
      · rw [if_pos h, if_pos ⟨fun q => h.1 (List.eq_nil_of_length_eq_zero q), h.2⟩]; rfl
      · rw [if_neg h, if_neg (fun q => h ⟨fun z => q.1 (by rw [z]; rfl), q.2⟩), ← oper_fits]
        cases ho : oper okw w os with
        | none => rfl
        | some nd =>
          show some (absR ⟨s.N ++ [nd], addTop V s.N.length, true⟩) = if true = true then _ else _
          rw [if_pos rfl]
          unfold absR
          rw [absW_add, List.length_append]
          rfl
  rw [if_neg h2, if_neg h2]
  show Option.map absR _ = if s.b = true then none else _
  by_cases h3 : s.b = true
  · rw [if_pos h3, if_pos h3]; rfl
  rw [if_neg h3, if_neg h3]
  by_cases h4 : p.getLast? = some 40
  · rw [if_pos h4, if_pos h4]
    show some (absR ⟨s.N, s.W ++ [(ofL p.dropLast, [])], s.b⟩) = some (Cd.mk s.N.length (absW s.W ++ [(ofL p.dropLast, 0)]) s.b)
    unfold absR
    rw [absW_snoc]
    rfl
  rw [if_neg h4, if_neg h4, if_neg h9]
  by_cases h5 : okw (ofL p) = true
  · rw [if_pos h5, if_pos h5]
    show some (absR ⟨s.N ++ [.name (ofL p)], addTop s.W s.N.length, true⟩) = some (Cd.mk (s.N.length + 1) (incT (absW s.W)) true)
    unfold absR
    rw [absW_add, List.length_append]
    rfl
  · rw [if_neg h5, if_neg h5]; rfl
theorem run_abs {okw : Str → Bool} : ∀ (ps : List (List Nat)) (s : Rd), (∀ p ∈ ps, p ≠ [9]) → (rrun okw s ps).map absR = crun okw (absR s) ps
  | [], s, _ => rfl
  | p :: ps, s, h => by
    rw [rrun, crun, ← step_abs s (h p List.mem_cons_self)]
    cases rstep okw s p with
    | none => rfl
    | some s' => exact run_abs ps s' fun q hq => h q (List.mem_cons_of_mem _ hq)
/-- what a whole text gives: the number of its nodes, a mark (9) counting none -/
def finC : Option Cd → Option Nat
  | some ⟨n, [], true⟩ => some n
  | _ => none
def FC (okw : Str → Bool) (t : List Nat) : Option Nat := finC (crun okw ⟨0, [], false⟩ (cutGo [] t))
theorem cut_no9 : ∀ (t p : List Nat), 9 ∉ t → 9 ∉ p → ∀ q ∈ cutGo p t, q ≠ [9]
  | [], p, _, hp, q, hq => by
    rw [cutGo_nil] at hq
    split at hq
    · cases hq
    · rw [List.mem_singleton.mp hq]
      rintro rfl
      exact hp List.mem_cons_self
  | c :: r, p, ht, hp, q, hq => by
    have hc : c ≠ 9 := fun e => ht (by rw [e]; exact List.mem_cons_self)
    have hr : 9 ∉ r := fun e => ht (List.mem_cons_of_mem _ e)
    have hpc : 9 ∉ p ++ [c] := fun e => by
      rcases List.mem_append.mp e with e | e
      · exact hp e
      · exact hc (List.mem_singleton.mp e).symm
    rw [cutGo_cons] at hq
    split at hq
    · rcases List.mem_cons.mp hq with e | e
      · rw [e]
        intro z
        exact hpc (by rw [z]; exact List.mem_cons_self)
      · exact cut_no9 r [] hr List.not_mem_nil q e
    · split at hq
      · rcases List.mem_append.mp hq with e | e
        · split at e
          · cases e
          · rw [List.mem_singleton.mp e]
            rintro rfl
            exact hp List.mem_cons_self
        · rcases List.mem_cons.mp e with e | e
          · rw [e]
            intro z
            exact hc (List.cons.inj z).1
          · exact cut_no9 r [] hr List.not_mem_nil q e
      · exact cut_no9 r (p ++ [c]) hr hpc q hq
/-- the machine of nodes reads a text without marks just if the numbers do -/
theorem read_FC {okw : Str → Bool} {t : List Nat} (h9 : 9 ∉ t) : (∀ ns, rrun okw ⟨[], [], false⟩ (cutGo [] t) = some ⟨ns, [], true⟩ → FC okw t = some ns.length) ∧ (∀ n, FC okw t = some n → ∃ ns, rrun okw ⟨[], [], false⟩ (cutGo [] t) = some ⟨ns, [], true⟩ ∧ ns.length = n) := by
  have h := run_abs (okw := okw) (cutGo [] t) ⟨[], [], false⟩ (cut_no9 t [] h9 List.not_mem_nil)
  have h0 : absR ⟨[], [], false⟩ = ⟨0, [], false⟩ := rfl
  rw [h0] at h
  refine ⟨fun ns hr => ?_, fun n hn => ?_⟩
  · unfold FC
    rw [← h, hr]
    rfl
  · unfold FC at hn
    rw [← h] at hn
    cases hr : rrun okw ⟨[], [], false⟩ (cutGo [] t) with
    | none => rw [hr] at hn; cases hn
    | some s =>
      obtain ⟨N, W, b⟩ := s
      rw [hr] at hn
      have hn : finC (some ⟨N.length, absW W, b⟩) = some n := hn
      cases W with
      | cons x r => cases hn
      | nil =>
        cases b with
        | false => cases hn
        | true => exact ⟨N, rfl, Option.some.inj hn⟩
/-! ### taking an innermost call away -/
/-- what ends a piece -/
def brk (c : Nat) : Prop := c = 40 ∨ c = 41 ∨ c = 44
theorem cut_pre {r : List Nat} : ∀ (t p : List Nat), (t = [] ∧ p = []) ∨ (∃ u c, t = u ++ [c] ∧ brk c) → cutGo p (t ++ r) = cutGo p t ++ cutGo [] r
  | [], p, h => by
    rcases h with ⟨_, rfl⟩ | ⟨u, c, e, _⟩
    · rw [cutGo_nil, if_pos rfl]; rfl
    · exact absurd e (by simp)
  | c :: t, p, h => by
    have ht : (t = [] ∧ brk c) ∨ (∃ u d, t = u ++ [d] ∧ brk d) := by
      rcases h with ⟨e, _⟩ | ⟨u, d, e, hd⟩
      · cases e
      · cases u with
        | nil =>
          have e := List.cons.inj e
          exact .inl ⟨e.2, by rw [e.1]; exact hd⟩
        | cons x u => exact .inr ⟨u, d, (List.cons.inj e).2, hd⟩
    rw [List.cons_append, cutGo_cons, cutGo_cons]
    by_cases h1 : c = 40
    · rw [if_pos h1, if_pos h1, cut_pre t [] (ht.imp (fun q => ⟨q.1, rfl⟩) id), List.cons_append]
    · rw [if_neg h1, if_neg h1]
      by_cases h2 : c = 44 ∨ c = 41
      · rw [if_pos h2, if_pos h2, cut_pre t [] (ht.imp (fun q => ⟨q.1, rfl⟩) id), List.append_assoc]
        rfl
      · rw [if_neg h2, if_neg h2]
        rcases ht with ⟨_, q⟩ | q
        · rcases q with q | q | q
          · exact absurd q h1
          · exact absurd (.inr q) h2
          · exact absurd (.inl q) h2
        · exact cut_pre t _ (.inr q)
def goodA (okw : Str → Bool) (a : List Nat) : Bool := decide (a = [9]) || okw (ofL a)
def newN (args : List (List Nat)) : Nat := (args.filter fun a => decide (a ≠ [9])).length
theorem newN_cons (a : List Nat) (r : List (List Nat)) : newN (a :: r) = (if a = [9] then 0 else 1) + newN r := by
  unfold newN
  rw [List.filter_cons]
  by_cases h : a = [9]
  · rw [if_pos h, if_neg (by rw [decide_eq_true_eq]; exact fun q => q h), Nat.zero_add]
  · rw [if_neg h, if_pos (decide_eq_true h), List.length_cons, Nat.add_comm]
theorem step_word {okw : Str → Bool} {n : Nat} {W : List (Str × Nat)} {a : List Nat} (hp : plainL a) (h0 : a ≠ []) : cstep okw ⟨n, W, false⟩ a = if goodA okw a = true then some ⟨n + (if a = [9] then 0 else 1), incT W, true⟩ else none := by
  have n1 : a ≠ [44] := fun e => by rw [e] at hp; exact (hp 44 List.mem_cons_self).2.2 rfl
  have n2 : a ≠ [41] := fun e => by rw [e] at hp; exact (hp 41 List.mem_cons_self).2.1 rfl
  have n3 : a.getLast? ≠ some 40 := fun e => (hp 40 (List.mem_of_getLast? e)).1 rfl
  unfold cstep goodA
  rw [if_neg n1, if_neg n2, if_neg Bool.false_ne_true, if_neg n3]
  by_cases h9 : a = [9]
  · rw [if_pos h9, decide_eq_true h9, Bool.true_or, if_pos rfl, if_pos h9, Nat.add_zero]
  · rw [if_neg h9, decide_eq_false h9, Bool.false_or, if_neg h9]
theorem args_runC {okw : Str → Bool} (R : List (List Nat)) (w : Str) (W : List (Str × Nat)) : ∀ (args : List (List Nat)) (n k : Nat), args ≠ [] → (∀ a ∈ args, plainL a) → (k = 0 → args ≠ [[]]) → okw (ofL []) = false →
    crun okw ⟨n, W ++ [(w, k)], false⟩ (cutGo [] (joinC args) ++ [41] :: R) = if args.all (goodA okw) = true then crun okw ⟨n + newN args, W ++ [(w, k + args.length)], true⟩ ([41] :: R) else none
  | [], _, _, h, _, _, _ => absurd rfl h
  | [a], n, k, _, hp, hk, he => by
    have hpa := hp a List.mem_cons_self
    show crun okw _ (cutGo [] a ++ _) = _
    rw [List.all_cons, List.all_nil, Bool.and_true, newN_cons]
    by_cases h0 : a = []
    · subst h0
      have hg : goodA okw [] = false := by unfold goodA; rw [he]; rfl
      rw [cutGo_nil, if_pos rfl, hg, if_neg Bool.false_ne_true, List.nil_append, crun]
      have hk0 : k ≠ 0 := fun q => hk q rfl
      have : cstep okw ⟨n, W ++ [(w, k)], false⟩ [41] = none := by
        unfold cstep
        rw [if_neg (by simp), if_pos rfl]
        show (match (W ++ [(w, k)]).getLast? with | none => none | some (w, k) => _) = _
        rw [List.getLast?_concat]
        exact if_pos ⟨hk0, rfl⟩
      rw [this]
      rfl
    · rw [cut_word hpa h0, List.singleton_append, crun, step_word hpa h0, incT_snoc]
      cases goodA okw a with
      | false => rfl
      | true => rfl
  | a :: b :: r, n, k, _, hp, hk, he => by
    have hpa := hp a List.mem_cons_self
    show crun okw _ (cutGo [] (a ++ 44 :: joinC (b :: r)) ++ _) = _
    rw [cut_at (.inl rfl), List.all_cons, newN_cons, List.append_assoc, List.cons_append]
    by_cases h0 : a = []
    · subst h0
      have hg : goodA okw [] = false := by unfold goodA; rw [he]; rfl
      rw [cutGo_nil, if_pos rfl, hg, Bool.false_and, if_neg Bool.false_ne_true, List.nil_append, crun]
      have : cstep okw ⟨n, W ++ [(w, k)], false⟩ [44] = none := by
        unfold cstep
        rw [if_pos rfl]
        exact if_pos (.inr rfl)
      rw [this]
      rfl
    · rw [cut_word hpa h0, List.singleton_append, crun, step_word hpa h0, incT_snoc]
      cases hg : goodA okw a with
      | false => rw [Bool.false_and]; rfl
      | true =>
        rw [Bool.true_and]
        show crun okw ⟨_, W ++ [(w, k + 1)], true⟩ ([44] :: _) = _
        rw [crun]
        have : cstep okw ⟨n + (if a = [9] then 0 else 1), W ++ [(w, k + 1)], true⟩ [44] = some ⟨n + (if a = [9] then 0 else 1), W ++ [(w, k + 1)], false⟩ := by
          unfold cstep
          rw [if_pos rfl, if_neg (by rintro (q | q) <;> simp at q)]
        rw [this]
        show crun okw ⟨_, W ++ [(w, k + 1)], false⟩ _ = _
        rw [args_runC R w W (b :: r) _ (k + 1) (by simp) (fun x hx => hp x (List.mem_cons_of_mem _ hx)) (fun q => by omega) he]
        rw [show n + (if a = [9] then 0 else 1) + newN (b :: r) = n + ((if a = [9] then 0 else 1) + newN (b :: r)) by omega, show k + 1 + (b :: r).length = k + (a :: b :: r).length by rw [List.length_cons (a := a)]; omega]
/-- a call's arguments, as the law cuts them -/
def argsL (args : List (List Nat)) : List (List Nat) := if args = [[]] then [] else args
theorem call_runC {okw : Str → Bool} {R : List (List Nat)} {w : List Nat} {args : List (List Nat)} {n : Nat} {W : List (Str × Nat)} (ha : args ≠ []) (hp : ∀ a ∈ args, plainL a) (he : okw (ofL []) = false) :
    crun okw ⟨n, W, false⟩ ((w ++ [40]) :: (cutGo [] (joinC args) ++ [41] :: R)) = if (argsL args).all (goodA okw) = true ∧ fitsW okw (ofL w) (argsL args).length = true then crun okw ⟨n + newN (argsL args) + 1, incT W, true⟩ R else none := by
  have hs : cstep okw ⟨n, W, false⟩ (w ++ [40]) = some ⟨n, W ++ [(ofL w, 0)], false⟩ := by
    unfold cstep
    rw [if_neg (fun e => by have := congrArg List.getLast? e; simp at this), if_neg (fun e => by have := congrArg List.getLast? e; simp at this), if_neg Bool.false_ne_true, if_pos (by simp), List.dropLast_concat]
  have hc : ∀ (m k : Nat) (b : Bool), (k = 0 ∨ b = true) → cstep okw ⟨m, W ++ [(ofL w, k)], b⟩ [41] = if fitsW okw (ofL w) k = true then some ⟨m + 1, incT W, true⟩ else none := fun m k b hk => by
    unfold cstep
    rw [if_neg (by simp), if_pos rfl]
    show (match (W ++ [(ofL w, k)]).getLast? with
      | none => none
      | some (v, j) => if j ≠ 0 ∧ b = false then none else if fitsW okw v j = true then some (Cd.mk (m + 1) (incT (W ++ [(ofL w, k)]).dropLast) true) else none) = _
    rw [List.getLast?_concat, List.dropLast_concat]
    show (if k ≠ 0 ∧ b = false then none else if fitsW okw (ofL w) k = true then some (Cd.mk (m + 1) (incT W) true) else none) = _
    rw [if_neg]
    rintro ⟨q1, q2⟩
    rcases hk with q | q
    · exact q1 q
    · rw [q] at q2; cases q2
  rw [crun, hs]
  show crun okw ⟨n, W ++ [(ofL w, 0)], false⟩ _ = _
  by_cases h1 : args = [[]]
  · subst h1
    rw [show joinC [([] : List Nat)] = [] from rfl, cutGo_nil, if_pos rfl, List.nil_append, crun, hc _ _ _ (.inl rfl)]
    show _ = if ([] : List (List Nat)).all (goodA okw) = true ∧ fitsW okw (ofL w) 0 = true then crun okw ⟨n + 0 + 1, incT W, true⟩ R else none
    by_cases hf : fitsW okw (ofL w) 0 = true
    · rw [if_pos hf, if_pos ⟨rfl, hf⟩]; rfl
    · rw [if_neg hf, if_neg (fun q => hf q.2)]; rfl
  · have ea : argsL args = args := if_neg h1
    rw [args_runC R (ofL w) W args n 0 ha hp (fun _ => h1) he, ea, Nat.zero_add, crun, hc _ _ _ (.inr rfl)]
    by_cases hg : args.all (goodA okw) = true
    · rw [if_pos hg]
      by_cases hf : fitsW okw (ofL w) args.length = true
      · rw [if_pos hf, if_pos ⟨hg, hf⟩]; rfl
      · rw [if_neg hf, if_neg (fun q => hf q.2)]; rfl
    · rw [if_neg hg, if_neg (fun q => hg q.1)]
/-! ### what lies ahead and behind -/
theorem incT_fst (W : List (Str × Nat)) : (incT W).map (·.1) = W.map (·.1) := by
  rcases List.eq_nil_or_concat W with e | ⟨V, ⟨w, k⟩, e⟩
  · rw [e]; rfl
  · rw [List.concat_eq_append] at e
    subst e
    rw [incT_snoc, List.map_append, List.map_append]
    rfl
/-- the words that wait behind a step -/
theorem cstep_fst {okw : Str → Bool} {s s' : Cd} {p : List Nat} (h : cstep okw s p = some s') : s'.W.map (·.1) = s.W.map (·.1) ∨ (p ≠ [41] ∧ p.getLast? = some 40 ∧ s'.W.map (·.1) = s.W.map (·.1) ++ [ofL p.dropLast]) ∨ (p = [41] ∧ ∃ w k, fitsW okw w k = true ∧ s.W.map (·.1) = s'.W.map (·.1) ++ [w]) := by
  unfold cstep at h
  by_cases h1 : p = [44]
  · rw [if_pos h1] at h
    split at h
    · cases h
    · rw [← Option.some.inj h]
      exact .inl rfl
  rw [if_neg h1] at h
  by_cases h2 : p = [41]
  · rw [if_pos h2] at h
    rcases List.eq_nil_or_concat s.W with e | ⟨V, ⟨w, k⟩, e⟩
    · rw [e] at h; cases h
    · rw [List.concat_eq_append] at e
      rw [e, List.getLast?_concat, List.dropLast_concat] at h
      have h : (if k ≠ 0 ∧ s.b = false then none else if fitsW okw w k = true then some (Cd.mk (s.n + 1) (incT V) true) else none) = some s' := h
      split at h
      · cases h
      · split at h
        · rename_i hf
          rw [← Option.some.inj h]
          refine .inr (.inr ⟨h2, w, k, hf, ?_⟩)
          show s.W.map (·.1) = (incT V).map (·.1) ++ [w]
          rw [e, List.map_append, incT_fst]
          rfl
        · cases h
  rw [if_neg h2] at h
  split at h
  · cases h
  · split at h
    · rename_i h4
      rw [← Option.some.inj h]
      refine .inr (.inl ⟨h2, h4, ?_⟩)
      show (s.W ++ [(ofL p.dropLast, (0 : Nat))]).map Prod.fst = s.W.map Prod.fst ++ [ofL p.dropLast]
      rw [List.map_append]
      rfl
    · split at h
      · rw [← Option.some.inj h]
        exact .inl (incT_fst _)
      · split at h
        · rw [← Option.some.inj h]
          exact .inl (incT_fst _)
        · cases h
/-- a word that no call can bear waits for ever -/
theorem stuck {okw : Str → Bool} {w0 : Str} (hb : ∀ k, fitsW okw w0 k = false) : ∀ (ps : List (List Nat)) (s s' : Cd), crun okw s ps = some s' → w0 ∈ s.W.map (·.1) → w0 ∈ s'.W.map (·.1)
  | [], s, s', h, hm => by rw [← Option.some.inj h]; exact hm
  | p :: ps, s, s', h, hm => by
    rw [crun] at h
    obtain ⟨t, h1, h2⟩ := Option.bind_eq_some_iff.mp h
    refine stuck hb ps t s' h2 ?_
    rcases cstep_fst h1 with e | ⟨_, _, e⟩ | ⟨_, w, k, hf, e⟩
    · rw [e]; exact hm
    · rw [e]; exact List.mem_append_left _ hm
    · rw [e] at hm
      rcases List.mem_append.mp hm with q | q
      · exact q
      · rw [← List.mem_singleton.mp q, hb k] at hf
        cases hf
theorem finC_ne {s : Cd} (h : s.W ≠ []) : finC (some s) = none := by
  obtain ⟨n, W, b⟩ := s
  cases W with
  | nil => exact absurd rfl h
  | cons x r => rfl
theorem stuck_fin {okw : Str → Bool} {w0 : Str} (hb : ∀ k, fitsW okw w0 k = false) (ps : List (List Nat)) (s : Cd) (hm : w0 ∈ s.W.map (·.1)) : finC (crun okw s ps) = none := by
  cases h : crun okw s ps with
  | none => rfl
  | some s' =>
    have := stuck hb ps s s' h hm
    exact finC_ne fun e => by rw [e] at this; cases this
theorem noclose_fin {okw : Str → Bool} : ∀ (ps : List (List Nat)) (s : Cd), [41] ∉ ps → s.W ≠ [] → finC (crun okw s ps) = none
  | [], s, _, h => finC_ne h
  | p :: ps, s, hp, h => by
    rw [crun]
    cases h1 : cstep okw s p with
    | none => rfl
    | some t =>
      refine noclose_fin ps t (fun q => hp (List.mem_cons_of_mem _ q)) fun e => ?_
      rcases cstep_fst h1 with q | ⟨_, _, q⟩ | ⟨q, _⟩
      · rw [e] at q
        exact h (List.map_eq_nil_iff.mp q.symm)
      · rw [e] at q
        exact absurd q (by simp)
      · exact hp (by rw [q]; exact List.mem_cons_self)
theorem shift {okw : Str → Bool} (d : Nat) : ∀ (ps : List (List Nat)) (n : Nat) (W : List (Str × Nat)) (b : Bool), finC (crun okw ⟨n + d, W, b⟩ ps) = (finC (crun okw ⟨n, W, b⟩ ps)).map (· + d)
  | [], n, W, b => by
    cases W with
    | nil => cases b <;> rfl
    | cons x r => rfl
  | p :: ps, n, W, b => by
    rw [crun, crun]
    have hs : cstep okw ⟨n + d, W, b⟩ p = (cstep okw ⟨n, W, b⟩ p).map fun s => ⟨s.n + d, s.W, s.b⟩ := by
      unfold cstep
      show (if p = [44] then (if W = [] ∨ b = false then none else some (Cd.mk (n + d) W false)) else if p = [41] then (match W.getLast? with
        | none => none
        | some (w, k) => if k ≠ 0 ∧ b = false then none else if fitsW okw w k = true then some (Cd.mk (n + d + 1) (incT W.dropLast) true) else none)
        else if b = true then none else if p.getLast? = some 40 then some (Cd.mk (n + d) (W ++ [(ofL p.dropLast, 0)]) b) else if p = [9] then some (Cd.mk (n + d) (incT W) true) else if okw (ofL p) = true then some (Cd.mk (n + d + 1) (incT W) true) else none) = _
      by_cases h1 : p = [44]
      · rw [if_pos h1, if_pos h1]
        split <;> rfl
      rw [if_neg h1, if_neg h1]
      by_cases h2 : p = [41]
      · rw [if_pos h2, if_pos h2]
        show _ = Option.map _ (match W.getLast? with
          | none => none
          | some (w, k) => if k ≠ 0 ∧ b = false then none else if fitsW okw w k = true then some (Cd.mk (n + 1) (incT W.dropLast) true) else none)
        cases W.getLast? with
        | none => rfl
        | some x =>
          obtain ⟨w, k⟩ := x
          show (if k ≠ 0 ∧ b = false then none else if fitsW okw w k = true then some (Cd.mk (n + d + 1) (incT W.dropLast) true) else none) = Option.map _ (if k ≠ 0 ∧ b = false then none else if fitsW okw w k = true then some (Cd.mk (n + 1) (incT W.dropLast) true) else none)
          split
          · rfl
          · split
            · rw [show n + d + 1 = n + 1 + d by omega]; rfl
            · rfl
      rw [if_neg h2, if_neg h2]
      show _ = Option.map _ (if b = true then none else _)
      split
      · rfl
      · split
        · rfl
        · split
          · rfl
          · split
            · rw [show n + d + 1 = n + 1 + d by omega]; rfl
            · rfl
    rw [hs]
    cases cstep okw ⟨n, W, b⟩ p with
    | none => rfl
    | some s => exact shift d ps s.n s.W s.b
theorem cut_first : ∀ (r p : List Nat), p ≠ [] → ∃ x ps, cutGo p r = (p ++ x) :: ps
  | [], p, h => ⟨[], [], by rw [cutGo_nil, if_neg h, List.append_nil]⟩
  | c :: r, p, h => by
    rw [cutGo_cons]
    split
    · exact ⟨[c], _, rfl⟩
    · split
      · refine ⟨[], [c] :: cutGo [] r, ?_⟩
        rw [List.append_nil]
        simp [h]
      · obtain ⟨x, ps, e⟩ := cut_first r (p ++ [c]) (by simp)
        exact ⟨c :: x, ps, by rw [e, List.append_assoc]; rfl⟩
/-- no word bears a mark -/
structure NoMark (okw : Str → Bool) : Prop where
  no : ∀ l, 9 ∈ l → okw (ofL l) = false
  op : ∀ l, 9 ∈ l → opsT.lookup (ofL l) = none
theorem NoMark.bad {okw : Str → Bool} (M : NoMark okw) {l : List Nat} (h : 9 ∈ l) (k : Nat) : fitsW okw (ofL l) k = false := by
  unfold fitsW
  rw [M.op l h]
  show (okw (ofL l) && _) = false
  rw [M.no l h]
  rfl
theorem ops_mark : ∀ l, 9 ∈ l → opsT.lookup (ofL l) = none := fun l h => by
  have f : ∀ x : Str × Int, x ∈ opsT → 9 ∉ tl x.1 := by decide +kernel
  cases hl : opsT.lookup (ofL l) with
  | none => rfl
  | some n =>
    have hm : (ofL l, n) ∈ opsT := by
      have : ∀ (L : List (Str × Int)), L.lookup (ofL l) = some n → (ofL l, n) ∈ L := by
        intro L
        induction L with
        | nil => intro q; cases q
        | cons y t ih =>
          intro q
          obtain ⟨a, b⟩ := y
          rw [List.lookup_cons] at q
          by_cases e : ofL l = a
          · rw [e] at q ⊢
            simp at q
            rw [q]
            exact List.mem_cons_self
          · rw [show (ofL l == a) = false from beq_eq_false_iff_ne.mpr e] at q
            exact List.mem_cons_of_mem _ (ih q)
      exact this opsT hl
    have := f _ hm
    rw [show tl (ofL l) = l from tl_ofL l] at this
    exact absurd h this
theorem red_post {okw : Str → Bool} (M : NoMark okw) {n : Nat} {W : List (Str × Nat)} : ∀ post : List Nat, finC (crun okw ⟨n, W, false⟩ (cutGo [9] post)) = finC (crun okw ⟨n, incT W, true⟩ (cutGo [] post))
  | [] => by
    have : cstep okw ⟨n, W, false⟩ [9] = some ⟨n, incT W, true⟩ := by
      unfold cstep
      rw [if_neg (by simp), if_neg (by simp), if_neg Bool.false_ne_true, if_neg (by simp), if_pos rfl]
    rw [cutGo_nil, if_neg (by simp), cutGo_nil, if_pos rfl]
    show finC ((cstep okw ⟨n, W, false⟩ [9]).bind fun s' => crun okw s' []) = _
    rw [this]
    rfl
  | c :: r => by
    by_cases h1 : c = 40
    · subst h1
      rw [cutGo_cons, if_pos rfl, cutGo_cons, if_pos rfl, crun, crun]
      have e1 : cstep okw ⟨n, W, false⟩ ([9] ++ [40]) = some ⟨n, W ++ [(ofL [9], 0)], false⟩ := by
        unfold cstep
        rw [if_neg (by simp), if_neg (by simp), if_neg Bool.false_ne_true, if_pos (by simp)]
        rfl
      have e2 : cstep okw ⟨n, incT W, true⟩ ([] ++ [40]) = none := by
        unfold cstep
        rw [if_neg (by simp), if_neg (by simp), if_pos rfl]
      rw [e1, e2]
      exact stuck_fin (M.bad List.mem_cons_self) _ ⟨n, W ++ [(ofL [9], 0)], false⟩ (by rw [List.map_append]; exact List.mem_append_right _ List.mem_cons_self)
    · by_cases h2 : c = 44 ∨ c = 41
      · rw [cutGo_cons, if_neg h1, if_pos h2, if_neg (by simp), cutGo_cons, if_neg h1, if_pos h2, if_pos rfl, List.singleton_append, List.nil_append, crun]
        have : cstep okw ⟨n, W, false⟩ [9] = some ⟨n, incT W, true⟩ := by
          unfold cstep
          rw [if_neg (by simp), if_neg (by simp), if_neg Bool.false_ne_true, if_neg (by simp), if_pos rfl]
        rw [this]
        rfl
      · rw [cutGo_cons, if_neg h1, if_neg h2, cutGo_cons, if_neg h1, if_neg h2]
        obtain ⟨x, ps, e⟩ := cut_first r ([9] ++ [c]) (by simp)
        obtain ⟨y, qs, e'⟩ := cut_first r ([] ++ [c]) (by simp)
        rw [e, e', crun, crun]
        have n44 : c ≠ 44 := fun q => h2 (.inl q)
        have n41 : c ≠ 41 := fun q => h2 (.inr q)
        have e2 : cstep okw ⟨n, incT W, true⟩ ([] ++ [c] ++ y) = none := by
          show cstep okw ⟨n, incT W, true⟩ (c :: y) = none
          unfold cstep
          rw [if_neg (fun q => n44 (List.cons.inj q).1), if_neg (fun q => n41 (List.cons.inj q).1), if_pos rfl]
        rw [e2]
        show _ = none
        cases h3 : cstep okw ⟨n, W, false⟩ ([9] ++ [c] ++ x) with
        | none => rfl
        | some t =>
          unfold cstep at h3
          rw [if_neg (fun q => by have := (List.cons.inj q).1; omega), if_neg (fun q => by have := (List.cons.inj q).1; omega), if_neg Bool.false_ne_true] at h3
          by_cases h4 : ([9] ++ [c] ++ x).getLast? = some 40
          · rw [if_pos h4] at h3
            rw [← Option.some.inj h3]
            refine stuck_fin (w0 := ofL ([9] ++ [c] ++ x).dropLast) (M.bad ?_) ps _ (by rw [List.map_append]; exact List.mem_append_right _ List.mem_cons_self)
            show 9 ∈ (9 :: c :: x).dropLast
            rw [List.dropLast_cons_of_ne_nil (by simp)]
            exact List.mem_cons_self
          · rw [if_neg h4, if_neg (by simp), if_neg (by rw [M.no ([9] ++ [c] ++ x) List.mem_cons_self]; exact Bool.false_ne_true)] at h3
            cases h3
theorem FC_red {okw : Str → Bool} (M : NoMark okw) (he : okw (ofL []) = false) {pre w post : List Nat} {args : List (List Nat)} (hpre : pre = [] ∨ ∃ u c, pre = u ++ [c] ∧ brk c) (hw : plainL w) (ha : args ≠ []) (hp : ∀ a ∈ args, plainL a) :
    FC okw (pre ++ (w ++ 40 :: (joinC args ++ 41 :: post))) = if (argsL args).all (goodA okw) = true ∧ fitsW okw (ofL w) (argsL args).length = true then (FC okw (pre ++ 9 :: post)).map (· + (newN (argsL args) + 1)) else none := by
  unfold FC
  have hpre' : (pre = [] ∧ ([] : List Nat) = []) ∨ ∃ u c, pre = u ++ [c] ∧ brk c := hpre.imp (fun q => ⟨q, rfl⟩) id
  rw [cut_pre pre [] hpre', cut_pre pre [] hpre', cut_open hw, cut_at (.inr rfl), crun_append, crun_append]
  cases crun okw ⟨0, [], false⟩ (cutGo [] pre) with
  | none =>
    show none = if _ then none else none
    split <;> rfl
  | some s =>
    obtain ⟨n, W, b⟩ := s
    show finC (crun okw ⟨n, W, b⟩ _) = if _ then (finC (crun okw ⟨n, W, b⟩ (cutGo [] (9 :: post)))).map _ else none
    rw [show cutGo [] (9 :: post) = cutGo [9] post by rw [cutGo_cons, if_neg (by decide), if_neg (by decide)]; rfl]
    cases b with
    | true =>
      obtain ⟨x, ps, e⟩ := cut_first post [9] (by simp)
      rw [e, crun, crun]
      have e1 : cstep okw ⟨n, W, true⟩ (w ++ [40]) = none := by
        unfold cstep
        rw [if_neg (fun q => by have := congrArg List.getLast? q; simp at this), if_neg (fun q => by have := congrArg List.getLast? q; simp at this), if_pos rfl]
      have e2 : cstep okw ⟨n, W, true⟩ ([9] ++ x) = none := by
        unfold cstep
        rw [if_neg (fun q => by have := (List.cons.inj q).1; omega), if_neg (fun q => by have := (List.cons.inj q).1; omega), if_pos rfl]
      rw [e1, e2]
      show none = if _ then none else none
      split <;> rfl
    | false =>
      rw [call_runC ha hp he, red_post M]
      split
      · rw [show n + newN (argsL args) + 1 = n + (newN (argsL args) + 1) by omega]
        exact shift _ _ _ _ _
      · rfl
/-! ### texts without a closing sign, and a closing sign without an open one -/
theorem plain_or : ∀ l : List Nat, plainL l ∨ ∃ u c r, l = u ++ c :: r ∧ plainL u ∧ brk c
  | [] => .inl fun c h => nomatch h
  | c :: r => by
    by_cases h : brk c
    · exact .inr ⟨[], c, r, rfl, (fun c h => nomatch h), h⟩
    · have hc : c ≠ 40 ∧ c ≠ 41 ∧ c ≠ 44 := ⟨fun e => h (.inl e), fun e => h (.inr (.inl e)), fun e => h (.inr (.inr e))⟩
      rcases plain_or r with q | ⟨u, d, t, e, q, hd⟩
      · left
        intro x hx
        rcases List.mem_cons.mp hx with rfl | hx
        · exact hc
        · exact q x hx
      · refine .inr ⟨c :: u, d, t, by rw [e]; rfl, fun x hx => ?_, hd⟩
        rcases List.mem_cons.mp hx with rfl | hx
        · exact hc
        · exact q x hx
theorem cut_noclose : ∀ (t p : List Nat), 41 ∉ t → 41 ∉ p → [41] ∉ cutGo p t
  | [], p, _, hp, h => by
    rw [cutGo_nil] at h
    split at h
    · cases h
    · rw [← List.mem_singleton.mp h] at hp
      exact hp List.mem_cons_self
  | c :: r, p, ht, hp, h => by
    have hc : c ≠ 41 := fun e => ht (by rw [e]; exact List.mem_cons_self)
    have hr : 41 ∉ r := fun e => ht (List.mem_cons_of_mem _ e)
    have hpc : 41 ∉ p ++ [c] := fun e => by
      rcases List.mem_append.mp e with e | e
      · exact hp e
      · exact hc (List.mem_singleton.mp e).symm
    rw [cutGo_cons] at h
    split at h
    · rcases List.mem_cons.mp h with e | e
      · exact hpc (by rw [← e]; exact List.mem_cons_self)
      · exact cut_noclose r [] hr List.not_mem_nil e
    · split at h
      · rcases List.mem_append.mp h with e | e
        · split at e
          · cases e
          · exact hp (by rw [← List.mem_singleton.mp e]; exact List.mem_cons_self)
        · rcases List.mem_cons.mp e with e | e
          · exact hc (List.cons.inj e).1.symm
          · exact cut_noclose r [] hr List.not_mem_nil e
      · exact cut_noclose r (p ++ [c]) hr hpc h
/-- the state behind plain signs from the beginning: nothing waits -/
theorem plain_run {okw : Str → Bool} {u : List Nat} (hu : plainL u) {s : Cd} (h : crun okw ⟨0, [], false⟩ (cutGo [] u) = some s) : s.W = [] := by
  by_cases h0 : u = []
  · subst h0
    rw [cutGo_nil, if_pos rfl] at h
    rw [← Option.some.inj h]
  · rw [cut_word hu h0] at h
    have h : ((cstep okw ⟨0, [], false⟩ u).bind fun s' => crun okw s' []) = some s := h
    rw [step_word hu h0] at h
    split at h
    · rw [← Option.some.inj h]
      rfl
    · cases h
theorem FC_comma {okw : Str → Bool} {u r : List Nat} (hu : plainL u) : FC okw (u ++ 44 :: r) = none := by
  unfold FC
  rw [cut_at (.inl rfl), crun_append]
  cases h : crun okw ⟨0, [], false⟩ (cutGo [] u) with
  | none => rfl
  | some s =>
    have hW := plain_run hu h
    show finC ((cstep okw s [44]).bind fun s' => crun okw s' _) = none
    have : cstep okw s [44] = none := by
      unfold cstep
      rw [if_pos rfl, if_pos (.inl hW)]
    rw [this]
    rfl
theorem FC_shut {okw : Str → Bool} {A r : List Nat} (h1 : 41 ∉ A) (h2 : 40 ∉ A) : FC okw (A ++ 41 :: r) = none := by
  rcases plain_or A with hu | ⟨u, c, t, rfl, hu, hc⟩
  · unfold FC
    rw [cut_at (.inr rfl), crun_append]
    cases h : crun okw ⟨0, [], false⟩ (cutGo [] A) with
    | none => rfl
    | some s =>
      have hW := plain_run hu h
      show finC ((cstep okw s [41]).bind fun s' => crun okw s' _) = none
      have : cstep okw s [41] = none := by
        unfold cstep
        rw [if_neg (by simp), if_pos rfl, hW]
        rfl
      rw [this]
      rfl
  · rcases hc with rfl | rfl | rfl
    · exact absurd (List.mem_append_right _ List.mem_cons_self) h2
    · exact absurd (List.mem_append_right _ List.mem_cons_self) h1
    · rw [List.append_assoc, List.cons_append]
      exact FC_comma hu
theorem FC_last {okw : Str → Bool} (hk : ∀ w, okw w = true → plainL (tl w) ∧ tl w ≠ []) {t : List Nat} (h : 41 ∉ t) : FC okw t = if t = [9] then some 0 else if okw (ofL t) = true then some 1 else none := by
  rcases plain_or t with hu | ⟨u, c, r, rfl, hu, hc⟩
  · by_cases h0 : t = []
    · subst h0
      rw [if_neg (by simp), if_neg (fun q => (hk _ q).2 (tl_ofL []))]
      unfold FC
      rw [cutGo_nil, if_pos rfl]
      rfl
    · unfold FC
      rw [cut_word hu h0]
      show finC ((cstep okw ⟨0, [], false⟩ t).bind fun s' => crun okw s' []) = _
      rw [step_word hu h0]
      unfold goodA
      by_cases h9 : t = [9]
      · rw [if_pos h9, decide_eq_true h9, Bool.true_or, if_pos rfl, if_pos h9]
        rfl
      · rw [if_neg h9, decide_eq_false h9, Bool.false_or, if_neg h9]
        split
        · rfl
        · rfl
  · have n9 : u ++ c :: r ≠ [9] := fun e => by
      have : c ∈ ([9] : List Nat) := by rw [← e]; exact List.mem_append_right _ List.mem_cons_self
      have := List.mem_singleton.mp this
      rcases hc with q | q | q <;> omega
    have nk : ¬ okw (ofL (u ++ c :: r)) = true := fun q => by
      have := (hk _ q).1 c (by rw [tl_ofL]; exact List.mem_append_right _ List.mem_cons_self)
      rcases hc with q | q | q <;> omega
    rw [if_neg n9, if_neg nk]
    rcases hc with rfl | rfl | rfl
    · unfold FC
      rw [cut_open hu, crun]
      have hs : cstep okw ⟨0, [], false⟩ (u ++ [40]) = some ⟨0, [(ofL u, 0)], false⟩ := by
        unfold cstep
        rw [if_neg (fun e => by have := congrArg List.getLast? e; simp at this), if_neg (fun e => by have := congrArg List.getLast? e; simp at this), if_neg Bool.false_ne_true, if_pos (by simp), List.dropLast_concat]
        rfl
      rw [hs]
      exact noclose_fin _ _ (cut_noclose r [] (fun q => h (List.mem_append_right _ (List.mem_cons_of_mem _ q))) List.not_mem_nil) (by simp)
    · exact absurd (List.mem_append_right _ List.mem_cons_self) h
    · exact FC_comma hu
/-- what is read is its own text -/
theorem run_text {okw : Str → Bool} {t : List Nat} {ns : List Nd} (h : rrun okw ⟨[], [], false⟩ (cutGo [] t) = some ⟨ns, [], true⟩) : tx ns (ns.length - 1) = t := by
  have h := sofar_run (s := ⟨[], [], false⟩) ⟨(fun j nd h => by cases h), (fun y hy => by cases hy)⟩ .start h
  rw [cut_flat, List.nil_append, List.nil_append] at h
  generalize hs : (⟨ns, [], true⟩ : Rd) = s at h
  cases h with
  | start => exact absurd (congrArg Rd.b hs) (by simp)
  | whole => cases hs; rfl
  | open_ => exact absurd (congrArg Rd.b hs) (by simp)
  | @shut N V w os h => exact absurd (congrArg Rd.W hs) (by simp)
end UL

set_option Elab.async false
set_option linter.all false
set_option maxRecDepth 100000
/-! own: where find and rfind find a sign -/
namespace UL
open PySem PySem.Spec PyProof.Rows L2 Evl TL
open Builtin Builtin.Str

theorem occ_stays (s sub : Str) (hi : Nat) : ∀ (l : List Nat) (st : Array Nat × Nat), st.fst.size = 1 → (forIn (m := Id) l st (StrLaws.occBody s sub hi 1)).run.fst = st.fst
  | [], st, _ => rfl
  | a :: l, st, h => by
    rw [List.forIn_cons]
    have hn : ¬ (((st.fst.size < 1 ∧ st.snd ≤ a) ∧ a + sub.length ≤ hi) ∧ subAt s sub a = true) := fun q => by have := q.1.1.1; omega
    unfold StrLaws.occBody
    rw [if_neg hn]
    exact occ_stays s sub hi l _ h
theorem occ_first (s sub : Str) (hi : Nat) : ∀ (l : List Nat) (free : Nat), (∀ i ∈ l, free ≤ i) →
    (forIn (m := Id) l ((#[] : Array Nat), free) (StrLaws.occBody s sub hi 1)).run.fst.toList = (l.filter fun i => decide (i + sub.length ≤ hi ∧ subAt s sub i = true)).take 1
  | [], free, _ => rfl
  | a :: l, free, hf => by
    rw [List.forIn_cons]
    have ha : free ≤ a := hf a List.mem_cons_self
    by_cases hc : a + sub.length ≤ hi ∧ subAt s sub a = true
    · have c1 : (((#[] : Array Nat), free).fst.size < 1 ∧ ((#[] : Array Nat), free).snd ≤ a) ∧ a + sub.length ≤ hi := ⟨⟨by simp, ha⟩, hc.1⟩
      unfold StrLaws.occBody
      rw [if_pos ⟨c1, hc.2⟩, List.filter_cons_of_pos (by rw [decide_eq_true hc])]
      show (forIn (m := Id) l _ (StrLaws.occBody s sub hi 1)).run.fst.toList = _
      rw [occ_stays s sub hi l _ rfl]
      rfl
    · have c2 : ¬ (((((#[] : Array Nat), free).fst.size < 1 ∧ ((#[] : Array Nat), free).snd ≤ a) ∧ a + sub.length ≤ hi) ∧ subAt s sub a = true) := fun h => hc ⟨h.1.2, h.2⟩
      unfold StrLaws.occBody
      rw [if_neg c2, List.filter_cons_of_neg (by rw [decide_eq_false hc]; exact Bool.false_ne_true)]
      exact occ_first s sub hi l free fun i h => hf i (List.mem_cons_of_mem _ h)
theorem one_at (x : Str) (c : Nat) (l : List Nat) : l.filter (fun i => decide (i + (⟨#[c]⟩ : Str).length ≤ x.length ∧ subAt x ⟨#[c]⟩ i = true)) = l.filter fun i => decide ((tl x)[i]? = some c) :=
  List.filter_congr fun i _ => decide_eq_decide.mpr (StrLaws.subAt_one x c i)
theorem find_eq (x : Str) (c : Nat) : Txt.find x ⟨#[c]⟩ = match ((List.range (x.length + 1)).filter fun i => decide ((tl x)[i]? = some c)).head? with
    | some i => (i : Int)
    | none => -1 := by
  unfold Txt.find
  rw [StrLaws.occ_eq, occ_first _ _ _ _ _ (fun _ _ => Nat.zero_le _), one_at, Nat.sub_zero, ← List.range_eq_range']
  cases (List.range (x.length + 1)).filter fun i => decide ((tl x)[i]? = some c) with
  | nil => rfl
  | cons a r => rfl
def lastBody (s sub : Str) (hi : Nat) (i : Nat) (st : Option Nat) : Id (ForInStep (Option Nat)) :=
  if i + sub.length ≤ hi ∧ subAt s sub i = true then pure (ForInStep.yield (some i)) else pure (ForInStep.yield st)
theorem last_eq (s sub : Str) (lo hi : Nat) : lastOccurrence s sub lo hi = (forIn (m := Id) (List.range' lo (hi + 1 - lo)) (none : Option Nat) (lastBody s sub hi)).run := by
  unfold lastOccurrence lastBody
  simp
theorem last_last (s sub : Str) (hi : Nat) : ∀ (l : List Nat) (st : Option Nat), (forIn (m := Id) l st (lastBody s sub hi)).run = ((l.filter fun i => decide (i + sub.length ≤ hi ∧ subAt s sub i = true)).getLast?).or st
  | [], st => rfl
  | a :: l, st => by
    rw [List.forIn_cons]
    by_cases hc : a + sub.length ≤ hi ∧ subAt s sub a = true
    · unfold lastBody
      rw [if_pos hc, List.filter_cons_of_pos (by rw [decide_eq_true hc])]
      show (forIn (m := Id) l (some a) (lastBody s sub hi)).run = _
      rw [last_last s sub hi l (some a)]
      cases h : l.filter (fun i => decide (i + sub.length ≤ hi ∧ subAt s sub i = true)) with
      | nil => rfl
      | cons b r =>
        rw [List.getLast?_cons_cons]
        cases h2 : (b :: r).getLast? with
        | none => exact absurd (List.getLast?_eq_none_iff.mp h2) (by simp)
        | some z => rfl
    · unfold lastBody
      rw [if_neg hc, List.filter_cons_of_neg (by rw [decide_eq_false hc]; exact Bool.false_ne_true)]
      exact last_last s sub hi l st
theorem rfind_eq (x : Str) (c : Nat) : Txt.rfind x ⟨#[c]⟩ = match ((List.range (x.length + 1)).filter fun i => decide ((tl x)[i]? = some c)).getLast? with
    | some i => (i : Int)
    | none => -1 := by
  unfold Txt.rfind
  rw [last_eq, last_last, one_at, Nat.sub_zero, ← List.range_eq_range', Option.or_none]
  rfl
theorem tl_len (x : Str) : (tl x).length = x.length := by simp [tl, Str.length]
theorem places_none {l : List Nat} {c n : Nat} (h : c ∉ l) : ((List.range n).filter fun i => decide (l[i]? = some c)) = [] :=
  List.filter_eq_nil_iff.mpr fun i _ q => h (List.mem_of_getElem? (of_decide_eq_true q))
theorem places_split {a b : List Nat} {c n : Nat} (hn : a.length < n) : ((List.range n).filter fun i => decide ((a ++ c :: b)[i]? = some c)) = ((List.range a.length).filter fun i => decide (a[i]? = some c)) ++ a.length :: ((List.range (n - (a.length + 1))).filter fun i => decide (b[i]? = some c)).map (· + (a.length + 1)) := by
  have e : List.range n = List.range a.length ++ (a.length :: (List.range (n - (a.length + 1))).map (· + (a.length + 1))) := by
    have h1 : n = a.length + (1 + (n - (a.length + 1))) := by omega
    conv => lhs; rw [h1]
    rw [List.range_add, List.range_add, List.map_append]
    congr 1
    rw [List.map_map]
    show (List.range 1).map _ ++ _ = _
    rw [show List.range 1 = [0] from rfl]
    show (a.length + 0) :: _ = _
    rw [Nat.add_zero]
    congr 1
    refine List.map_congr_left fun i _ => ?_
    show a.length + (1 + i) = i + (a.length + 1)
    omega
  rw [e, List.filter_append, List.filter_cons, if_pos (by rw [List.getElem?_append_right (Nat.le_refl _), Nat.sub_self]; exact decide_eq_true rfl), List.filter_map]
  congr 1
  · refine List.filter_congr fun i hi => ?_
    rw [List.getElem?_append_left (List.mem_range.mp hi)]
  · congr 2
    refine List.filter_congr fun i _ => ?_
    show decide ((a ++ c :: b)[i + (a.length + 1)]? = some c) = _
    rw [List.getElem?_append_right (by omega), show i + (a.length + 1) - a.length = i + 1 by omega, List.getElem?_cons_succ]
theorem find_no {x : Str} {c : Nat} (h : c ∉ tl x) : Txt.find x ⟨#[c]⟩ = -1 := by
  rw [find_eq, places_none h]
  rfl
theorem find_at {x : Str} {c : Nat} {a b : List Nat} (h : tl x = a ++ c :: b) (ha : c ∉ a) : Txt.find x ⟨#[c]⟩ = (a.length : Int) := by
  have hl := tl_len x
  rw [h, List.length_append, List.length_cons] at hl
  rw [find_eq, h, places_split (by omega), places_none ha]
  rfl
theorem rfind_no {x : Str} {c : Nat} (h : c ∉ tl x) : Txt.rfind x ⟨#[c]⟩ = -1 := by
  rw [rfind_eq, places_none h]
  rfl
theorem rfind_at {x : Str} {c : Nat} {a b : List Nat} (h : tl x = a ++ c :: b) (hb : c ∉ b) : Txt.rfind x ⟨#[c]⟩ = (a.length : Int) := by
  have hl := tl_len x
  rw [h, List.length_append, List.length_cons] at hl
  rw [rfind_eq, h, places_split (by omega), places_none hb]
  rw [List.map_nil, List.getLast?_append]
  rfl
/-- the first one of a sign, the last one of a sign -/
theorem first_of {c : Nat} : ∀ {l : List Nat}, c ∈ l → ∃ a b, l = a ++ c :: b ∧ c ∉ a
  | [], h => nomatch h
  | x :: t, h => by
    by_cases e : x = c
    · exact ⟨[], t, by rw [e]; rfl, List.not_mem_nil⟩
    · obtain ⟨a, b, q, hn⟩ := first_of (l := t) (by
        rcases List.mem_cons.mp h with h | h
        · exact absurd h.symm e
        · exact h)
      refine ⟨x :: a, b, by rw [q]; rfl, fun hm => ?_⟩
      rcases List.mem_cons.mp hm with h | h
      · exact e h.symm
      · exact hn h
theorem last_of {c : Nat} {l : List Nat} (h : c ∈ l) : ∃ a b, l = a ++ c :: b ∧ c ∉ b := by
  obtain ⟨a, b, e, hn⟩ := first_of (l := l.reverse) (List.mem_reverse.mpr h)
  refine ⟨b.reverse, a.reverse, ?_, fun q => hn (List.mem_reverse.mp q)⟩
  have := congrArg List.reverse e
  rw [List.reverse_reverse, List.reverse_append, List.reverse_cons, List.append_assoc] at this
  exact this
end UL

set_option Elab.async false
set_option linter.all false
set_option maxRecDepth 100000
/-! own: the law's step: where the innermost call begins and ends -/
namespace UL
open PySem PySem.Spec PyProof.Rows L2 Evl TL

theorem sgn40 : ("(" : Str) = ⟨#[40]⟩ := by decide +kernel
theorem sgn41 : (")" : Str) = ⟨#[41]⟩ := by decide +kernel
theorem sgn44 : ("," : Str) = ⟨#[44]⟩ := by decide +kernel
theorem join44 : ∀ l : List (List Nat), joinL [44] l = joinC l
  | [] => rfl
  | [_] => rfl
  | x :: z :: r => by
    show x ++ ([44] ++ joinL [44] (z :: r)) = x ++ 44 :: joinC (z :: r)
    rw [join44 (z :: r)]
    rfl
def splitL : List Nat → List (List Nat)
  | [] => [[]]
  | c :: r => if c = 44 then [] :: splitL r else match splitL r with
    | [] => [[c]]
    | h :: t => (c :: h) :: t
theorem splitL_ne : ∀ l, splitL l ≠ []
  | [] => by unfold splitL; simp
  | c :: r => by
    unfold splitL
    split
    · simp
    · split <;> simp
theorem splitL_join : ∀ l, joinC (splitL l) = l
  | [] => rfl
  | c :: r => by
    have ih := splitL_join r
    unfold splitL
    by_cases h : c = 44
    · rw [if_pos h]
      cases hs : splitL r with
      | nil => exact absurd hs (splitL_ne r)
      | cons x t =>
        rw [hs] at ih
        show [] ++ 44 :: joinC (x :: t) = _
        rw [ih, h]
        rfl
    · rw [if_neg h]
      cases hs : splitL r with
      | nil => exact absurd hs (splitL_ne r)
      | cons x t =>
        rw [hs] at ih
        cases t with
        | nil =>
          show c :: x = _
          rw [show x = r from ih]
        | cons y u =>
          show (c :: x) ++ 44 :: joinC (y :: u) = _
          rw [List.cons_append]
          exact congrArg (c :: ·) ih
theorem splitL_mem : ∀ l, ∀ a ∈ splitL l, ∀ c ∈ a, c ∈ l ∧ c ≠ 44
  | [], a, h, c, hc => by
    rw [List.mem_singleton.mp h] at hc
    cases hc
  | d :: r, a, h, c, hc => by
    have ih := splitL_mem r
    unfold splitL at h
    by_cases h4 : d = 44
    · rw [if_pos h4] at h
      rcases List.mem_cons.mp h with rfl | h
      · cases hc
      · exact ⟨List.mem_cons_of_mem _ (ih a h c hc).1, (ih a h c hc).2⟩
    · rw [if_neg h4] at h
      cases hs : splitL r with
      | nil => exact absurd hs (splitL_ne r)
      | cons x t =>
        rw [hs] at h ih
        rcases List.mem_cons.mp h with rfl | h
        · rcases List.mem_cons.mp hc with rfl | hc
          · exact ⟨List.mem_cons_self, h4⟩
          · have := ih x List.mem_cons_self c hc
            exact ⟨List.mem_cons_of_mem _ this.1, this.2⟩
        · have := ih a (List.mem_cons_of_mem _ h) c hc
          exact ⟨List.mem_cons_of_mem _ this.1, this.2⟩
theorem split_comma (x : Str) : Txt.split x "," = (splitL (tl x)).map ofL := by
  have h := split_join (y := ",") (s := 44) (S := []) (by decide +kernel) (by decide +kernel) (parts := (splitL (tl x)).map ofL) (fun q => splitL_ne _ (List.map_eq_nil_iff.mp q)) fun p hp => by
    obtain ⟨a, ha, rfl⟩ := List.mem_map.mp hp
    rw [tl_ofL]
    exact fun q => (splitL_mem _ a ha 44 q).2 rfl
  have e : Txt.join "," ((splitL (tl x)).map ofL) = x := by
    rw [← ofL_tl (Txt.join _ _), join_eq, tl_join, List.map_map, show tl "," = [44] by decide +kernel, show (tl ∘ ofL) = id from funext fun l => tl_ofL l, List.map_id, join44, splitL_join, ofL_tl]
  rw [e] at h
  exact h
theorem splitL_nil {l : List Nat} : splitL l = [[]] ↔ l = [] := by
  constructor
  · intro h
    have := splitL_join l
    rw [h] at this
    exact this.symm
  · rintro rfl
    rfl
/-- where the word of an innermost call begins -/
theorem begun_at {B : List Nat} (h41 : 41 ∉ B) : ∃ pr w, B = pr ++ w ∧ plainL w ∧ (pr = [] ∨ ∃ u c, pr = u ++ [c] ∧ brk c) ∧ ∀ x : Str, tl x = B → (if Txt.rfind x "," > Txt.rfind x "(" then Txt.rfind x "," else Txt.rfind x "(") + 1 = (pr.length : Int) := by
  rcases plain_or B.reverse with hu | ⟨u, c, r, e, hu, hc⟩
  · have hp : plainL B := fun c h => hu c (List.mem_reverse.mpr h)
    refine ⟨[], B, rfl, hp, .inl rfl, fun x hx => ?_⟩
    have e1 : Txt.rfind x "," = -1 := by
      rw [sgn44]
      exact rfind_no (by rw [hx]; exact fun q => (hp 44 q).2.2 rfl)
    have e2 : Txt.rfind x "(" = -1 := by
      rw [sgn40]
      exact rfind_no (by rw [hx]; exact fun q => (hp 40 q).1 rfl)
    rw [e1, e2]
    rfl
  · have eB : B = (r.reverse ++ [c]) ++ u.reverse := by
      have := congrArg List.reverse e
      rw [List.reverse_reverse, List.reverse_append, List.reverse_cons] at this
      exact this
    have hpu : plainL u.reverse := fun d h => hu d (List.mem_reverse.mp h)
    refine ⟨r.reverse ++ [c], u.reverse, eB, hpu, .inr ⟨_, _, rfl, hc⟩, fun x hx => ?_⟩
    rw [List.length_append, List.length_singleton]
    have key : ∀ d : Nat, (d = c → Txt.rfind x ⟨#[d]⟩ = (r.reverse.length : Int)) ∧ (d ≠ c → d ∉ u.reverse → Txt.rfind x ⟨#[d]⟩ < (r.reverse.length : Int)) := fun d => by
      refine ⟨fun q => ?_, fun q hn => ?_⟩
      · subst q
        refine rfind_at (b := u.reverse) (by rw [hx, eB, List.append_assoc]; rfl) fun q => ?_
        have := hpu d q
        rcases hc with h | h | h
        · exact this.1 h
        · exact this.2.1 h
        · exact this.2.2 h
      · by_cases hm : d ∈ r.reverse
        · obtain ⟨a, b, e2, hb⟩ := last_of hm
          rw [rfind_at (a := a) (b := b ++ c :: u.reverse) (by rw [hx, eB, e2]; simp) (fun z => by
            rcases List.mem_append.mp z with z | z
            · exact hb z
            · rcases List.mem_cons.mp z with z | z
              · exact q z
              · exact hn z), e2, List.length_append, List.length_cons]
          omega
        · rw [rfind_no (by
            rw [hx, eB]
            intro z
            rcases List.mem_append.mp z with z | z
            · rcases List.mem_append.mp z with z | z
              · exact hm z
              · exact q (List.mem_singleton.mp z)
            · exact hn z)]
          omega
    rw [sgn40, sgn44]
    rcases hc with rfl | rfl | rfl
    · have k1 := (key 40).1 rfl
      have k2 := (key 44).2 (by decide) (fun z => (hpu 44 z).2.2 rfl)
      rw [if_neg (by omega), k1]
      omega
    · exact absurd (by rw [eB]; exact List.mem_append_left _ (List.mem_append_right _ List.mem_cons_self)) h41
    · have k1 := (key 44).1 rfl
      have k2 := (key 40).2 (by decide) (fun z => (hpu 40 z).1 rfl)
      rw [if_pos (by omega), k1]
      omega
end UL

set_option Elab.async false
set_option linter.all false
/-! `==` where both sides are None, or the left one is of an own class -/
namespace UL
open PySem PySem.Spec PyProof.Rows L2 Evl TL
def rOwnEqN (K : PySem.W.Frag) (C : Addr) (sp : Sp) (E : XK) : R2 := fun x y H Q => (x = .non ∧ y = .non ∧ Q (.bl true) H) ∨ rOwnEq K C sp E x y H Q
section
variable {X : Cx} {CX : CXT} {k : Nat} {f C : Addr} {fd : FuncData} {ps : List Str} {sp : Sp} {E : XK}
theorem op_ownEqN (F : FnOk X.prog X.w X.K X.mg X.base CX k f fd ps sp) (hr : Room k X.A) (hs : PySem.W.findIn X.K (.ref C) "__eq__" = some (some (.ref f))) (hf : PySem.W.isFn X.K (.ref f) = true) (hb : L2.Binds X.K fd ps []) (hx : Passes CX X E) :
    OpR X (compareOp .Eq) (rOwnEqN X.K C sp E) := by
  intro pins s σ H x y v u Q I rx ry h
  rcases h with ⟨rfl, rfl, q⟩ | h
  · exact op_eq pins s σ H _ _ v u Q I rx ry ⟨rfl, q⟩
  · exact op_ownEq F hr hs hf hb hx pins s σ H x y v u Q I rx ry h
end
end UL

set_option Elab.async false
set_option linter.all false
namespace UL
open PySem PySem.Spec PyProof.Rows L2
def tNo : TE := fun _ _ _ => False
theorem pe_never {X : Cx} {e : Expr} : PE X e tNo := ⟨fun _ _ _ _ _ _ h => h.elim⟩
/-- a comprehension over a walk whose state goes on with the turns -/
theorem lc_at {J : It} {n : Nat} (G : Nat → Hp → Prop) (goes : ∀ i H, i < n → G i H → J.go i H) (stops : ∀ H, G n H → J.stop n H) {g : TG} {tt : TT} {te : TE} {vs : List Nat} {σ : L2.St} {H1 : Hp} {D : Addr} {Qd : Hp → Prop}
    (Pv : Nat → Hp → Prop) (h0 : Pv 0 (upd H1 D (.lst []))) (hG : ∀ i H, i ≤ n → Pv i H → G i H)
    (hs : ∀ i x H H', i < n → Pv i H → J.yld i H x H' → g x (wipe σ vs) H' fun σ2 H2 => wipe σ2 vs = wipe σ vs ∧ tt σ2 H2 fun b H3 =>
      if b = true then te σ2 H3 fun y H4 => ∃ acc, H4 D = some (.lst acc) ∧ acc.length < sizeLine ∧ Pv (i + 1) (upd H4 D (.lst (acc ++ [y]))) else Pv (i + 1) H3) (hd : ∀ H, Pv n H → Qd H) :
    ∃ W : Nat → Nat → Hp → Prop, (∃ m, W 0 m (upd H1 D (.lst []))) ∧ ∀ i m H, W i m H →
      (J.stop i H ∧ Qd H) ∨ (J.go i H ∧ ∃ Nx : Hp → Prop, (∀ H', Nx H' → ∃ m', m' < m ∧ W (i + 1) m' H') ∧ ∀ x H', J.yld i H x H' → g x (wipe σ vs) H' fun σ2 H2 => wipe σ2 vs = wipe σ vs ∧ tt σ2 H2 fun b H3 =>
        if b = true then te σ2 H3 fun y H4 => ∃ acc, H4 D = some (.lst acc) ∧ acc.length < sizeLine ∧ Nx (upd H4 D (.lst (acc ++ [y]))) else Nx H3) := by
  refine ⟨fun i m H => m = n - i ∧ i ≤ n ∧ Pv i H, ⟨n, by simp, Nat.zero_le _, h0⟩, ?_⟩
  rintro i m H ⟨rfl, hi, p⟩
  have q := hG i H hi p
  by_cases hlt : i < n
  · refine .inr ⟨goes i H hlt q, Pv (i + 1), fun H' p' => ⟨n - (i + 1), by omega, rfl, hlt, p'⟩, fun x H' y => hs i x H H' hlt p y⟩
  · have e : i = n := by omega
    subst e
    exact .inl ⟨stops H q, hd H p⟩
end UL

set_option Elab.async false
set_option linter.all false
set_option maxRecDepth 100000
/-! own: C(e, ..) and C.m(e, ..) of a classmethod in a try, where they may let an error out -/
namespace UL
open PySem PySem.Spec PyProof.Rows L2 Evl TL ClX
def tMakeT (C : Addr) (sp : Sp) (E : L2.St → XK) (t : TA) : TE := fun σ H Q => t σ H fun vs H1 =>
  ∀ x dx, H1 x = none → H1 dx = none → dx ≠ x → sp (.ref x :: vs) (upd (upd H1 dx (.own x)) x (.ins C dx [])) (fun v H2 => v = .non ∧ Q (.ref x) H2) (E σ)
def tCMethT (C : Addr) (sp : Sp) (E : L2.St → XK) (ta : TE) (t : TA) : TE := fun σ H Q => ta σ H fun x H1 => x = .ref C ∧ t σ H1 fun vs H2 => sp (.ref C :: vs) H2 Q (E σ)
section
variable {X : Cx} {CX : CXT} {k : Nat} {f C : Addr} {fd : FuncData} {ps : List Str} {sp : Sp} {E : L2.St → XK} {x : Str} {p pos : Pos} {e : Expr} {es : List Expr} {t : TA}
theorem make_runT {pins : List (Addr × Obj)} {σ : L2.St} {H : Hp} {s : Shared} {Q : VK} {us : List Value} {vs : List V} (M : Mk X.K C f) (F : FnOk X.prog X.w X.K X.mg X.base CX k f fd ps sp) (hr : Room (k + 1) X.A) (hb : L2.Binds X.K fd ps [])
    (hx : PassesAt CX X σ (E σ)) (I : Inv X pins σ H s) (r : Vals vs us)
    (h : ∀ x dx, H x = none → H dx = none → dx ≠ x → sp (.ref x :: vs) (upd (upd H dx (.own x)) x (.ins C dx [])) (fun v H2 => v = .non ∧ Q (.ref x) H2) (E σ)) :
    wpAny (model X.prog X.w) X.A (call (.ref C) us) (EP X pins σ Q) X.xe s := by
  let sz := s.heap.objs.size
  have J := Inv.made (C := C) I
  have q0 := h (sz + 1) sz (I.hok.fresh (Nat.le_succ _)) (I.hok.fresh (Nat.le_refl _)) (Nat.ne_of_lt (Nat.lt_succ_self _))
  have ra : Vals (V.ref (sz + 1) :: vs) (Value.ref (sz + 1) :: us) := .cons rfl r
  have na : (Value.ref (sz + 1) :: us ++ []).length = ps.length := by
    rw [List.append_nil, ← ra.length]
    exact F.len _ _ _ _ q0
  have bb := hb _ (Value.ref (sz + 1) :: us) J.kIn na
  rw [List.append_nil] at bb
  have run := F.run _ X.stack _ _ ⟨Value.ref (sz + 1) :: us, []⟩ (Value.ref (sz + 1) :: us) _ _ (E σ) (hr.make C us []) (J.env0.make C us []) bb ra q0
  refine wpAny_call (make_map (f := f) I.kIn M.makes M.init (beq_iff_eq.mp M.fn) (codeAny_mono run fun rr s' z => ?_))
  match rr, z with
  | .error er, z => exact hx pins _ _ er s' J z
  | .ok (.ret u), z =>
    obtain ⟨v, H', J', rv, ev, q⟩ := J.after z
    subst ev
    exact ⟨rv, ⟨V.ref (sz + 1), H', J', rfl, q⟩⟩
  | .ok .next, z => exact False.elim z
  | .ok .brk, z => exact False.elim z
  | .ok .cont, z => exact False.elim z
theorem pe_makeT (M : Mk X.K C f) (F : FnOk X.prog X.w X.K X.mg X.base CX k f fd ps sp) (hr : Room (k + 1) X.A) (hg : Gl X x) (hm : X.mg x = some (.ref C)) (hb : L2.Binds X.K fd ps []) (hx : ∀ σ, PassesAt CX X σ (E σ))
    (ha : PA X (e :: es) t) (hdb : (x == ("__debug__" : Str)) = false := by decide) (he : starEach (e :: es) X.env = (false, eval e X.env) :: starEach es X.env := by rfl) (hpl : (backTo pos (starEach es X.env)).any (·.1) = false := by rfl) :
    PE X (.Call (.Name x p) (e :: es) [] pos) (tMakeT C sp E t) := by
  refine ⟨fun pins s σ H Q I h => ?_⟩
  refine wpAny_Call_Name_kw (ld_glob I hg hm ?_ hdb)
  refine PySem.W.callWith_K (h₀ := X.base) I.ok.mod.kin M.kp (thn (ha.run pos pins s σ H _ I h) fun us s1 ⟨vs, H1, I1, r, q⟩ => ⟨I1.kIn, ?_⟩) he hpl
  exact make_runT M F hr hb (hx σ) I1 r q
end
section
variable {X : Cx} {CX : CXT} {k : Nat} {C p g : Addr} {mc : Value} {fd : FuncData} {ps : List Str} {sp : Sp} {E : L2.St → XK} {o e : Expr} {es : List Expr} {m : Str} {pos apos : Pos} {ta : TE} {t : TA} {pl : Sem Bool}
theorem pe_cmethT (he : PE X o ta) (r : CRead X.K C mc) (c : CMet X.K C mc m p g) (F : FnOk X.prog X.w X.K X.mg X.base CX k g fd ps sp) (hr : Room k X.A) (hb : L2.Binds X.K fd ps []) (hx : ∀ σ, PassesAt CX X σ (E σ)) (ha : PA X (e :: es) t)
    (hst : starEach (e :: es) X.env = (false, eval e X.env) :: starEach es X.env := by rfl) (hpl : (backTo pos (starEach es X.env)).any (·.1) = false := by rfl)
    (ht : eval (.Call (.Attribute o m apos) (e :: es) [] pos) X.env = (do
      let ov ← eval o X.env
      standAt apos.atName
      let (f, first) ← holding [ov] (getMethod ov m pl)
      callWith pos f first (backTo pos (starEach (e :: es) X.env)) (backToKw pos (keywordEach [] X.env))) := by rfl) :
    PE X (.Call (.Attribute o m apos) (e :: es) [] pos) (tCMethT C sp E ta t) := by
  refine ⟨fun pins s σ H Q I h => ?_⟩
  refine PySem.W.methodCall_KW (pl := pl) (thn (he.run pins s σ H _ I h) fun u s1 ⟨x, H1, I1, rx, ex, q⟩ => ?_) ht
  subst ex
  obtain rfl : u = Value.ref C := rx
  refine getmethcm_ok I1 r c fun s2 I2 => ?_
  refine callwith_cm I2 (base_none I1 (Nat.le_refl _)) c.fi (thn (ha.run pos _ s2 σ H1 _ I2 q) fun us s3 ⟨vs, H2, I3, rv, q2⟩ => ⟨⟨pin_at I3, I3.kIn⟩, ?_⟩) hst hpl
  have rr : Vals (V.ref C :: vs) (Value.ref C :: us) := .cons rfl rv
  have hl : (Value.ref C :: us).length = ps.length := by rw [← rr.length]; exact F.len _ _ _ _ q2
  have b := hb s3 (Value.ref C :: us) I3.kIn (by rw [List.append_nil]; exact hl)
  rw [List.append_nil] at b
  have z : wpAny (model X.prog X.w) X.A (call (.ref s1.heap.objs.size) us) (EP X ((s1.heap.objs.size, PySem.W.methodObj (.ref g) (.ref C)) :: pins) σ Q) X.xe s3 :=
    wpAny_call (PySem.W.method_call (pin_at I3) (codeAny_mono (F.run X.A X.stack s3 H2 ⟨Value.ref C :: us, []⟩ (Value.ref C :: us) (V.ref C :: vs) Q (E σ) hr I3.env0 b rr q2) fun r s' hq => match r, hq with
      | .error e, hq => hx σ _ H2 s3 e s' I3 hq
      | .ok (.ret u), hq => I3.after hq
      | .ok .next, hq => False.elim hq
      | .ok .brk, hq => False.elim hq
      | .ok .cont, hq => False.elim hq))
  exact thn z fun _ _ y => unpinE y
end
end UL

set_option Elab.async false
set_option linter.all false
set_option maxRecDepth 100000
/-! own: a try that raises out of its suite: errors of the body that bear no context, and the maker of an error in the suite -/
namespace UL
open PySem PySem.Spec PyProof.Rows L2 Evl TL
section
variable {P : Program} {w : World} {K : PySem.W.Frag} {mg : Str → Option Value} {base : Heap}
/-- a def whose errors bear no context -/
theorem Fun_okN {x qual : Str} {st : Stmt} {f : Addr} {fd : FuncData} {N ps : List Str} {k : Nat} {sp : Sp} (F : L2.Fun K x qual st f fd) (S : FnScope N ps (defScope st)) (len : ∀ vs H Q E, sp vs H Q E → vs.length = ps.length)
    (body : ∀ (cdv : Value) (Ar : Around) (outer : List Env) (s : Shared) (H : Hp) (vs : List V) (Q : VK) (E : XK), Room k (Ar.deeper (envOfC qual (defScope st) s.heap.objs.size f cdv)) → sp vs H Q E →
      ∃ t, PSs (cxOf (L2N.CX P w) P w K mg base N qual (defScope st) f cdv Ar outer s H E) (defBody st) t ∧ t { nx := fun _ H' => Q .non H', rt := Q } (L2.start N vs) H) : FnOk P w K mg base (L2N.CX P w) (k + 1) f fd ps sp := by
  obtain ⟨_, _, _, _, _, _, cdv, _, _, rfl, lk, cd⟩ := F.ex
  exact fn_of lk cd S len (body cdv)
/-- a def (with defaults or none) called where an exception is handled -/
theorem Fun_okH {x qual : Str} {st : Stmt} {f : Addr} {fd : FuncData} {N ps : List Str} {k : Nat} {sp : Sp} (F : L2.Fun K x qual st f fd) (S : FnScope N ps (defScope st)) (len : ∀ vs H Q E, sp vs H Q E → vs.length = ps.length)
    (body : ∀ (cdv : Value) (Ar : Around) (outer : List Env) (s : Shared) (H : Hp) (vs : List V) (Q : VK) (E : XK) (p : Addr × Obj), L2H.HotC (L2H.cxH CX0 P w K mg base N qual (defScope st) f cdv Ar outer s H E p) → L2H.RoomH k (Ar.deeper (envOfC qual (defScope st) s.heap.objs.size f cdv)) → sp vs H Q E →
      ∃ t, PSs (L2H.cxH CX0 P w K mg base N qual (defScope st) f cdv Ar outer s H E p) (defBody st) t ∧ t { nx := fun _ H' => Q .non H', rt := Q } (L2.start N vs) H) : L2H.FnH P w K mg base CX0 (k + 1) f fd ps sp := by
  obtain ⟨_, _, _, _, _, _, cdv, _, _, rfl, lk, cd⟩ := F.ex
  exact L2H.fn_ofH lk cd S len fun Ar outer s H vs Q E p hot hr h => body cdv Ar outer s H vs Q E p ⟨p, ⟨hot.1, hot.2⟩, List.mem_singleton.mpr rfl⟩ hr h
theorem FunD_okH {x qual : Str} {pr : Arguments} {bd : List Stmt} {sc : Scope} {dvs : List V} {kws : List (Str × V)} {f : Addr} {fd : FuncData} {N ps : List Str} {k : Nat} {sp : Sp} (F : FunD K x qual pr bd sc dvs kws f fd) (S : FnScope N ps sc) (len : ∀ vs H Q E, sp vs H Q E → vs.length = ps.length)
    (body : ∀ (cdv : Value) (Ar : Around) (outer : List Env) (s : Shared) (H : Hp) (vs : List V) (Q : VK) (E : XK) (p : Addr × Obj), L2H.HotC (L2H.cxH CX0 P w K mg base N qual sc f cdv Ar outer s H E p) → L2H.RoomH k (Ar.deeper (envOfC qual sc s.heap.objs.size f cdv)) → sp vs H Q E →
      ∃ t, PSs (L2H.cxH CX0 P w K mg base N qual sc f cdv Ar outer s H E p) bd t ∧ t { nx := fun _ H' => Q .non H', rt := Q } (L2.start N vs) H) : L2H.FnH P w K mg base CX0 (k + 1) f fd ps sp := by
  obtain ⟨_, _, _, _, _, _, _, cdv, _, _, rfl, lk, cd, _, _⟩ := F.ex
  exact L2H.fn_ofH lk cd S len fun Ar outer s H vs Q E p hot hr h => body cdv Ar outer s H vs Q E p ⟨p, ⟨hot.1, hot.2⟩, List.mem_singleton.mpr rfl⟩ hr h
end
section
variable {X : Cx} {k : Nat} {f : Addr} {fd : FuncData} {ps : List Str} {sp : Sp} {dvs : List V} {ds : List Value} {x : Str} {p pos : Pos} {e : Expr} {es : List Expr} {t : TA}
/-- f(e, ..) where an exception is handled, defaults left out; no error leaves f -/
theorem pe_callHD (F : L2H.FnH X.prog X.w X.K X.mg X.base CX0 k f fd ps sp) (hr : L2H.RoomH k X.A) (hc : L2H.HotC X) (hg : Gl X x) (hm : X.mg x = some (.ref f)) (hk : PySem.W.keepIn X.K (.ref f) = true) (hb : L2.Binds X.K fd ps ds) (hd : Vals dvs ds)
    (ha : PA X (e :: es) t) (hdb : (x == ("__debug__" : Str)) = false := by decide) (he : starEach (e :: es) X.env = (false, eval e X.env) :: starEach es X.env := by rfl) (hpl : (backTo pos (starEach es X.env)).any (·.1) = false := by rfl) :
    PE X (.Call (.Name x p) (e :: es) [] pos) (tCall sp dvs E0 t) := by
  refine ⟨fun pins s σ H Q I h => wpAny_Call_Name_kw (ld_glob I hg hm ?_ hdb)⟩
  refine PySem.W.callWith_K (h₀ := X.base) I.ok.mod.kin hk (thn (ha.run pos pins s σ H _ I h) fun us s1 ⟨vs, H1, I1, r, q⟩ => ⟨I1.kIn, ?_⟩) he hpl
  obtain ⟨pn, hot, hp⟩ := hc
  have r2 := r.append hd
  have P1 := I1.pin pn (List.mem_append_left _ hp)
  refine wpAny_call (codeAny_mono (F.run X.A X.stack s1 H1 ⟨us, []⟩ (us ++ ds) (vs ++ dvs) Q E0 pn hr hot ⟨P1.1, P1.2.1, fun hmm => (List.mem_cons.mp (I1.stkSub pn.1 hmm)).elim P1.2.2.1 P1.2.2.2.1, P1.2.2.2.2⟩ I1.env0 (hb s1 us I1.kIn ?_) r2 q) fun r s' hq => ?_)
  · rw [← r2.length]
    exact F.len _ _ _ _ q
  match r, hq with
  | .error _, hq => exact hq.elim
  | .ok (.ret u), hq => exact I1.after hq
  | .ok .next, hq => exact False.elim hq
  | .ok .brk, hq => exact False.elim hq
  | .ok .cont, hq => exact False.elim hq
/-- C(e, ..) raised where nothing is handled: the error bears no context -/
theorem pmk_oexN {C fI : Addr} {ta : TA} (T : OexC X.K C) (iC : PySem.W.findIn X.K (.ref C) "__init__" = some (some (.ref fI))) (tI : PySem.W.typeIn X.K (.ref fI) = some (.type "function"))
    (F1 : FnOk X.prog X.w X.K X.mg X.base CX0 k fI fd ps sp) (hr : Room (k + 1) X.A) (hb : L2.Binds X.K fd ps ds) (hd : Vals dvs ds) (hg : Gl X x) (hm : X.mg x = some (.ref C)) (ha : PA X (e :: es) ta)
    (hdb : (x == ("__debug__" : Str)) = false := by decide) (he : starEach (e :: es) X.env = (false, eval e X.env) :: starEach es X.env := by rfl) (hpl : (backTo pos (starEach es X.env)).any (·.1) = false := by rfl) :
    L2N.PMk X (.Call (.Name x p) (e :: es) [] pos) (tMkO C sp dvs ta) := by
  intro pins s σ H Q I h
  obtain ⟨_, _, _, _, bm, _, _, _, _, _, _, _, _, _, _, hC, hbm⟩ := T.cls
  refine wpAny_Call_Name_kw (ld_glob I hg hm ?_ hdb)
  refine PySem.W.callWith_K (h₀ := X.base) I.ok.mod.kin T.kC (thn (ha.run pos pins s σ H _ I h) fun us s1 ⟨vs, H1, I1, r1, hz, q1⟩ => ⟨I1.kIn, ?_⟩) he hpl
  show wpAny _ _ (call (.ref C) us) _ _ _
  obtain ⟨h1, g1, d1, t1, o1⟩ := s1
  let a := h1.objs.size + 1
  have le : h1.objs.size ≤ a := Nat.le_succ _
  have q2 := q1 a (I1.hok.fresh le)
  have kp : ∀ b o, h1.get? b = some o → ((h1.push (PySem.W.kdv_tup us)).push (PySem.HandSPX.excO C h1.objs.size)).get? b = some o := fun b o z => Heap.get?_push_of_some _ (Heap.get?_push_of_some _ z)
  have got : ((h1.push (PySem.W.kdv_tup us)).push (PySem.HandSPX.excO C h1.objs.size)).get? (h1.objs.size + 1) = some (PySem.HandSPX.excO C h1.objs.size) := by heap_get
  have I2 := I1.laid (t' := t1) (a := a) (o := exo a C none) (h' := (h1.push (PySem.W.kdv_tup us)).push (PySem.HandSPX.excO C h1.objs.size)) kp le (exo_ok got)
  have rr : Vals (V.ref a :: (vs ++ dvs)) (Value.ref a :: (us ++ ds)) := .cons rfl (r1.append hd)
  have ll : (Value.ref a :: us ++ ds).length = ps.length := by
    have z := rr.length
    rw [F1.len _ _ _ _ q2] at z
    exact z.symm
  have lu : us.length ≤ sizeLine := by
    rw [← Paired.length r1, sizeLine_eq]
    omega
  refine wpAny_call (PySem.HandSPX.call_own F.excBase_ValueError (fun Y => PySem.HandSPX.refsVE_contains Y bm hbm) (I1.kIn _ _ hC) (PySem.W.looks_findIn I1.kIn iC) (fun self => PySem.W.bind_fn I1.kIn self tI) lu
    (codeAny_mono (F1.run _ X.stack _ _ ⟨Value.ref a :: us, []⟩ (Value.ref a :: (us ++ ds)) _ _ (fun _ _ _ => False) (hr.make C us []) (I2.env0.make C us []) (hb _ (Value.ref a :: us) I2.kIn ll) rr q2) fun r s' hq => ?_))
  match r, hq with
  | .error _, hq => exact hq.elim
  | .ok .next, hq => exact False.elim hq
  | .ok .brk, hq => exact False.elim hq
  | .ok .cont, hq => exact False.elim hq
  | .ok (.ret u), ⟨v, H2, os2, bare2, un2, hok2, rv, ev, d, fs, ea, ed, hd1, q3⟩ =>
    subst ev
    obtain ⟨h2, g2, d2, t2, o2⟩ := s'
    obtain ⟨t0, G, J, kG, ge, hoe, na⟩ := mk_end0 (d2 := d2) (t2 := t2) I1 le kp un2 hok2 os2 bare2 ea ed hd1
    exact ⟨rv, a, _, _, ⟨G, g2, d2, t2, o2⟩, _, .ref C, some d, rfl, J, kG, ge, hoe, ⟨rfl, rfl, fun vs hv => by cases hv; rfl⟩, rfl, rfl, na, rfl, bare2, raises_own T.exC T.tyC, q3⟩
end
end UL

set_option Elab.async false
set_option linter.all false
set_option maxRecDepth 100000
/-! own: o.m(e, .., k = v, ..), also in a try -/
namespace UL
open PySem PySem.Spec PyProof.Rows L2 Evl TL
def tMethK (C : Addr) (m : Str) (n mk : Nat) (sp : Sp) (gV : List V → List V → List V) (E : L2.St → XK) (ta : TE) (t tk : TA) : TE := fun σ H Q => ta σ H fun x H1 => ∃ a dx fs, x = .ref a ∧ H1 a = some (.ins C dx fs) ∧ fs.lookup m = none ∧
  t σ H1 fun vs H2 => tk σ H2 fun zs H3 => vs.length + 1 = n ∧ zs.length = mk ∧ sp (gV (.ref a :: vs) zs) H3 Q (E σ)
section
variable {X : Cx} {CX : CXT} {k n : Nat} {f C : Addr} {fd : FuncData} {ps ks : List Str} {sp : Sp} {E : L2.St → XK} {m : Str} {pos apos : Pos} {e o : Expr} {es : List Expr} {kws : List Keyword} {ta : TE} {t tk : TA} {g : List Value → List Value → List Value} {gV : List V → List V → List V}
theorem pe_methK {pl : Sem Bool} (he : PE X o ta) (c : Cls X.K C) (hm : Meth X.K C m f) (F : FnOk X.prog X.w X.K X.mg X.base CX k f fd ps sp) (hr : Room k X.A) (hb : KBn X.K fd ps n ks g gV) (hx : ∀ σ, PassesAt CX X σ (E σ)) (ha : PA X (e :: es) t) (hkw : PK X kws tk)
    (hall : (backToKw pos (keywordEach kws X.env)).all (·.1.isSome) = true := by rfl) (hks : (backToKw pos (keywordEach kws X.env)).filterMap (·.1) = ks := by rfl)
    (hst : starEach (e :: es) X.env = (false, eval e X.env) :: starEach es X.env := by rfl) (hpl : ((backTo pos (starEach (e :: es) X.env)).any (·.1) || (backToKw pos (keywordEach kws X.env)).any (·.1.isNone)) = false := by rfl)
    (ht : eval (.Call (.Attribute o m apos) (e :: es) kws pos) X.env = (do
      let ov ← eval o X.env
      standAt apos.atName
      let (f, first) ← holding [ov] (getMethod ov m pl)
      callWith pos f first (backTo pos (starEach (e :: es) X.env)) (backToKw pos (keywordEach kws X.env))) := by rfl) :
    PE X (.Call (.Attribute o m apos) (e :: es) kws pos) (tMethK C m n ks.length sp gV E ta t tk) := by
  refine ⟨fun pins s σ H Q I h => ?_⟩
  refine PySem.W.methodCall_KW (pl := pl) (thn (he.run pins s σ H _ I h) fun u s1 ⟨x, H1, I1, rx, a, dx, fs, ex, ea, l, q⟩ => ?_) ht
  subst ex
  obtain rfl : u = Value.ref a := rx
  refine getmeth_ok I1 ea c hm l ?_
  refine PySem.W.callWith_KW (first := [.ref a]) (h₀ := X.base) I1.ok.mod.kin hm.kp hall (thn (ha.run pos pins s1 σ H1 _ I1 q) fun us s2 ⟨vs, H2, I2, r, q2⟩ => ?_) hpl hst
  refine thn (hkw.run pos pins s2 σ H2 _ I2 q2) fun ws s3 ⟨zs, H3, I3, rz, l1, l2, q3⟩ => ⟨I3.kIn, ?_⟩
  rw [hks]
  have r1 : Vals (V.ref a :: vs) (Value.ref a :: us) := .cons rfl r
  have r2 := hb.rel r1 rz
  refine wpAny_call (codeAny_mono (F.run X.A X.stack s3 H3 ⟨Value.ref a :: us, ks.zip ws⟩ (g (Value.ref a :: us) ws) (gV (V.ref a :: vs) zs) Q (E σ) hr I3.env0 (hb.to s3 (Value.ref a :: us) ws I3.kIn (by rw [List.length_cons, ← r.length]; exact l1) (rz.length.symm.trans l2)) r2 q3) fun rr s' hq => ?_)
  cases rr with
  | error er => exact hx σ pins H3 s3 er s' I3 hq
  | ok fl =>
    cases fl with
    | ret u => exact I3.after hq
    | next => exact False.elim hq
    | brk => exact False.elim hq
    | cont => exact False.elim hq
/-- o.m(e, ..) in a try, with defaults left out -/
def tMethTD (C : Addr) (m : Str) (sp : Sp) (dvs : List V) (E : L2.St → XK) (ta : TE) (t : TA) : TE := fun σ H Q => ta σ H fun x H1 => ∃ a dx fs, x = .ref a ∧ H1 a = some (.ins C dx fs) ∧ fs.lookup m = none ∧ t σ H1 fun vs H2 => sp (.ref a :: (vs ++ dvs)) H2 Q (E σ)
theorem pe_methTD {pl : Sem Bool} {ds : List Value} {dvs : List V} (he : PE X o ta) (c : Cls X.K C) (hm : Meth X.K C m f) (F : FnOk X.prog X.w X.K X.mg X.base CX k f fd ps sp) (hr : Room k X.A) (hb : L2.Binds X.K fd ps ds) (hd : Vals dvs ds) (hx : ∀ σ, PassesAt CX X σ (E σ)) (ha : PA X (e :: es) t)
    (hst : starEach (e :: es) X.env = (false, eval e X.env) :: starEach es X.env := by rfl) (hpl : (backTo pos (starEach es X.env)).any (·.1) = false := by rfl)
    (ht : eval (.Call (.Attribute o m apos) (e :: es) [] pos) X.env = (do
      let ov ← eval o X.env
      standAt apos.atName
      let (f, first) ← holding [ov] (getMethod ov m pl)
      callWith pos f first (backTo pos (starEach (e :: es) X.env)) (backToKw pos (keywordEach [] X.env))) := by rfl) :
    PE X (.Call (.Attribute o m apos) (e :: es) [] pos) (tMethTD C m sp dvs E ta t) := by
  refine ⟨fun pins s σ H Q I h => ?_⟩
  refine PySem.W.methodCall_KW (pl := pl) (thn (he.run pins s σ H _ I h) fun u s1 ⟨x, H1, I1, rx, a, dx, fs, ex, ea, l, q⟩ => ?_) ht
  subst ex
  obtain rfl : u = Value.ref a := rx
  refine getmeth_ok I1 ea c hm l ?_
  refine PySem.W.callWith_K (first := [.ref a]) (h₀ := X.base) I1.ok.mod.kin hm.kp (thn (ha.run pos pins s1 σ H1 _ I1 q) fun us s2 ⟨vs, H2, I2, r, q2⟩ => ⟨I2.kIn, ?_⟩) hst hpl
  have rv : Vals ((V.ref a :: vs) ++ dvs) ((Value.ref a :: us) ++ ds) := by
    have gen : ∀ {vs : List V} {us : List Value}, Vals vs us → Vals (vs ++ dvs) (us ++ ds) := by
      intro vs us h
      induction h with
      | nil => exact hd
      | cons h _ ih => exact .cons h ih
    exact gen (.cons rfl r)
  have hl : ((Value.ref a :: us) ++ ds).length = ps.length := by rw [← rv.length]; exact F.len _ _ _ _ q2
  refine wpAny_call (codeAny_mono (F.run X.A X.stack s2 H2 ⟨Value.ref a :: us, []⟩ ((Value.ref a :: us) ++ ds) ((V.ref a :: vs) ++ dvs) Q (E σ) hr I2.env0 (hb s2 (Value.ref a :: us) I2.kIn hl) rv q2) fun rr s' hq => ?_)
  cases rr with
  | error er => exact hx σ pins H2 s2 er s' I2 hq
  | ok fl =>
    cases fl with
    | ret u => exact I2.after hq
    | next => exact False.elim hq
    | brk => exact False.elim hq
    | cont => exact False.elim hq
end
end UL

set_option Elab.async false
set_option linter.all false
set_option maxRecDepth 100000
namespace K20
open PySem PySem.Spec PyProof.Rows L2 Evl TL UL StX
def k_BARE : List V := [V.str "block", V.str "if", V.str "else", V.str "loop", V.str "end"]
def k_BINDING : List V := [V.str "val", V.str "ref", V.str "set"]
def k_OPERATIONS : List (Str × Int) := [("part", 1), ("pick", 2), ("then", 2)]
def k_RESERVED : List V := [V.str "fun", V.str "out", V.str "use", V.str "val", V.str "ref", V.str "set", V.str "block", V.str "if", V.str "else", V.str "loop", V.str "end", V.str "part", V.str "pick", V.str "then", V.str "dead"]
/-! ### the text -/
def topS (i : Nat) : Stmt := PySem.Challenge.pw_unnamedlives_k20_row.main.body.getD i (.Pass ⟨0, 0, 0, 0⟩)
abbrev s_copied : Stmt := topS 1
abbrev n_copied : List Str := ["thing", "levels", "part", "key"]
abbrev p_copied : List Str := ["thing", "levels"]
theorem sc_copied : FnScope n_copied p_copied (defScope s_copied) := ⟨rfl, rfl, rfl, by decide +kernel, rfl, by decide +kernel, by decide +kernel⟩
abbrev s_lives_init : Stmt := inClass (topS 2) 0
abbrev n_lives_init : List Str := ["self", "what"]
abbrev p_lives_init : List Str := ["self", "what"]
theorem sc_lives_init : FnScope n_lives_init p_lives_init (defScope s_lives_init) := ⟨rfl, rfl, rfl, by decide +kernel, rfl, by decide +kernel, by decide +kernel⟩
abbrev s_is_whole : Stmt := topS 8
abbrev n_is_whole : List Str := ["thing"]
abbrev p_is_whole : List Str := ["thing"]
theorem sc_is_whole : FnScope n_is_whole p_is_whole (defScope s_is_whole) := ⟨rfl, rfl, rfl, by decide +kernel, rfl, by decide +kernel, by decide +kernel⟩
abbrev s_is_int : Stmt := topS 9
abbrev n_is_int : List Str := ["thing", "low", "high"]
abbrev p_is_int : List Str := ["thing", "low", "high"]
theorem sc_is_int : FnScope n_is_int p_is_int (defScope s_is_int) := ⟨rfl, rfl, rfl, by decide +kernel, rfl, by decide +kernel, by decide +kernel⟩
abbrev s_is_name : Stmt := topS 15
abbrev n_is_name : List Str := ["text", "sign"]
abbrev p_is_name : List Str := ["text"]
theorem sc_is_name : FnScope n_is_name p_is_name (defScope s_is_name) := ⟨rfl, rfl, rfl, by decide +kernel, rfl, by decide +kernel, by decide +kernel⟩
abbrev s_cut : Stmt := topS 19
abbrev n_cut : List Str := ["text", "pieces", "start", "at", "sign"]
abbrev p_cut : List Str := ["text"]
theorem sc_cut : FnScope n_cut p_cut (defScope s_cut) := ⟨rfl, rfl, rfl, by decide +kernel, rfl, by decide +kernel, by decide +kernel⟩
abbrev s_operation : Stmt := topS 20
abbrev n_operation : List Str := ["word", "operands"]
abbrev p_operation : List Str := ["word", "operands"]
theorem sc_operation : FnScope n_operation p_operation (defScope s_operation) := ⟨rfl, rfl, rfl, by decide +kernel, rfl, by decide +kernel, by decide +kernel⟩
abbrev s_closed : Stmt := topS 21
abbrev n_closed : List Str := ["waiting", "behind_operand", "word", "operands"]
abbrev p_closed : List Str := ["waiting", "behind_operand"]
theorem sc_closed : FnScope n_closed p_closed (defScope s_closed) := ⟨rfl, rfl, rfl, by decide +kernel, rfl, by decide +kernel, by decide +kernel⟩
abbrev s_add_node : Stmt := topS 22
abbrev n_add_node : List Str := ["nodes", "waiting", "node"]
abbrev p_add_node : List Str := ["nodes", "waiting", "node"]
theorem sc_add_node : FnScope n_add_node p_add_node (defScope s_add_node) := ⟨rfl, rfl, rfl, by decide +kernel, rfl, by decide +kernel, by decide +kernel⟩
abbrev s_nodes_of : Stmt := topS 23
abbrev n_nodes_of : List Str := ["text", "nodes", "waiting", "behind_operand", "piece", "node"]
abbrev p_nodes_of : List Str := ["text"]
theorem sc_nodes_of : FnScope n_nodes_of p_nodes_of (defScope s_nodes_of) := ⟨rfl, rfl, rfl, by decide +kernel, rfl, by decide +kernel, by decide +kernel⟩
abbrev s_operands_of : Stmt := topS 24
abbrev n_operands_of : List Str := ["node"]
abbrev p_operands_of : List Str := ["node"]
theorem sc_operands_of : FnScope n_operands_of p_operands_of (defScope s_operands_of) := ⟨rfl, rfl, rfl, by decide +kernel, rfl, by decide +kernel, by decide +kernel⟩
abbrev s_firsts_of : Stmt := topS 25
abbrev n_firsts_of : List Str := ["nodes", "firsts", "at", "node", "operands"]
abbrev p_firsts_of : List Str := ["nodes"]
theorem sc_firsts_of : FnScope n_firsts_of p_firsts_of (defScope s_firsts_of) := ⟨rfl, rfl, rfl, by decide +kernel, rfl, by decide +kernel, by decide +kernel⟩
abbrev s_node_text : Stmt := topS 26
abbrev n_node_text : List Str := ["node", "texts", "word", "inside", "i"]
abbrev p_node_text : List Str := ["node", "texts"]
theorem sc_node_text : FnScope n_node_text p_node_text (defScope s_node_text) := ⟨rfl, rfl, rfl, by decide +kernel, rfl, by decide +kernel, by decide +kernel⟩
abbrev s_ex_init : Stmt := inClass (topS 27) 1
abbrev n_ex_init : List Str := ["self", "nodes"]
abbrev p_ex_init : List Str := ["self", "nodes"]
theorem sc_ex_init : FnScope n_ex_init p_ex_init (defScope s_ex_init) := ⟨rfl, rfl, rfl, by decide +kernel, rfl, by decide +kernel, by decide +kernel⟩
abbrev s_ex_read : Stmt := inClass (topS 27) 2
abbrev n_ex_read : List Str := ["cls", "text", "nodes"]
abbrev p_ex_read : List Str := ["cls", "text"]
theorem sc_ex_read : FnScope n_ex_read p_ex_read (defScope s_ex_read) := ⟨rfl, rfl, rfl, by decide +kernel, rfl, by decide +kernel, by decide +kernel⟩
abbrev s_ex_nodes : Stmt := inClass (topS 27) 3
abbrev n_ex_nodes : List Str := ["self"]
abbrev p_ex_nodes : List Str := ["self"]
theorem sc_ex_nodes : FnScope n_ex_nodes p_ex_nodes (defScope s_ex_nodes) := ⟨rfl, rfl, rfl, by decide +kernel, rfl, by decide +kernel, by decide +kernel⟩
abbrev s_ex_first : Stmt := inClass (topS 27) 5
abbrev n_ex_first : List Str := ["self", "at"]
abbrev p_ex_first : List Str := ["self", "at"]
theorem sc_ex_first : FnScope n_ex_first p_ex_first (defScope s_ex_first) := ⟨rfl, rfl, rfl, by decide +kernel, rfl, by decide +kernel, by decide +kernel⟩
abbrev s_part_text : Stmt := inClass (topS 27) 7
abbrev n_part_text : List Str := ["self", "at", "named", "texts", "k"]
abbrev p_part_text : List Str := ["self", "at", "named"]
theorem sc_part_text : FnScope n_part_text p_part_text (defScope s_part_text) := ⟨rfl, rfl, rfl, by decide +kernel, rfl, by decide +kernel, by decide +kernel⟩
abbrev s_ex_text : Stmt := inClass (topS 27) 6
abbrev n_ex_text : List Str := ["self"]
abbrev p_ex_text : List Str := ["self"]
theorem sc_ex_text : FnScope n_ex_text p_ex_text (defScope s_ex_text) := ⟨rfl, rfl, rfl, by decide +kernel, rfl, by decide +kernel, by decide +kernel⟩
abbrev s_ex_eq : Stmt := inClass (topS 27) 8
abbrev n_ex_eq : List Str := ["self", "other"]
abbrev p_ex_eq : List Str := ["self", "other"]
theorem sc_ex_eq : FnScope n_ex_eq p_ex_eq (defScope s_ex_eq) := ⟨rfl, rfl, rfl, by decide +kernel, rfl, by decide +kernel, by decide +kernel⟩
abbrev s_is_row : Stmt := topS 31
abbrev n_is_row : List Str := ["kind", "name", "expression"]
abbrev p_is_row : List Str := ["kind", "name", "expression"]
theorem sc_is_row : FnScope n_is_row p_is_row (defScope s_is_row) := ⟨rfl, rfl, rfl, by decide +kernel, rfl, by decide +kernel, by decide +kernel⟩
abbrev s_parts_of : Stmt := topS 32
abbrev n_parts_of : List Str := ["text", "kind", "_", "rest", "name", "inside"]
abbrev p_parts_of : List Str := ["text"]
theorem sc_parts_of : FnScope n_parts_of p_parts_of (defScope s_parts_of) := ⟨rfl, rfl, rfl, by decide +kernel, rfl, by decide +kernel, by decide +kernel⟩
abbrev s_row_init : Stmt := inClass (topS 33) 0
abbrev n_row_init : List Str := ["self", "kind", "name", "expression"]
abbrev p_row_init : List Str := ["self", "kind", "name", "expression"]
theorem sc_row_init : FnScope n_row_init p_row_init (defScope s_row_init) := ⟨rfl, rfl, rfl, by decide +kernel, rfl, by decide +kernel, by decide +kernel⟩
abbrev s_row_text : Stmt := inClass (topS 33) 1
abbrev n_row_text : List Str := ["self", "inside"]
abbrev p_row_text : List Str := ["self"]
theorem sc_row_text : FnScope n_row_text p_row_text (defScope s_row_text) := ⟨rfl, rfl, rfl, by decide +kernel, rfl, by decide +kernel, by decide +kernel⟩
abbrev s_row_read : Stmt := inClass (topS 33) 2
abbrev n_row_read : List Str := ["text", "kind", "name", "inside", "expression"]
abbrev p_row_read : List Str := ["text"]
theorem sc_row_read : FnScope n_row_read p_row_read (defScope s_row_read) := ⟨rfl, rfl, rfl, by decide +kernel, rfl, by decide +kernel, by decide +kernel⟩
abbrev s_row_eq : Stmt := inClass (topS 33) 3
abbrev n_row_eq : List Str := ["self", "other"]
abbrev p_row_eq : List Str := ["self", "other"]
theorem sc_row_eq : FnScope n_row_eq p_row_eq (defScope s_row_eq) := ⟨rfl, rfl, rfl, by decide +kernel, rfl, by decide +kernel, by decide +kernel⟩
abbrev s_draws : Stmt := topS 35
abbrev n_draws : List Str := ["_law_script", "_law_draws_here", "_law_place", "_law_cell", "_law_rest", "_law_turn", "_law_mixed"]
abbrev p_draws : List Str := ["_law_script"]
theorem sc_draws : FnScope n_draws p_draws (defScope s_draws) := ⟨rfl, rfl, rfl, by decide +kernel, rfl, by decide +kernel, by decide +kernel⟩
abbrev s_take : Stmt := topS 36
abbrev n_take : List Str := ["_law_draws_here", "_law_many"]
abbrev p_take : List Str := ["_law_draws_here", "_law_many"]
theorem sc_take : FnScope n_take p_take (defScope s_take) := ⟨rfl, rfl, rfl, by decide +kernel, rfl, by decide +kernel, by decide +kernel⟩
abbrev s_name : Stmt := topS 37
abbrev n_name : List Str := ["_law_draws_here", "_law_k", "_law_letters", "_law_plain", "_law_shape", "_law_word"]
abbrev p_name : List Str := ["_law_draws_here", "_law_k"]
theorem sc_name : FnScope n_name p_name (defScope s_name) := ⟨rfl, rfl, rfl, by decide +kernel, rfl, by decide +kernel, by decide +kernel⟩
abbrev s_functions : Stmt := topS 38
abbrev n_functions : List Str := ["_law_draws_here", "_law_functions_here", "_law_k", "_law_word", "_law_count_here", "_law_mask", "_law_numbers", "_law_j"]
abbrev p_functions : List Str := ["_law_draws_here"]
theorem sc_functions : FnScope n_functions p_functions (defScope s_functions) := ⟨rfl, rfl, rfl, by decide +kernel, rfl, by decide +kernel, by decide +kernel⟩
abbrev s_add : Stmt := topS 39
abbrev n_add : List Str := ["_law_heap", "_law_kind", "_law_word", "_law_need", "_law_nodes", "_law_roots", "_law_texts", "_law_at", "_law_args", "_law_text", "_law_node", "_law_turn"]
abbrev p_add : List Str := ["_law_heap", "_law_kind", "_law_word", "_law_need"]
theorem sc_add : FnScope n_add p_add (defScope s_add) := ⟨rfl, rfl, rfl, by decide +kernel, rfl, by decide +kernel, by decide +kernel⟩
abbrev s_expression : Stmt := topS 40
abbrev n_expression : List Str := ["_law_draws_here", "_law_names", "_law_functions_here", "_law_most", "_law_heap", "_law_turn", "_law_form", "_law_kind", "_law_word", "_law_need", "_law_called"]
abbrev p_expression : List Str := ["_law_draws_here", "_law_names", "_law_functions_here", "_law_most"]
theorem sc_expression : FnScope n_expression p_expression (defScope s_expression) := ⟨rfl, rfl, rfl, by decide +kernel, rfl, by decide +kernel, by decide +kernel⟩
abbrev s_words : Stmt := topS 41
abbrev n_words : List Str := ["_law_words_here"]
abbrev p_words : List Str := []
theorem sc_words : FnScope n_words p_words (defScope s_words) := ⟨rfl, rfl, rfl, by decide +kernel, rfl, by decide +kernel, by decide +kernel⟩
abbrev s_lname : Stmt := topS 42
abbrev n_lname : List Str := ["_law_thing", "_law_sign"]
abbrev p_lname : List Str := ["_law_thing"]
theorem sc_lname : FnScope n_lname p_lname (defScope s_lname) := ⟨rfl, rfl, rfl, by decide +kernel, rfl, by decide +kernel, by decide +kernel⟩
abbrev s_wfits : Stmt := topS 43
abbrev n_wfits : List Str := ["_law_word", "_law_many"]
abbrev p_wfits : List Str := ["_law_word", "_law_many"]
theorem sc_wfits : FnScope n_wfits p_wfits (defScope s_wfits) := ⟨rfl, rfl, rfl, by decide +kernel, rfl, by decide +kernel, by decide +kernel⟩
abbrev s_lcount : Stmt := topS 44
abbrev n_lcount : List Str := ["_law_text", "_law_rest", "_law_total", "_law_step", "_law_shut", "_law_at", "_law_begun", "_law_args", "_law_arg"]
abbrev p_lcount : List Str := ["_law_text"]
theorem sc_lcount : FnScope n_lcount p_lcount (defScope s_lcount) := ⟨rfl, rfl, rfl, by decide +kernel, rfl, by decide +kernel, by decide +kernel⟩
abbrev s_lrrow : Stmt := topS 45
abbrev n_lrrow : List Str := ["_law_text", "_law_words_here", "_law_count_here", "_law_row"]
abbrev p_lrrow : List Str := ["_law_text"]
theorem sc_lrrow : FnScope n_lrrow p_lrrow (defScope s_lrrow) := ⟨rfl, rfl, rfl, by decide +kernel, rfl, by decide +kernel, by decide +kernel⟩
abbrev s_lrtext : Stmt := topS 46
abbrev n_lrtext : List Str := ["_law_row"]
abbrev p_lrtext : List Str := ["_law_row"]
theorem sc_lrtext : FnScope n_lrtext p_lrtext (defScope s_lrtext) := ⟨rfl, rfl, rfl, by decide +kernel, rfl, by decide +kernel, by decide +kernel⟩
abbrev s_lmade : Stmt := topS 47
abbrev n_lmade : List Str := ["_law_kind", "_law_label", "_law_tree", "_law_short"]
abbrev p_lmade : List Str := ["_law_kind", "_law_label", "_law_tree", "_law_short"]
theorem sc_lmade : FnScope n_lmade p_lmade (defScope s_lmade) := ⟨rfl, rfl, rfl, by decide +kernel, rfl, by decide +kernel, by decide +kernel⟩
abbrev s_lis : Stmt := topS 48
abbrev n_lis : List Str := ["_law_row", "_law_due"]
abbrev p_lis : List Str := ["_law_row", "_law_due"]
theorem sc_lis : FnScope n_lis p_lis (defScope s_lis) := ⟨rfl, rfl, rfl, by decide +kernel, rfl, by decide +kernel, by decide +kernel⟩
abbrev s_built : Stmt := topS 49
abbrev n_built : List Str := ["_law_draws_here", "_law_names", "_law_functions_here", "_law_kinds", "_law_kind", "_law_labels", "_law_label", "_law_text", "_law_tree", "_law_odd", "_law_good", "_law_short", "_law_row", "_law_what", "_law_raised", "e"]
abbrev p_built : List Str := ["_law_draws_here", "_law_names", "_law_functions_here"]
theorem sc_built : FnScope n_built p_built (defScope s_built) := ⟨rfl, rfl, rfl, by decide +kernel, rfl, by decide +kernel, by decide +kernel⟩
abbrev s_ldrow : Stmt := topS 50
abbrev n_ldrow : List Str := ["_law_draws_here", "_law_names", "_law_functions_here", "_law_most", "_law_kind", "_law_text"]
abbrev p_ldrow : List Str := ["_law_draws_here", "_law_names", "_law_functions_here", "_law_most"]
theorem sc_ldrow : FnScope n_ldrow p_ldrow (defScope s_ldrow) := ⟨rfl, rfl, rfl, by decide +kernel, rfl, by decide +kernel, by decide +kernel⟩
abbrev s_spoilt : Stmt := topS 51
abbrev n_spoilt : List Str := ["_law_draws_here", "_law_text", "_law_change", "_law_at", "_law_sign", "_law_words_here"]
abbrev p_spoilt : List Str := ["_law_draws_here", "_law_text"]
theorem sc_spoilt : FnScope n_spoilt p_spoilt (defScope s_spoilt) := ⟨rfl, rfl, rfl, by decide +kernel, rfl, by decide +kernel, by decide +kernel⟩
abbrev s_rholds : Stmt := topS 52
abbrev n_rholds : List Str := ["_law_text", "_law_due", "_law_row", "_law_told", "e"]
abbrev p_rholds : List Str := ["_law_text"]
theorem sc_rholds : FnScope n_rholds p_rholds (defScope s_rholds) := ⟨rfl, rfl, rfl, by decide +kernel, rfl, by decide +kernel, by decide +kernel⟩
abbrev s_law : Stmt := topS 53
abbrev n_law : List Str := ["_law_script", "_law_draws_here", "_law_names", "_law_functions_here", "_law_one", "_law_two", "_law_odd", "_law_many", "_law_long", "_law_first", "_law_second", "_law_said", "_law_told", "_law_k"]
abbrev p_law : List Str := ["_law_script"]
theorem sc_law : FnScope n_law p_law (defScope s_law) := ⟨rfl, rfl, rfl, by decide +kernel, rfl, by decide +kernel, by decide +kernel⟩
structure Adr where
  copied : Addr
  d_copied : FuncData
  lives_init : Addr
  d_lives_init : FuncData
  is_whole : Addr
  d_is_whole : FuncData
  is_int : Addr
  d_is_int : FuncData
  is_name : Addr
  d_is_name : FuncData
  cut : Addr
  d_cut : FuncData
  operation : Addr
  d_operation : FuncData
  closed : Addr
  d_closed : FuncData
  add_node : Addr
  d_add_node : FuncData
  nodes_of : Addr
  d_nodes_of : FuncData
  operands_of : Addr
  d_operands_of : FuncData
  firsts_of : Addr
  d_firsts_of : FuncData
  node_text : Addr
  d_node_text : FuncData
  ex_init : Addr
  d_ex_init : FuncData
  ex_read : Addr
  d_ex_read : FuncData
  ex_nodes : Addr
  d_ex_nodes : FuncData
  ex_first : Addr
  d_ex_first : FuncData
  part_text : Addr
  d_part_text : FuncData
  ex_text : Addr
  d_ex_text : FuncData
  ex_eq : Addr
  d_ex_eq : FuncData
  is_row : Addr
  d_is_row : FuncData
  parts_of : Addr
  d_parts_of : FuncData
  row_init : Addr
  d_row_init : FuncData
  row_text : Addr
  d_row_text : FuncData
  row_read : Addr
  d_row_read : FuncData
  row_eq : Addr
  d_row_eq : FuncData
  draws : Addr
  d_draws : FuncData
  take : Addr
  d_take : FuncData
  name : Addr
  d_name : FuncData
  functions : Addr
  d_functions : FuncData
  add : Addr
  d_add : FuncData
  expression : Addr
  d_expression : FuncData
  words : Addr
  d_words : FuncData
  lname : Addr
  d_lname : FuncData
  wfits : Addr
  d_wfits : FuncData
  lcount : Addr
  d_lcount : FuncData
  lrrow : Addr
  d_lrrow : FuncData
  lrtext : Addr
  d_lrtext : FuncData
  lmade : Addr
  d_lmade : FuncData
  lis : Addr
  d_lis : FuncData
  built : Addr
  d_built : FuncData
  ldrow : Addr
  d_ldrow : FuncData
  spoilt : Addr
  d_spoilt : FuncData
  rholds : Addr
  d_rholds : FuncData
  law : Addr
  d_law : FuncData
  o_ex_read : Addr
  o_ex_nodes : Addr
  o_row_read : Addr
  LivesError : Addr
  TooLarge : Addr
  Expression : Addr
  NoPlace : Addr
  InvalidExpression : Addr
  Row : Addr
  InvalidRow : Addr
  BARE : Addr
  BINDING : Addr
  t_DIGITS : Nat
  t_LETTERS : Nat
  t_MOST_ARGUMENTS : Nat
  t_MOST_CHARACTERS : Nat
  OPERATIONS : Addr
  RESERVED : Addr
structure Tx0 (w : World) (K : PySem.W.Frag) (mg : Str → Option Value) (A : Adr) : Prop where
  F_copied : FunD K "copied" "copied" (defArgs s_copied) (defBody s_copied) (defScope s_copied) [.int 4] [] A.copied A.d_copied
  g_copied : mg "copied" = some (.ref A.copied)
  F_lives_init : Fun K "__init__" "LivesError.__init__" s_lives_init A.lives_init A.d_lives_init
  b_lives_init : L2.Binds K A.d_lives_init p_lives_init []
  ti_lives_init : PySem.W.typeIn K (.ref A.lives_init) = some (.type "function")
  F_is_whole : Fun K "is_whole" "is_whole" s_is_whole A.is_whole A.d_is_whole
  b_is_whole : L2.Binds K A.d_is_whole p_is_whole []
  g_is_whole : mg "is_whole" = some (.ref A.is_whole)
  F_is_int : Fun K "is_integer_in" "is_integer_in" s_is_int A.is_int A.d_is_int
  b_is_int : L2.Binds K A.d_is_int p_is_int []
  g_is_int : mg "is_integer_in" = some (.ref A.is_int)
  F_is_name : Fun K "is_name" "is_name" s_is_name A.is_name A.d_is_name
  b_is_name : L2.Binds K A.d_is_name p_is_name []
  g_is_name : mg "is_name" = some (.ref A.is_name)
  F_cut : Fun K "cut" "cut" s_cut A.cut A.d_cut
  b_cut : L2.Binds K A.d_cut p_cut []
  g_cut : mg "cut" = some (.ref A.cut)
  F_operation : Fun K "operation" "operation" s_operation A.operation A.d_operation
  b_operation : L2.Binds K A.d_operation p_operation []
  g_operation : mg "operation" = some (.ref A.operation)
  F_closed : Fun K "closed" "closed" s_closed A.closed A.d_closed
  b_closed : L2.Binds K A.d_closed p_closed []
  g_closed : mg "closed" = some (.ref A.closed)
  F_add_node : Fun K "add_node" "add_node" s_add_node A.add_node A.d_add_node
  b_add_node : L2.Binds K A.d_add_node p_add_node []
  g_add_node : mg "add_node" = some (.ref A.add_node)
  F_nodes_of : Fun K "nodes_of" "nodes_of" s_nodes_of A.nodes_of A.d_nodes_of
  b_nodes_of : L2.Binds K A.d_nodes_of p_nodes_of []
  g_nodes_of : mg "nodes_of" = some (.ref A.nodes_of)
  F_operands_of : Fun K "operands_of" "operands_of" s_operands_of A.operands_of A.d_operands_of
  b_operands_of : L2.Binds K A.d_operands_of p_operands_of []
  g_operands_of : mg "operands_of" = some (.ref A.operands_of)
  F_firsts_of : Fun K "firsts_of" "firsts_of" s_firsts_of A.firsts_of A.d_firsts_of
  b_firsts_of : L2.Binds K A.d_firsts_of p_firsts_of []
  g_firsts_of : mg "firsts_of" = some (.ref A.firsts_of)
  F_node_text : Fun K "node_text" "node_text" s_node_text A.node_text A.d_node_text
  b_node_text : L2.Binds K A.d_node_text p_node_text []
  g_node_text : mg "node_text" = some (.ref A.node_text)
  F_ex_init : Fun K "__init__" "Expression.__init__" s_ex_init A.ex_init A.d_ex_init
  b_ex_init : L2.Binds K A.d_ex_init p_ex_init []
  e_ex_init : Meth K A.Expression "__init__" A.ex_init
  F_ex_read : Fun K "read" "Expression.read" s_ex_read A.ex_read A.d_ex_read
  b_ex_read : L2.Binds K A.d_ex_read p_ex_read []
  cm_ex_read : ClX.CMet K A.Expression (.type "type") "read" A.o_ex_read A.ex_read
  F_ex_nodes : Fun K "nodes" "Expression.nodes" s_ex_nodes A.ex_nodes A.d_ex_nodes
  b_ex_nodes : L2.Binds K A.d_ex_nodes p_ex_nodes []
  r_ex_nodes : PropOf K A.Expression "nodes" A.o_ex_nodes A.ex_nodes
  F_ex_first : Fun K "first" "Expression.first" s_ex_first A.ex_first A.d_ex_first
  b_ex_first : L2.Binds K A.d_ex_first p_ex_first []
  e_ex_first : Meth K A.Expression "first" A.ex_first
  F_part_text : FunD K "part_text" "Expression.part_text" (defArgs s_part_text) (defBody s_part_text) (defScope s_part_text) [] [("named", .non)] A.part_text A.d_part_text
  e_part_text : Meth K A.Expression "part_text" A.part_text
  F_ex_text : Fun K "text" "Expression.text" s_ex_text A.ex_text A.d_ex_text
  b_ex_text : L2.Binds K A.d_ex_text p_ex_text []
  e_ex_text : Meth K A.Expression "text" A.ex_text
  F_ex_eq : Fun K "__eq__" "Expression.__eq__" s_ex_eq A.ex_eq A.d_ex_eq
  b_ex_eq : L2.Binds K A.d_ex_eq p_ex_eq []
  e_ex_eq : Meth K A.Expression "__eq__" A.ex_eq
  F_is_row : Fun K "is_row" "is_row" s_is_row A.is_row A.d_is_row
  b_is_row : L2.Binds K A.d_is_row p_is_row []
  g_is_row : mg "is_row" = some (.ref A.is_row)
  F_parts_of : Fun K "parts_of" "parts_of" s_parts_of A.parts_of A.d_parts_of
  b_parts_of : L2.Binds K A.d_parts_of p_parts_of []
  g_parts_of : mg "parts_of" = some (.ref A.parts_of)
  F_row_init : FunD K "__init__" "Row.__init__" (defArgs s_row_init) (defBody s_row_init) (defScope s_row_init) [] [("name", .str ""), ("expression", .non)] A.row_init A.d_row_init
  e_row_init : Meth K A.Row "__init__" A.row_init
  F_row_text : Fun K "text" "Row.text" s_row_text A.row_text A.d_row_text
  b_row_text : L2.Binds K A.d_row_text p_row_text []
  e_row_text : Meth K A.Row "text" A.row_text
  F_row_read : Fun K "read" "Row.read" s_row_read A.row_read A.d_row_read
  b_row_read : L2.Binds K A.d_row_read p_row_read []
  sm_row_read : UL.SMet K A.Row (.type "type") "read" A.o_row_read A.row_read
  F_row_eq : Fun K "__eq__" "Row.__eq__" s_row_eq A.row_eq A.d_row_eq
  b_row_eq : L2.Binds K A.d_row_eq p_row_eq []
  e_row_eq : Meth K A.Row "__eq__" A.row_eq
  F_draws : Fun K "_law_draws" "_law_draws" s_draws A.draws A.d_draws
  b_draws : L2.Binds K A.d_draws p_draws []
  g_draws : mg "_law_draws" = some (.ref A.draws)
  F_take : Fun K "_law_take" "_law_take" s_take A.take A.d_take
  b_take : L2.Binds K A.d_take p_take []
  g_take : mg "_law_take" = some (.ref A.take)
  F_name : Fun K "_law_name" "_law_name" s_name A.name A.d_name
  b_name : L2.Binds K A.d_name p_name []
  g_name : mg "_law_name" = some (.ref A.name)
  F_functions : Fun K "_law_functions" "_law_functions" s_functions A.functions A.d_functions
  b_functions : L2.Binds K A.d_functions p_functions []
  g_functions : mg "_law_functions" = some (.ref A.functions)
  F_add : Fun K "_law_add" "_law_add" s_add A.add A.d_add
  b_add : L2.Binds K A.d_add p_add []
  g_add : mg "_law_add" = some (.ref A.add)
  F_expression : Fun K "_law_expression" "_law_expression" s_expression A.expression A.d_expression
  b_expression : L2.Binds K A.d_expression p_expression []
  g_expression : mg "_law_expression" = some (.ref A.expression)
  F_words : Fun K "_law_words" "_law_words" s_words A.words A.d_words
  b_words : L2.Binds K A.d_words p_words []
  g_words : mg "_law_words" = some (.ref A.words)
  F_lname : Fun K "_law_is_name" "_law_is_name" s_lname A.lname A.d_lname
  b_lname : L2.Binds K A.d_lname p_lname []
  g_lname : mg "_law_is_name" = some (.ref A.lname)
  F_wfits : Fun K "_law_word_fits" "_law_word_fits" s_wfits A.wfits A.d_wfits
  b_wfits : L2.Binds K A.d_wfits p_wfits []
  g_wfits : mg "_law_word_fits" = some (.ref A.wfits)
  F_lcount : Fun K "_law_count" "_law_count" s_lcount A.lcount A.d_lcount
  b_lcount : L2.Binds K A.d_lcount p_lcount []
  g_lcount : mg "_law_count" = some (.ref A.lcount)
  F_lrrow : Fun K "_law_read_row" "_law_read_row" s_lrrow A.lrrow A.d_lrrow
  b_lrrow : L2.Binds K A.d_lrrow p_lrrow []
  g_lrrow : mg "_law_read_row" = some (.ref A.lrrow)
  F_lrtext : Fun K "_law_row_text" "_law_row_text" s_lrtext A.lrtext A.d_lrtext
  b_lrtext : L2.Binds K A.d_lrtext p_lrtext []
  g_lrtext : mg "_law_row_text" = some (.ref A.lrtext)
  F_lmade : Fun K "_law_made" "_law_made" s_lmade A.lmade A.d_lmade
  b_lmade : L2.Binds K A.d_lmade p_lmade []
  g_lmade : mg "_law_made" = some (.ref A.lmade)
  F_lis : Fun K "_law_is" "_law_is" s_lis A.lis A.d_lis
  b_lis : L2.Binds K A.d_lis p_lis []
  g_lis : mg "_law_is" = some (.ref A.lis)
  F_built : Fun K "_law_built_holds" "_law_built_holds" s_built A.built A.d_built
  b_built : L2.Binds K A.d_built p_built []
  g_built : mg "_law_built_holds" = some (.ref A.built)
  F_ldrow : Fun K "_law_drawn_row" "_law_drawn_row" s_ldrow A.ldrow A.d_ldrow
  b_ldrow : L2.Binds K A.d_ldrow p_ldrow []
  g_ldrow : mg "_law_drawn_row" = some (.ref A.ldrow)
  F_spoilt : Fun K "_law_spoilt_row" "_law_spoilt_row" s_spoilt A.spoilt A.d_spoilt
  b_spoilt : L2.Binds K A.d_spoilt p_spoilt []
  g_spoilt : mg "_law_spoilt_row" = some (.ref A.spoilt)
  F_rholds : Fun K "_law_read_holds" "_law_read_holds" s_rholds A.rholds A.d_rholds
  b_rholds : L2.Binds K A.d_rholds p_rholds []
  g_rholds : mg "_law_read_holds" = some (.ref A.rholds)
  F_law : Fun K "law" "law" s_law A.law A.d_law
  b_law : L2.Binds K A.d_law p_law []
  g_law : mg "law" = some (.ref A.law)
  m_ValueError : mg "ValueError" = none
  m_abs : mg "abs" = none
  m_all : mg "all" = none
  m_bool : mg "bool" = none
  m_dict : mg "dict" = none
  m_enumerate : mg "enumerate" = none
  m_int : mg "int" = none
  m_isinstance : mg "isinstance" = none
  m_len : mg "len" = none
  m_list : mg "list" = none
  m_max : mg "max" = none
  m_min : mg "min" = none
  m_range : mg "range" = none
  m_reversed : mg "reversed" = none
  m_str : mg "str" = none
  m_tuple : mg "tuple" = none
  g_LivesError : mg "LivesError" = some (.ref A.LivesError)
  ex_LivesError : UL.ExF K A.LivesError A.lives_init
  g_TooLarge : mg "TooLarge" = some (.ref A.TooLarge)
  ex_TooLarge : UL.ExF K A.TooLarge A.lives_init
  xi_TooLarge : UL.ExI K A.TooLarge
  g_Expression : mg "Expression" = some (.ref A.Expression)
  cl_Expression : Cls K A.Expression
  ty_Expression : UL.TyF K A.Expression
  mk_Expression : Mk K A.Expression A.ex_init
  cr_Expression : ClX.CRead K A.Expression (.type "type")
  cv_Expression_MOST_NODES : ∃ u, ClX.CVal K A.Expression (.type "type") "MOST_NODES" (.int 20) u
  na_Expression__nodes : NoAttr K A.Expression "_nodes"
  na_Expression__firsts : NoAttr K A.Expression "_firsts"
  g_NoPlace : mg "NoPlace" = some (.ref A.NoPlace)
  ex_NoPlace : UL.ExF K A.NoPlace A.lives_init
  xi_NoPlace : UL.ExI K A.NoPlace
  g_InvalidExpression : mg "InvalidExpression" = some (.ref A.InvalidExpression)
  ex_InvalidExpression : UL.ExF K A.InvalidExpression A.lives_init
  xi_InvalidExpression : UL.ExI K A.InvalidExpression
  g_Row : mg "Row" = some (.ref A.Row)
  cl_Row : Cls K A.Row
  ty_Row : UL.TyF K A.Row
  mk_Row : Mk K A.Row A.row_init
  na_Row_kind : NoAttr K A.Row "kind"
  na_Row_name : NoAttr K A.Row "name"
  na_Row_expression : NoAttr K A.Row "expression"
  g_InvalidRow : mg "InvalidRow" = some (.ref A.InvalidRow)
  ex_InvalidRow : UL.ExF K A.InvalidRow A.lives_init
  xi_InvalidRow : UL.ExI K A.InvalidRow
  te_ii : PySem.W.exmOne K (.ref A.InvalidExpression) (.ref A.InvalidExpression) = some true
  te_tt : PySem.W.exmOne K (.ref A.TooLarge) (.ref A.TooLarge) = some true
  te_ti : PySem.W.exmOne K (.ref A.TooLarge) (.ref A.InvalidExpression) = some false
  ke_own : PySem.W.kitOne K (.ref A.Expression) (.ref A.Expression) = some true
  ks_str : PySem.W.kitOne K (.type "str") (.ref A.Expression) = some false
  ks_int : PySem.W.kitOne K (.type "int") (.ref A.Expression) = some false
  ks_bool : PySem.W.kitOne K (.type "bool") (.ref A.Expression) = some false
  ks_non : PySem.W.kitOne K (.type "NoneType") (.ref A.Expression) = some false
  kr_str : PySem.W.kitOne K (.type "str") (.ref A.Row) = some false
  te_rr : PySem.W.exmOne K (.ref A.InvalidRow) (.ref A.InvalidRow) = some true
  te_tr : PySem.W.exmOne K (.ref A.TooLarge) (.ref A.InvalidRow) = some false
  si_ii : PySem.W.subIn K (.ref A.InvalidExpression) (.ref A.InvalidExpression) = some true
  si_tt : PySem.W.subIn K (.ref A.TooLarge) (.ref A.TooLarge) = some true
  si_ti : PySem.W.subIn K (.ref A.TooLarge) (.ref A.InvalidExpression) = some false
  tyE : PySem.W.typeIn K (.ref A.Expression) = some (.type "type")
  sb_str : PySem.W.subIn K (.type "str") (.ref A.Expression) = some false
  sb_int : PySem.W.subIn K (.type "int") (.ref A.Expression) = some false
  sb_bool : PySem.W.subIn K (.type "bool") (.ref A.Expression) = some false
  sb_non : PySem.W.subIn K (.type "NoneType") (.ref A.Expression) = some false
  tyR : PySem.W.typeIn K (.ref A.Row) = some (.type "type")
  sbR_str : PySem.W.subIn K (.type "str") (.ref A.Row) = some false
  si_rr : PySem.W.subIn K (.ref A.InvalidRow) (.ref A.InvalidRow) = some true
  si_tr : PySem.W.subIn K (.ref A.TooLarge) (.ref A.InvalidRow) = some false
  c_BARE : mg "BARE" = some (.ref A.BARE)
  q_BARE : ∀ H : Hp, SqT K H A.BARE k_BARE
  o_BARE : ∃ o, K.lookup A.BARE = some o ∧ o.cls = .type "tuple"
  c_BINDING : mg "BINDING" = some (.ref A.BINDING)
  q_BINDING : ∀ H : Hp, SqT K H A.BINDING k_BINDING
  o_BINDING : ∃ o, K.lookup A.BINDING = some o ∧ o.cls = .type "tuple"
  c_DIGITS : mg "DIGITS" = some (.str "0123456789" A.t_DIGITS)
  c_LETTERS : mg "LETTERS" = some (.str "abcdefghijklmnopqrstuvwxyz" A.t_LETTERS)
  c_MOST_ARGUMENTS : mg "MOST_ARGUMENTS" = some (.int 4 A.t_MOST_ARGUMENTS)
  c_MOST_CHARACTERS : mg "MOST_CHARACTERS" = some (.int 8 A.t_MOST_CHARACTERS)
  c_OPERATIONS : mg "OPERATIONS" = some (.ref A.OPERATIONS)
  w_OPERATIONS : UL.WD K w A.OPERATIONS k_OPERATIONS
  c_RESERVED : mg "RESERVED" = some (.ref A.RESERVED)
  q_RESERVED : ∀ H : Hp, SqT K H A.RESERVED k_RESERVED
  o_RESERVED : ∃ o, K.lookup A.RESERVED = some o ∧ o.cls = .type "tuple"
section
variable {P : Program} {w : World} {K : PySem.W.Frag} {mg : Str → Option Value} {base : Heap} {A : Adr}
def spTake : Sp := fun vs H Q _ => ∃ d m, vs = [.ref d, .int m] ∧ H d = some (DrO d) ∧ 0 < m ∧ ∀ n : Int, 0 ≤ n → n < m → Q (.int n) H
theorem ok_take (T : Tx0 w K mg A) : FnOk P w K mg base CX0 1 A.take A.d_take p_take spTake := by
  refine T.F_take.ok sc_take (fun vs H Q E h => ?_) (fun cdv Ar outer s H vs Q E hr h => ?_)
  · obtain ⟨d, m, rfl, _⟩ := h
    rfl
  · obtain ⟨d, m, rfl, hd, hm, k⟩ := h
    refine ⟨_, (UL.pss_open 0 (pss_cons (ps_if (pt_cmpR op_eq (pe_callB call_len_seq (by rfl) T.m_len PySem.boot_len (pa_cons (pv 0) pa_nil)) pe_int (nomark _)) (pss_one (ps_ret (UL.pe_close pe_int))) pss_nil)
      (pss_one (ps_ret (UL.pe_close (pe_op op_mod (pe_callTy call_int1 (by rfl) T.m_int (by decide +kernel) (pa_cons (pe_bm PySem.F.plainAttrs_list PySem.F.slot_list_pop PySem.F.type_list_pop mt_popAt (pv 0) (pa_cons pe_int pa_nil)) pa_nil)) (pv 1))))))), ?_⟩
    refine ⟨d, rfl, hd, fun ns g => ?_⟩
    refine ⟨.ref d, rfl, d, _, rfl, .inl (SqL.of upd_same), rfl, _, rfl, ite2 (fun e => ?_) (fun e => ?_)⟩
    · refine ⟨d, ns, upd_same, g, ?_⟩
      show Q _ (upd (upd H d _) d _)
      rw [upd_back hd]
      exact k 0 (Int.le_refl 0) hm
    · obtain ⟨n, r, rfl⟩ : ∃ n r, ns = n :: r := by
        cases ns with
        | nil => exact absurd (decide_eq_true rfl) e
        | cons n r => exact ⟨n, r, rfl⟩
      obtain ⟨n0, n1, gr⟩ := good_tail g
      refine ⟨.ref d, rfl, .inl ⟨rfl, _, SqL.of upd_same⟩, d, _, 0, 0, .int n, rfl, rfl, upd_same, by decide, by decide, (by rw [List.length_map]; exact seq0 _), rfl, .inl ⟨n, rfl, .int m, rfl, n, m, rfl, rfl, hm, d, r, upd_same, gr, ?_⟩⟩
      rw [upd_upd, upd_upd, upd_id hd]
      exact k _ (Int.emod_nonneg _ (by omega)) (Int.emod_lt_of_pos _ hm)
def spDraws (K : PySem.W.Frag) : Sp := fun vs H Q _ => ∃ (a : Addr) (ns : List Int), vs = [.ref a] ∧ SqL K H a (ns.map V.int) ∧ ns.length ≤ 63 ∧ ∀ p, H p = none → Q (.ref p) (upd H p (DrO p))
def DrawsAt (H : Hp) (p : Addr) (i : Nat) (H' : Hp) : Prop := ∃ ms : List Int, H' = upd H p (.lst (ms.map V.int)) ∧ (∀ m ∈ ms, 0 ≤ m ∧ m < 1000003) ∧ ms.length ≤ i
theorem draws_add {H H' : Hp} {p : Addr} {i : Nat} (h : DrawsAt H p i H') (hi : i < 4000) {P : Prop} (k : ∀ ms : List V, H' p = some (.lst ms) → ms.length < sizeLine → (∀ x : Int, DrawsAt H p (i + 1) (upd H' p (.lst (ms ++ [.int (x % 1000003)])))) → P) : P := by
  obtain ⟨ms, rfl, g, hl⟩ := h
  refine k (ms.map V.int) upd_same (by rw [List.length_map]; exact Nat.lt_of_le_of_lt hl (Nat.lt_trans hi (by decide))) fun x => ⟨ms ++ [x % 1000003], ?_, good_add g emod_in, ?_⟩
  · rw [upd_upd, List.map_append]
    rfl
  · rw [List.length_append, List.length_singleton]
    omega
theorem ok_draws (T : Tx0 w K mg A) : FnOk P w K mg base CX0 1 A.draws A.d_draws p_draws (spDraws K) := by
  refine T.F_draws.ok sc_draws (fun vs H Q E h => ?_) (fun cdv Ar outer s H vs Q E hr h => ?_)
  · obtain ⟨a, ns, rfl, _⟩ := h
    rfl
  · obtain ⟨a, ns, rfl, hS, hlen, k⟩ := h
    refine ⟨_, (pss_cons (ps_set (i := 1) sc_draws.nd rfl (Or.inl rfl) (pe_lst pa_nil))
      (pss_cons (ps_for PassesOwn.never rfl (pi_range1 (by rfl) T.m_range (pa_cons (pe_callB (call_min2 rfl) (by rfl) T.m_min (by decide +kernel) (pa_cons pe_int (pa_cons (pe_callB call_len_seq (by rfl) T.m_len PySem.boot_len (pa_cons (pv 0) pa_nil)) pa_nil))) pa_nil)) (pg_name (i := 2) sc_draws.nd rfl (Or.inl rfl)) (pss_cons (ps_set (i := 3) sc_draws.nd rfl (Or.inl rfl) (pe_callTy call_int1 (by rfl) T.m_int (by decide +kernel) (pa_cons (pe_ix ix_list (pv 0) (pv 2) (fun _ _ => rfl)) pa_nil)))
        (pss_cons (ps_set (i := 4) sc_draws.nd rfl (Or.inl rfl) (pe_op op_mul pe_int (pe_callB call_abs (by rfl) T.m_abs (by decide +kernel) (pa_cons (pv 3) pa_nil))))
        (Evl.pss_cut (ps_if (pt_cmpR op_lt (pv 3) pe_int (nomark _)) (pss_one (ps_set (i := 4) sc_draws.nd rfl (Or.inl rfl) (pe_op op_add (pv 4) pe_int))) pss_nil)
        (pss_one (ps_if (pt_cmpR op_lt (pv 4) (pe_op op_mul pe_int (pe_op op_pow pe_int pe_int)) (nomark _)) (pss_one (ps_for PassesOwn.never rfl (pi_range1 (by rfl) T.m_range (pa_cons pe_int pa_nil)) (pg_name (i := 5) sc_draws.nd rfl (Or.inl rfl)) (pss_cons (ps_set (i := 6) sc_draws.nd rfl (Or.inl rfl) (pe_op op_mod (pe_callTy call_int1 (by rfl) T.m_int (by decide +kernel) (pa_cons (pe_op op_add (pe_op op_mul (pe_op op_add (pv 4) pe_int) (pe_op op_add pe_int (pe_op op_mul pe_int (pv 2)))) (pe_op op_mul pe_int (pv 5))) pa_nil)) pe_int))
            (pss_cons (ps_set (i := 6) sc_draws.nd rfl (Or.inl rfl) (pe_op op_mod (pe_callTy call_int1 (by rfl) T.m_int (by decide +kernel) (pa_cons (pe_op op_mul (pv 6) (pv 6)) pa_nil)) pe_int))
            (pss_one (ps_expr (pe_bm PySem.F.plainAttrs_list PySem.F.slot_list_append PySem.F.type_list_append mt_append (pv 1) (pa_cons (pe_op op_mod (pe_callTy call_int1 (by rfl) T.m_int (by decide +kernel) (pa_cons (pv 6) pa_nil)) pe_int) pa_nil)))))))) (pss_one (ps_for PassesOwn.never rfl (pi_range1 (by rfl) T.m_range (pa_cons pe_int pa_nil)) (pg_name (i := 5) sc_draws.nd rfl (Or.inl rfl)) (pss_one (ps_if (pt_cmpR op_gt (pv 4) pe_int (nomark _)) (pss_cons (ps_expr (pe_bm PySem.F.plainAttrs_list PySem.F.slot_list_append PySem.F.type_list_append mt_append (pv 1) (pa_cons (pe_op op_mod (pe_callTy call_int1 (by rfl) T.m_int (by decide +kernel) (pa_cons (pv 4) pa_nil)) pe_int) pa_nil)))
              (pss_one (ps_set (i := 4) sc_draws.nd rfl (Or.inl rfl) (pe_op op_fdiv (pv 4) pe_int)))) pss_nil))))))))))
      (pss_one (ps_ret (UL.pe_close (pv 1)))))), ?_⟩
    refine ⟨Nat.zero_le _, fun p hp => ?_⟩
    have eL : ∀ {j H'}, DrawsAt H p j H' → SqL K H' a (ns.map V.int) := fun ⟨ms, e, _⟩ => by
      rw [e]
      exact (same_upd hp).seq hS
    refine ⟨.ref a, rfl, a, _, rfl, .inl ((same_upd hp).seq hS), 63, _, rfl, ?_⟩
    have hm : (if (((ns.map V.int).length : Nat) : Int) < 63 then (((ns.map V.int).length : Nat) : Int) else 63) = (ns.length : Int) := by
      rw [List.length_map]
      split <;> omega
    rw [hm]
    refine ⟨(ns.length : Int), rfl, forR1 ⟨by omega, by omega⟩ (fun i σ H' => ∃ v2 v3 v4 v5 v6, σ = [some (.ref a), some (.ref p), v2, v3, v4, v5, v6] ∧ DrawsAt H p (60 * i) H') ⟨none, none, none, none, none, rfl, [], rfl, fun _ h => (nomatch h), Nat.le_refl _⟩ ?_ ?_⟩
    · rintro i σ' H' hi ⟨v2, v3, v4, v5, v6, rfl, hD⟩
      have hi' : i < ns.length := by omega
      -- cell, rest
      refine ⟨.ref a, rfl, .int (i : Int), rfl, a, _, _, .int ns[i], rfl, rfl, eL hD, atI_nat (int_get hi'), .inl ⟨ns[i], rfl, ?_⟩⟩
      refine ⟨.int ns[i], rfl, ns[i], rfl, 2, _, rfl, rfl, .inl ⟨by decide, by decide⟩, ?_⟩
      have h0 : 0 ≤ 2 * (if ns[i] < 0 then -ns[i] else ns[i]) := by split <;> omega
      refine ⟨fun σ2 H2 => ∃ r : Int, 0 ≤ r ∧ σ2 = [some (.ref a), some (.ref p), some (.int (i : Int)), some (.int ns[i]), some (.int r), v5, v6] ∧ H2 = H', ?_, ?_⟩
      · refine ⟨_, rfl, _, 0, rfl, rfl, _, rfl, ite2 (fun _ => ?_) (fun _ => ?_)⟩
        · exact ⟨_, rfl, _, 1, rfl, rfl, _, Int.le_add_one h0, rfl, rfl⟩
        · exact ⟨_, h0, rfl, rfl⟩
      · generalize ns[i] = c
        rintro σ2 H2 ⟨r, h0, rfl, rfl⟩
        refine ⟨.int r, rfl, 10, 18, rfl, rfl, ⟨by decide, by decide, by decide⟩, 2, _, rfl, rfl, .inl ⟨by decide, by decide⟩, r, _, rfl, rfl, _, rfl, ite2 (fun e => ?_) (fun e => ?_)⟩
        · have hr1 : r < 2 * 10 ^ 18 := of_decide_eq_true e
          refine ⟨4, rfl, forR1 ⟨by decide, by decide⟩ (fun t σ H' => ∃ v5 v6, σ = [some (.ref a), some (.ref p), some (.int (i : Int)), some (.int c), some (.int r), v5, v6] ∧ DrawsAt H p (60 * i + t) H') ⟨_, _, rfl, hD⟩ ?_ ?_⟩
          · rintro t σ' H' ht ⟨v5, v6, rfl, hD⟩
            have hi63 : (i : Int) < 63 := by omega
            refine ⟨_, rfl, r, 1, rfl, rfl, _, rfl, 2, _, rfl, rfl, .inl ⟨by decide, by decide⟩, 48271, _, rfl, rfl, _, _, rfl, rfl, .inr ⟨by omega, by omega⟩, _, rfl, 69621, _, rfl, rfl, .inl ⟨by decide, by decide⟩, _, _, rfl, rfl, .inl ⟨_, rfl, _, 2147483647, rfl, rfl, (show (0 : Int) < 2147483647 by decide), ?_⟩⟩
            have hx0 : 0 ≤ ((r + 1) * (48271 + 2 * (i : Int)) + 69621 * (t : Int)) % 2147483647 := Int.emod_nonneg _ (by decide)
            have hx1 : ((r + 1) * (48271 + 2 * (i : Int)) + 69621 * (t : Int)) % 2147483647 < 2147483647 := Int.emod_lt_of_pos _ (by decide)
            refine ⟨_, rfl, _, rfl, _, _, rfl, rfl, .inl ⟨Int.lt_of_lt_of_le (by decide) hx0, Int.lt_trans hx1 (by decide)⟩, .inl ⟨_, rfl, _, 2147483629, rfl, rfl, (show (0 : Int) < 2147483629 by decide), ?_⟩⟩
            refine draws_add hD (by omega) fun ms h1 h2 h3 => ?_
            refine ⟨.ref p, rfl, .inl ⟨rfl, _, SqL.of h1⟩, _, rfl, .inl ⟨_, rfl, _, 1000003, rfl, rfl, (show (0 : Int) < 1000003 by decide), p, ms, _, rfl, rfl, h1, h2, ?_⟩⟩
            exact ⟨_, _, rfl, h3 _⟩
          · rintro σ' H' ⟨v5, v6, rfl, ms, e, g, hl⟩
            exact ⟨_, _, _, _, _, rfl, ms, e, g, Nat.le_trans hl (by show 60 * i + 4 ≤ 60 * (i + 1); omega)⟩
        · refine ⟨60, rfl, forR1 ⟨by decide, by decide⟩ (fun t σ H' => ∃ r v5 v6, σ = [some (.ref a), some (.ref p), some (.int (i : Int)), some (.int c), some (.int r), v5, v6] ∧ DrawsAt H p (60 * i + t) H') ⟨_, _, _, rfl, hD⟩ ?_ ?_⟩
          · rintro t σ' H' ht ⟨r, v5, v6, rfl, hD⟩
            refine ⟨.int r, rfl, r, 0, rfl, rfl, _, rfl, ite2 (fun _ => ?_) (fun _ => ?_)⟩
            · refine draws_add hD (by omega) fun ms h1 h2 h3 => ?_
              refine ⟨.ref p, rfl, .inl ⟨rfl, _, SqL.of h1⟩, .int r, rfl, .inl ⟨r, rfl, r, 1000003, rfl, rfl, (show (0 : Int) < 1000003 by decide), p, ms, _, rfl, rfl, h1, h2, ?_⟩⟩
              refine ⟨.int r, rfl, r, 1000003, rfl, rfl, ⟨by decide, by decide⟩, ?_⟩
              exact ⟨_, _, _, rfl, h3 _⟩
            · obtain ⟨ms, e, g, hl⟩ := hD
              exact ⟨_, _, _, rfl, ms, e, g, Nat.le_succ_of_le hl⟩
          · rintro σ' H' ⟨r, v5, v6, rfl, ms, e, g, hl⟩
            exact ⟨_, _, _, _, _, rfl, ms, e, g, Nat.le_trans hl (by show 60 * i + 60 ≤ 60 * (i + 1); omega)⟩
    · rintro σ' H' ⟨v2, v3, v4, v5, v6, rfl, ms, rfl, g, hl⟩
      refine ⟨.ref p, rfl, p, ms, upd_same, ⟨g, Nat.le_trans hl (by omega)⟩, ?_⟩
      rw [upd_upd]
      exact k p hp
def kWords : List V := [V.str "fun", V.str "out", V.str "use", V.str "val", V.str "ref", V.str "set", V.str "block", V.str "if", V.str "else", V.str "loop", V.str "end", V.str "part", V.str "pick", V.str "then", V.str "dead"]
def NoStr (H : Hp) (v : V) : Prop := v = .non ∨ (∃ b, v = .bl b) ∨ (∃ i, v = .int i) ∨ (∃ a xs, v = .ref a ∧ (H a = some (.lst xs) ∨ H a = some (.tup xs))) ∨ ∃ a kvs, v = .ref a ∧ H a = some (.dK kvs)
def Th (H : Hp) (v : V) : Prop := (∃ z, v = .str z ∧ z.length ≤ 2000) ∨ NoStr H v
theorem Th.mono {H H' : Hp} {v : V} (e : Ex H H') (h : Th H v) : Th H' v := by
  rcases h with h | h | h | h | ⟨a, xs, h, h1 | h1⟩ | ⟨a, kvs, h, h1⟩
  · exact .inl h
  · exact .inr (.inl h)
  · exact .inr (.inr (.inl h))
  · exact .inr (.inr (.inr (.inl h)))
  · exact .inr (.inr (.inr (.inr (.inl ⟨a, xs, h, .inl (e _ _ h1)⟩))))
  · exact .inr (.inr (.inr (.inr (.inl ⟨a, xs, h, .inr (e _ _ h1)⟩))))
  · exact .inr (.inr (.inr (.inr (.inr ⟨a, kvs, h, e _ _ h1⟩))))
def isS : V → Bool
  | .str _ => true
  | _ => false
theorem Th.isi {K : PySem.W.Frag} {H : Hp} {v : V} (h : Th H v) : ∃ t, TyX K H v t ∧ PySem.W.kitOne K t (.type "str") = some (isS v) := by
  rcases h with ⟨z, rfl, _⟩ | rfl | ⟨b, rfl⟩ | ⟨i, rfl⟩ | ⟨a, xs, rfl, h1 | h1⟩ | ⟨a, kvs, rfl, h1⟩
  · exact ⟨_, .base (.str z), kit_ty (r := true) (by decide +kernel)⟩
  · exact ⟨_, .base .non, kit_ty (r := false) (by decide +kernel)⟩
  · exact ⟨_, .base (.bl b), kit_ty (r := false) (by decide +kernel)⟩
  · exact ⟨_, .base (.int i), kit_ty (r := false) (by decide +kernel)⟩
  · exact ⟨_, .base (.lst h1), kit_ty (r := false) (by decide +kernel)⟩
  · exact ⟨_, .base (.tup h1), kit_ty (r := false) (by decide +kernel)⟩
  · exact ⟨_, .base (.dK h1), kit_ty (r := false) (by decide +kernel)⟩
def wordsS : List Str := ["fun", "out", "use", "val", "ref", "set", "block", "if", "else", "loop", "end", "part", "pick", "then", "dead"]
theorem kWords_eq : kWords = wordsS.map V.str := rfl
def alnum (c : Nat) : Bool := decide (c ∈ tl "abcdefghijklmnopqrstuvwxyz") || decide (c ∈ tl "0123456789")
def okS (z : Str) : Bool := decide (1 ≤ z.length) && decide (z.length ≤ 8) && (match tl z with | c :: _ => decide (c ∈ tl "abcdefghijklmnopqrstuvwxyz") | [] => false) && !inV (.str z) kWords && (tl z).all alnum
def nm : V → Bool
  | .str z => okS z
  | _ => false
theorem nm_no {v : V} (h : isS v = false) : nm v = false := by
  cases v <;> first | rfl | cases h
theorem isS_yes {v : V} (h : isS v = true) : ∃ z, v = .str z := by
  cases v with
  | str z => exact ⟨z, rfl⟩
  | _ => cases h
def spIsName : Sp := fun vs H Q _ => ∃ v, vs = [v] ∧ Th H v ∧ ∀ H', Ex H H' → Q (.bl (nm v)) H'
theorem ok_is_name (T : Tx0 w K mg A) : FnOk P w K mg base CX0 1 A.is_name A.d_is_name p_is_name spIsName := by
  refine T.F_is_name.ok sc_is_name (fun vs H Q E h => ?_) (fun cdv Ar outer s H vs Q E hr h => ?_)
  · obtain ⟨v, rfl, _⟩ := h
    rfl
  · obtain ⟨v, rfl, hv, k⟩ := h
    refine ⟨_, (pss_cons (ps_if (PW.pt (pw_or (pt_not (pt_val (pe_callB call_isi (by rfl) T.m_isinstance (by decide +kernel) (pa_cons (pv 0) (pa_cons (pe_bltn (v := .ty "str") (u := .type "str") (by rfl) T.m_str (by decide +kernel) rfl) pa_nil))))) (pw_or1 (pt_not (pt_chain op_le op_le pe_int (pe_callB call_len_str (by rfl) T.m_len PySem.boot_len (pa_cons (pv 0) pa_nil)) (pe_glob (v := .int 8) (by rfl) T.c_MOST_CHARACTERS ⟨_, rfl⟩)))))) (pss_one (ps_ret pe_bl)) pss_nil)
      (pss_cons (ps_if (PW.pt (pw_or (pt_cmpR op_notIn_sign (pe_ix ix_str (pv 0) pe_int (fun _ _ => rfl)) (pe_glob (v := .str "abcdefghijklmnopqrstuvwxyz") (by rfl) T.c_LETTERS ⟨_, rfl⟩) (by rfl)) (pw_or1 (pt_cmpR op_in_seq (pv 0) (pe_glob (v := .ref A.RESERVED) (by rfl) T.c_RESERVED rfl) (by rfl))))) (pss_one (ps_ret pe_bl)) pss_nil)
      (pss_one (ps_ret (pe_callB (cr_all rfl) (by rfl) T.m_all (by decide +kernel) (pa_cons (pe_lc (own := [("sign", 1)]) (g := gName 1) (tt := tYes) rfl sc_is_name.nd (pi_str (pv 0)) (blkOk_by (N := n_is_name) (sc := defScope s_is_name) (by decide +kernel)) (fun _ _ _ _ _ => pg_name (i := 1) sc_is_name.nd rfl (Or.inl rfl)) (fun _ _ _ _ _ => pts_nil) (fun _ _ _ _ _ => (pe_or (pe_cmpR op_in_sign (pv 1) (pe_glob (v := .str "abcdefghijklmnopqrstuvwxyz") (by rfl) T.c_LETTERS ⟨_, rfl⟩) (by rfl)) (pe_one (pe_cmpR op_in_sign (pv 1) (pe_glob (v := .str "0123456789") (by rfl) T.c_DIGITS ⟨_, rfl⟩) (by rfl)))))) pa_nil)))))), ?_⟩
    obtain ⟨t, ht, hk⟩ := hv.isi (K := K)
    refine ⟨v, rfl, v, _, t, _, _, rfl, .ty "str", ht, hk, _, rfl, ?_⟩
    cases hs : isS v with
    | false =>
      refine iteT ?_
      refine iteT ?_
      have q := k H (Ex.refl H)
      rw [nm_no hs] at q
      exact q
    | true =>
      obtain ⟨z, rfl⟩ := isS_yes hs
      have hz : z.length ≤ 2000 := by
        rcases hv with ⟨z', e, h⟩ | e | ⟨_, e⟩ | ⟨_, e⟩ | ⟨_, _, e, _⟩ | ⟨_, _, e, _⟩
        · cases e
          exact h
        all_goals cases e
      refine iteF ?_
      refine ⟨_, rfl, z, rfl, sz_of (by omega), 1, _, rfl, rfl, _, rfl, ?_⟩
      have no : okS z = false → Q (V.bl false) H := fun e => by
        have q := k H (Ex.refl H)
        rw [show nm (V.str z) = false from e] at q
        exact q
      by_cases z1 : 1 ≤ z.length
      · rw [decide_eq_true (show (1 : Int) ≤ (z.length : Int) by omega)]
        refine iteT ?_
        refine ⟨_, 8, rfl, rfl, _, rfl, ?_⟩
        by_cases z8 : z.length ≤ 8
        · rw [decide_eq_true (show (z.length : Int) ≤ 8 by omega)]
          refine iteF ?_
          obtain ⟨c, r, hcr⟩ : ∃ c r, tl z = c :: r := by
            cases e : tl z with
            | nil =>
              rw [len_tl, e] at z1
              exact absurd z1 (by decide)
            | cons c r => exact ⟨c, r, rfl⟩
          refine ⟨_, rfl, z, 0, c, rfl, rfl, sz_of (by omega), atI_nat (j := 0) (by show (tl z)[0]? = _; rw [hcr]; rfl), c, _, rfl, rfl, _, rfl, ?_⟩
          by_cases hc : c ∈ tl "abcdefghijklmnopqrstuvwxyz"
          · rw [decide_eq_true hc]
            refine iteF ?_
            refine ⟨_, rfl, A.RESERVED, k_RESERVED, rfl, .inr (T.q_RESERVED _), rfl, by decide, _, rfl, ?_⟩
            show if inV (.str z) k_RESERVED = true then _ else _
            cases hi : inV (.str z) k_RESERVED with
            | true =>
              refine iteT ?_
              refine no ?_
              unfold okS
              rw [show inV (.str z) kWords = true from hi, Bool.and_eq_false_iff]
              exact .inl (Bool.and_eq_false_iff.mpr (.inr rfl))
            | false =>
              refine iteF ?_
              refine ⟨_, rfl, z, rfl, fun D hD => ?_⟩
              refine lc_str (f := fun c => V.bl (alnum c)) (by omega) hD (fun _ => rfl) (fun c H' _ Q' q => ?_) ?_
              · refine ⟨_, rfl, c, _, rfl, rfl, _, rfl, ite2 (fun h => ?_) (fun h => ?_)⟩
                · have e : alnum c = true := by
                    unfold alnum
                    rw [show decide (c ∈ tl "abcdefghijklmnopqrstuvwxyz") = true from h, Bool.true_or]
                  rw [e] at q
                  exact q
                · refine ⟨_, rfl, c, _, rfl, rfl, ?_⟩
                  have e : alnum c = decide (c ∈ tl "0123456789") := by
                    unfold alnum
                    rw [show decide (c ∈ tl "abcdefghijklmnopqrstuvwxyz") = false from by simpa using h, Bool.false_or]
                  rw [e] at q
                  exact q
              · refine ⟨D, (tl z).map alnum, rfl, SqL.of (by rw [upd_same, List.map_map]; rfl), ?_⟩
                have e : okS z = ((tl z).map alnum).all id := by
                  unfold okS
                  rw [decide_eq_true z1, decide_eq_true z8, hcr, show inV (.str z) kWords = false from hi, List.all_map]
                  show (decide (c ∈ tl "abcdefghijklmnopqrstuvwxyz") && true && _) = _
                  rw [decide_eq_true hc]
                  rfl
                have q := k _ (Ex.new hD (o := .lst ((tl z).map fun c => V.bl (alnum c))))
                rw [show nm (V.str z) = ((tl z).map alnum).all id from e] at q
                exact q
          · rw [decide_eq_false hc]
            refine iteT ?_
            refine no ?_
            unfold okS
            rw [hcr]
            show (_ && decide (c ∈ tl "abcdefghijklmnopqrstuvwxyz") && _ && _) = false
            rw [decide_eq_false hc, Bool.and_false, Bool.false_and, Bool.false_and]
        · rw [decide_eq_false (show ¬ (z.length : Int) ≤ 8 by omega)]
          refine iteT ?_
          refine no ?_
          unfold okS
          rw [decide_eq_false z8, Bool.and_false, Bool.false_and, Bool.false_and, Bool.false_and]
      · rw [decide_eq_false (show ¬ (1 : Int) ≤ (z.length : Int) by omega)]
        refine iteF ?_
        refine ⟨_, rfl, ?_⟩
        refine iteT ?_
        refine no ?_
        unfold okS
        rw [decide_eq_false z1, Bool.false_and, Bool.false_and, Bool.false_and, Bool.false_and]
def tl36 : List Nat := tl "abcdefghijklmnopqrstuvwxyz0123456789"
theorem tl36_eq : tl36 = tl "abcdefghijklmnopqrstuvwxyz" ++ tl "0123456789" := by decide +kernel
theorem alnum36 (c : Nat) : alnum c = decide (c ∈ tl36) := by
  unfold alnum
  rw [tl36_eq]
  by_cases h1 : c ∈ tl "abcdefghijklmnopqrstuvwxyz" <;> by_cases h2 : c ∈ tl "0123456789" <;> simp [h1, h2]
theorem apart : ∀ c ∈ tl "abcdefghijklmnopqrstuvwxyz", c ∉ tl "0123456789" := by decide +kernel
def spWords : Sp := fun vs H Q _ => vs = [] ∧ RetL kWords H Q
theorem ok_words (T : Tx0 w K mg A) : FnOk P w K mg base CX0 1 A.words A.d_words p_words spWords := by
  refine T.F_words.ok sc_words (fun vs H Q E h => ?_) (fun cdv Ar outer s H vs Q E hr h => ?_)
  · obtain ⟨rfl, _⟩ := h
    rfl
  · obtain ⟨rfl, k⟩ := h
    refine ⟨_, (pss_cons (ps_set (i := 0) sc_words.nd rfl (Or.inl rfl) (pe_lst (pa_cons pe_str (pa_cons pe_str (pa_cons pe_str (pa_cons pe_str (pa_cons pe_str (pa_cons pe_str (pa_cons pe_str (pa_cons pe_str (pa_cons pe_str (pa_cons pe_str (pa_cons pe_str (pa_cons pe_str (pa_cons pe_str (pa_cons pe_str pa_nil))))))))))))))))
      (pss_one (ps_ret (pe_op op_cat (pv 0) (pe_lst (pa_cons pe_str pa_nil)))))), ?_⟩
    refine ⟨by decide, fun p hp => ?_⟩
    refine ⟨.ref p, rfl, by decide, fun q hq => ?_⟩
    refine ⟨p, q, _, _, rfl, rfl, (Ex.new hq) _ _ upd_same, upd_same, by decide, fun r hr' => ?_⟩
    exact k r _ (fresh_back ((Ex.new hp).trans (Ex.new hq)) hr') (((Ex.new hp).trans (Ex.new hq)).trans (Ex.new hr')) upd_same
theorem ok_lname (T : Tx0 w K mg A) : FnOk P w K mg base CX0 2 A.lname A.d_lname p_lname spIsName := by
  refine T.F_lname.ok sc_lname (fun vs H Q E h => ?_) (fun cdv Ar outer s H vs Q E hr h => ?_)
  · obtain ⟨v, rfl, _⟩ := h
    rfl
  · obtain ⟨v, rfl, hv, k⟩ := h
    refine ⟨_, (pss_cons (ps_if (pt_not (pt_val (pe_callB call_isi (by rfl) T.m_isinstance (by decide +kernel) (pa_cons (pv 0) (pa_cons (pe_bltn (v := .ty "str") (u := .type "str") (by rfl) T.m_str (by decide +kernel) rfl) pa_nil))))) (pss_one (ps_ret pe_bl)) pss_nil)
      (pss_cons (ps_if (PW.pt (pw_or (pt_cmpR op_lt (pe_callB call_len_str (by rfl) T.m_len PySem.boot_len (pa_cons (pv 0) pa_nil)) pe_int (nomark _)) (pw_or (pt_cmpR op_gt (pe_callB call_len_str (by rfl) T.m_len PySem.boot_len (pa_cons (pv 0) pa_nil)) pe_int (nomark _)) (pw_or1 (pt_cmpR op_in_seq (pv 0) (pe_call0 (ok_words T) (hr.mono (by decide)) (by rfl) T.g_words T.F_words.kp T.b_words .nil pass0) (by rfl)))))) (pss_one (ps_ret pe_bl)) pss_nil)
      (pss_cons (ps_for PassesOwn.never rfl (pi_str (pv 0)) (pg_name (i := 1) sc_lname.nd rfl (Or.inl rfl)) (pss_one (ps_if (pt_cmpR op_notIn_sign (pv 1) pe_str (by rfl)) (pss_one (ps_ret pe_bl)) pss_nil)))
      (pss_one (ps_ret (pe_cmpR op_notIn_sign (pe_ix ix_str (pv 0) pe_int (fun _ _ => rfl)) pe_str (by rfl))))))), ?_⟩
    obtain ⟨t, ht, hk⟩ := hv.isi (K := K)
    refine ⟨v, rfl, v, _, t, _, _, rfl, .ty "str", ht, hk, _, rfl, ?_⟩
    cases hs : isS v with
    | false =>
      refine iteT ?_
      have q := k H (Ex.refl H)
      rw [nm_no hs] at q
      exact q
    | true =>
      obtain ⟨z, rfl⟩ := isS_yes hs
      have hz : z.length ≤ 2000 := by
        rcases hv with ⟨z', e, h⟩ | e | ⟨_, e⟩ | ⟨_, e⟩ | ⟨_, _, e, _⟩ | ⟨_, _, e, _⟩
        · cases e
          exact h
        all_goals cases e
      refine iteF ?_
      have no : ∀ H', Ex H H' → okS z = false → Q (V.bl false) H' := fun H' e' e => by
        have q := k H' e'
        rw [show nm (V.str z) = false from e] at q
        exact q
      refine ⟨_, rfl, z, rfl, sz_of (by omega), _, 1, rfl, rfl, _, rfl, ite2 (fun h => ?_) (fun h => ?_)⟩
      · refine no _ (Ex.refl H) ?_
        have z1 : ¬ 1 ≤ z.length := by
          have := of_decide_eq_true h
          omega
        unfold okS
        rw [decide_eq_false z1, Bool.false_and, Bool.false_and, Bool.false_and, Bool.false_and]
      have z1 : 1 ≤ z.length := by
        have : ¬ (z.length : Int) < 1 := fun q => h (decide_eq_true q)
        omega
      refine ⟨_, rfl, z, rfl, sz_of (by omega), _, 8, rfl, rfl, _, rfl, ite2 (fun h => ?_) (fun h => ?_)⟩
      · refine no _ (Ex.refl H) ?_
        have z8 : ¬ z.length ≤ 8 := by
          have := of_decide_eq_true h
          omega
        unfold okS
        rw [decide_eq_false z8, Bool.and_false, Bool.false_and, Bool.false_and, Bool.false_and]
      have z8 : z.length ≤ 8 := by
        have : ¬ (8 : Int) < (z.length : Int) := fun q => h (decide_eq_true q)
        omega
      refine ⟨_, rfl, rfl, fun p H1 hp e1 hL => ?_⟩
      refine ⟨p, kWords, rfl, .inl (SqL.of hL), rfl, by decide, _, rfl, ?_⟩
      show if inV (.str z) kWords = true then _ else _
      cases hi : inV (.str z) kWords with
      | true =>
        refine iteT ?_
        refine no _ e1 ?_
        unfold okS
        rw [hi, Bool.and_eq_false_iff]
        exact .inl (Bool.and_eq_false_iff.mpr (.inr rfl))
      | false =>
        refine iteF ?_
        refine ⟨_, rfl, z, rfl, for_str (fun i σ H' => (∃ v1, σ = [some (.str z), v1]) ∧ H' = H1 ∧ ∀ c ∈ (tl z).take i, alnum c = true) ⟨⟨none, rfl⟩, rfl, fun c hc => (nomatch hc)⟩ ?_ ?_⟩
        · rintro i c σ' H' hc ⟨⟨v1, rfl⟩, rfl, hall⟩
          refine ⟨_, rfl, c, _, rfl, rfl, _, rfl, ?_⟩
          show if (!decide (c ∈ tl36)) = true then _ else _
          rw [← alnum36]
          cases ha : alnum c with
          | true =>
            refine iteF ?_
            refine ⟨⟨_, rfl⟩, rfl, fun c' hc' => ?_⟩
            rw [List.take_add_one, hc] at hc'
            rcases List.mem_append.mp hc' with h' | h'
            · exact hall c' h'
            · rw [List.mem_singleton.mp h']
              exact ha
          | false =>
            refine iteT ?_
            refine no _ e1 ?_
            unfold okS
            rw [Bool.and_eq_false_iff]
            refine .inr ?_
            rw [List.all_eq_false]
            exact ⟨c, List.mem_of_getElem? hc, by rw [ha]; decide⟩
        · rintro σ' H' ⟨⟨v1, rfl⟩, rfl, hall⟩
          rw [List.take_length] at hall
          obtain ⟨c, r, hcr⟩ : ∃ c r, tl z = c :: r := by
            cases e : tl z with
            | nil =>
              rw [len_tl, e] at z1
              exact absurd z1 (by decide)
            | cons c r => exact ⟨c, r, rfl⟩
          refine ⟨_, rfl, z, 0, c, rfl, rfl, sz_of (by omega), atI_nat (j := 0) (by show (tl z)[0]? = _; rw [hcr]; rfl), c, _, rfl, rfl, ?_⟩
          have e : okS z = !decide (c ∈ tl "0123456789") := by
            unfold okS
            rw [decide_eq_true z1, decide_eq_true z8, hi, List.all_eq_true.mpr hall, hcr]
            have hc := hall c (by rw [hcr]; exact List.mem_cons_self)
            show (decide (c ∈ tl "abcdefghijklmnopqrstuvwxyz") && true && true) = _
            unfold alnum at hc
            by_cases h1 : c ∈ tl "abcdefghijklmnopqrstuvwxyz"
            · rw [decide_eq_true h1, decide_eq_false (apart c h1)]
              rfl
            · rw [decide_eq_false h1, Bool.false_or] at hc
              rw [decide_eq_false h1, hc]
              rfl
          have q := k H' e1
          rw [show nm (V.str z) = !decide (c ∈ tl "0123456789") from e] at q
          exact q
/-! ### errors that keep a copy of a list -/
/-- a thing and its copy: flat, or an empty list -/
def Cp1 (H : Hp) (x y : V) : Prop := (flatV x = true ∧ y = x) ∨ ∃ c d, x = .ref c ∧ y = .ref d ∧ H c = some (.lst []) ∧ H d = some (.lst [])
theorem Cp1.mono {H H' : Hp} {x y : V} (e : Ex H H') (h : Cp1 H x y) : Cp1 H' x y := by
  rcases h with h | ⟨c, d, h1, h2, h3, h4⟩
  · exact .inl h
  · exact .inr ⟨c, d, h1, h2, e _ _ h3, e _ _ h4⟩
def Cpb (H : Hp) (x : V) : Prop := flatV x = true ∨ ∃ c, x = .ref c ∧ H c = some (.lst [])
theorem Cpb.mono {H H' : Hp} {x : V} (e : Ex H H') (h : Cpb H x) : Cpb H' x := h.imp id fun ⟨c, h1, h2⟩ => ⟨c, h1, e _ _ h2⟩
def spCopied1 : Sp := fun vs H Q _ => ∃ v n, vs = [v, .int n] ∧ 1 ≤ n ∧ Cpb H v ∧ ∀ u H', Ex H H' → Cp1 H' v u → (∀ d, u = .ref d → H d = none) → Q u H'
theorem ok_copied1 (T : Tx0 w K mg A) : FnOk P w K mg base CX0 2 A.copied A.d_copied p_copied spCopied1 := by
  refine T.F_copied.ok sc_copied (fun vs H Q E h => ?_) (fun cdv Ar outer s H vs Q E hr h => ?_)
  · obtain ⟨v, n, rfl, _⟩ := h
    rfl
  · obtain ⟨v, n, rfl, hn, hv, k⟩ := h
    refine ⟨_, (pss_cons (ps_if (pt_cmpR op_eq (pv 1) pe_int (nomark _)) (pss_one (ps_ret (pv 0))) pss_nil)
      (pss_cons (ps_if (pt_val (pe_callB call_isi (by rfl) T.m_isinstance (by decide +kernel) (pa_cons (pv 0) (pa_cons (pe_bltn (v := .ty "list") (u := .type "list") (by rfl) T.m_list (by decide +kernel) rfl) pa_nil)))) (pss_one (ps_ret (pe_lc (own := [("part", 2)]) (g := gName 2) (tt := tYes) (te := tNo) rfl sc_copied.nd (pi_list (pv 0)) (blkOk_by (N := n_copied) (sc := defScope s_copied) (by decide +kernel)) (fun _ _ _ _ _ => pg_name (i := 2) sc_copied.nd rfl (Or.inl rfl)) (fun _ _ _ _ _ => pts_nil) (fun _ _ _ _ _ => UL.pe_never)))) pss_nil)
      (pss_cons (ps_if (pt_val (pe_callB call_isi (by rfl) T.m_isinstance (by decide +kernel) (pa_cons (pv 0) (pa_cons (pe_bltn (v := .ty "tuple") (u := .type "tuple") (by rfl) T.m_tuple (by decide +kernel) rfl) pa_nil)))) (pss_one ps_never) pss_nil)
      (pss_cons (ps_if (pt_val (pe_callB call_isi (by rfl) T.m_isinstance (by decide +kernel) (pa_cons (pv 0) (pa_cons (pe_bltn (v := .ty "dict") (u := .type "dict") (by rfl) T.m_dict (by decide +kernel) rfl) pa_nil)))) (pss_one ps_never) pss_nil)
      (pss_one (ps_ret (pv 0))))))), ?_⟩
    refine ⟨_, rfl, rfl, _, rfl, ?_⟩
    rw [show decide (V.int n = V.int 0) = false from decide_eq_false fun z => by cases z; omega]
    refine iteF ?_
    rcases hv with hv | ⟨c, rfl, hc⟩
    · obtain ⟨t, ht, h1, h2, h3⟩ := flat_ty (K := K) (H := H) hv
      refine ⟨_, rfl, v, _, t, _, _, rfl, .ty "list", ht, h1, _, rfl, iteF ?_⟩
      refine ⟨_, rfl, v, _, t, _, _, rfl, .ty "tuple", ht, h2, _, rfl, iteF ?_⟩
      refine ⟨_, rfl, v, _, t, _, _, rfl, .ty "dict", ht, h3, _, rfl, iteF ?_⟩
      exact ⟨v, rfl, k v H (fun _ _ h => h) (.inl ⟨hv, rfl⟩) (fun d e => by rw [e] at hv; cases hv)⟩
    · refine ⟨_, rfl, .ref c, _, _, _, true, rfl, .ty "list", .base (.lst hc), kit_ty (r := true) (by decide +kernel), _, rfl, iteT ?_⟩
      refine ⟨_, rfl, c, rfl, ⟨_, SqL.of hc⟩, fun D hD => ?_⟩
      refine lc_map (K := K) (j := 2) (xs := ([] : List V)) (f := fun v => v) walk_list (Nat.zero_le _) hD (fun H' e => SqL.of (e _ _ hc)) (fun _ => rfl) (fun x H' hx => nomatch hx) ?_
      exact k _ _ (Ex.new hD) (.inr ⟨c, D, rfl, rfl, Ex.new hD _ _ hc, upd_same⟩) (fun d e => by cases e; exact hD)
theorem cp_put {H : Hp} {D : Addr} {l' : List V} {x y : V} (h : Cp1 H x y) (nx : ∀ c, x = .ref c → c ≠ D) (ny : ∀ d, y = .ref d → d ≠ D) : Cp1 (upd H D (.lst l')) x y := by
  rcases h with h | ⟨c, d, rfl, rfl, h3, h4⟩
  · exact .inl h
  · exact .inr ⟨c, d, rfl, rfl, by rw [upd_ne (nx c rfl)]; exact h3, by rw [upd_ne (ny d rfl)]; exact h4⟩
theorem Cpb.ne {H : Hp} {D : Addr} {x : V} (h : Cpb H x) (hD : H D = none) : ∀ c, x = .ref c → c ≠ D := fun c e z => by
  rcases h with h | ⟨c', e', h⟩
  · rw [e] at h; cases h
  · rw [e'] at e
    obtain rfl := V.ref.inj e
    rw [z, hD] at h
    cases h
theorem lc_cp {J : It} {xs : List V} {G : Hp → Prop} {j : Nat} {te : TE} {vs : List Nat} {σ : L2.St} {H : Hp} {D : Addr} {Qd : Hp → Prop} (w : L2.Walk J xs.length G (YAt xs)) (hl : xs.length ≤ 10) (hD : H D = none) (hx : ∀ x ∈ xs, Cpb H x) (hG : ∀ H', Ex H H' → G H') (hw : ∀ x, wipe ((wipe σ vs).set j (some x)) vs = wipe σ vs)
    (he : ∀ x H1, x ∈ xs → Ex H H1 → ∀ Q : VK, (∀ u H2, Ex H1 H2 → Cp1 H2 x u → (∀ d, u = .ref d → H1 d = none) → Q u H2) → te ((wipe σ vs).set j (some x)) H1 Q) (hd : ∀ ys H', Ex H H' → H' D = some (.lst ys) → Al2 (fun x y => Cp1 H' x y) xs ys → Qd H') :
    ∃ W : Nat → Nat → Hp → Prop, (∃ m, W 0 m (upd H D (.lst []))) ∧ ∀ i m H, W i m H →
      (J.stop i H ∧ Qd H) ∨ (J.go i H ∧ ∃ Nx : Hp → Prop, (∀ H', Nx H' → ∃ m', m' < m ∧ W (i + 1) m' H') ∧ ∀ x H', J.yld i H x H' → gName j x (wipe σ vs) H' fun σ2 H2 => wipe σ2 vs = wipe σ vs ∧ tYes σ2 H2 fun b H3 =>
        if b = true then te σ2 H3 fun y H4 => ∃ acc, H4 D = some (.lst acc) ∧ acc.length < sizeLine ∧ Nx (upd H4 D (.lst (acc ++ [y]))) else Nx H3) := by
  refine lc_it w (fun i H' => ∃ ys, Ex H H' ∧ H' D = some (.lst ys) ∧ Al2 (fun x y => Cp1 H' x y ∧ (∀ c, x = .ref c → c ≠ D) ∧ ∀ d, y = .ref d → d ≠ D) (xs.take i) ys) ⟨[], Ex.new hD, upd_same, .nil⟩ (fun i H' _ ⟨_, e, _⟩ => hG _ e) ?_ ?_
  · rintro i x H1 H' hi ⟨ys, e1, hD1, hal⟩ ⟨rfl, hx1⟩
    refine ⟨hw _, ?_⟩
    show te _ _ _
    have mem := List.mem_of_getElem? hx1
    refine he x H' mem e1 _ fun u H2 e2 hc hfr => ?_
    have hD2 := e2 _ _ hD1
    have ll : ys.length = (xs.take i).length := hal.len.symm
    rw [List.length_take] at ll
    refine ⟨ys, hD2, sz_lt (by omega), ys ++ [u], (e1.trans e2).mut hD, upd_same, ?_⟩
    have htk : xs.take (i + 1) = xs.take i ++ [x] := by rw [List.take_add_one, hx1]; rfl
    rw [htk]
    have nx := (hx x mem).ne hD
    have nu : ∀ d, u = .ref d → d ≠ D := fun d e z => by
      have := hfr d e
      rw [z, hD1] at this
      cases this
    exact (hal.imp fun a b z => ⟨cp_put (z.1.mono e2) z.2.1 z.2.2, z.2⟩).snoc ⟨cp_put hc nx nu, nx, nu⟩
  · rintro H' ⟨ys, e, hDf, hal⟩
    rw [List.take_length] at hal
    exact hd ys H' e hDf (hal.imp fun _ _ z => z.1)
def spCopied : Sp := fun vs H Q _ => ∃ v, vs = [v, .int 4] ∧ ((flatV v = true ∧ Q v H) ∨ ∃ (a : Addr) (xs : List V), v = .ref a ∧ xs.length ≤ 10 ∧ (∀ x ∈ xs, Cpb H x) ∧
  ((H a = some (.lst xs) ∧ ∀ b ys H', Ex H H' → H' b = some (.lst ys) → Al2 (fun x y => Cp1 H' x y) xs ys → H b = none → Q (.ref b) H') ∨ (H a = some (.tup xs) ∧ ∀ b ys H', Ex H H' → H' b = some (.tup ys) → Al2 (fun x y => Cp1 H' x y) xs ys → H b = none → Q (.ref b) H')))
theorem ok_copied (T : Tx0 w K mg A) : FnOk P w K mg base CX0 3 A.copied A.d_copied p_copied spCopied := by
  refine T.F_copied.ok sc_copied (fun vs H Q E h => ?_) (fun cdv Ar outer s H vs Q E hr h => ?_)
  · obtain ⟨v, rfl, _⟩ := h
    rfl
  · obtain ⟨v, rfl, hv⟩ := h
    obtain ⟨ds2, hv2, hb2⟩ := T.F_copied.binds1 (ps := p_copied) 2 1 (by simp) rfl (fun T' kV doc pm an cdv ct us its h1 h2 => by
      match us, h1, its, h2 with
      | [_, _], _, [_], _ => exact ⟨_, rfl, rfl⟩)
    refine ⟨_, (pss_cons (ps_if (pt_cmpR op_eq (pv 1) pe_int (nomark _)) (pss_one (ps_ret (pv 0))) pss_nil)
      (pss_cons (ps_if (pt_val (pe_callB call_isi (by rfl) T.m_isinstance (by decide +kernel) (pa_cons (pv 0) (pa_cons (pe_bltn (v := .ty "list") (u := .type "list") (by rfl) T.m_list (by decide +kernel) rfl) pa_nil)))) (pss_one (ps_ret (pe_lc (own := [("part", 2)]) (g := gName 2) (tt := tYes) rfl sc_copied.nd (UL.pi_alt (pi_list (pv 0)) (pi_tup (pv 0))) (blkOk_by (N := n_copied) (sc := defScope s_copied) (by decide +kernel)) (fun _ _ _ _ _ => pg_name (i := 2) sc_copied.nd rfl (Or.inl rfl)) (fun _ _ _ _ _ => pts_nil) (fun _ _ _ _ _ => (pe_call (ok_copied1 T) (hr.mono (by decide)) (by rfl) T.g_copied T.F_copied.kp hb2 hv2 pass0 (pa_cons (pv 2) (pa_cons (pe_op op_sub (pv 1) pe_int) pa_nil))))))) pss_nil)
      (pss_cons (ps_if (pt_val (pe_callB call_isi (by rfl) T.m_isinstance (by decide +kernel) (pa_cons (pv 0) (pa_cons (pe_bltn (v := .ty "tuple") (u := .type "tuple") (by rfl) T.m_tuple (by decide +kernel) rfl) pa_nil)))) (pss_one (ps_ret (pe_callTy call_tuple_of (by rfl) T.m_tuple (by decide +kernel) (pa_cons (pe_lc (own := [("part", 2)]) (g := gName 2) (tt := tYes) rfl sc_copied.nd (UL.pi_alt (pi_list (pv 0)) (pi_tup (pv 0))) (blkOk_by (N := n_copied) (sc := defScope s_copied) (by decide +kernel)) (fun _ _ _ _ _ => pg_name (i := 2) sc_copied.nd rfl (Or.inl rfl)) (fun _ _ _ _ _ => pts_nil) (fun _ _ _ _ _ => (pe_call (ok_copied1 T) (hr.mono (by decide)) (by rfl) T.g_copied T.F_copied.kp hb2 hv2 pass0 (pa_cons (pv 2) (pa_cons (pe_op op_sub (pv 1) pe_int) pa_nil))))) pa_nil)))) pss_nil)
      (pss_cons (ps_if (pt_val (pe_callB call_isi (by rfl) T.m_isinstance (by decide +kernel) (pa_cons (pv 0) (pa_cons (pe_bltn (v := .ty "dict") (u := .type "dict") (by rfl) T.m_dict (by decide +kernel) rfl) pa_nil)))) (pss_one ps_never) pss_nil)
      (pss_one (ps_ret (pv 0))))))), ?_⟩
    refine ⟨_, rfl, rfl, _, rfl, iteF ?_⟩
    rcases hv with ⟨hv, k⟩ | ⟨a, xs, rfl, hl, hx, hv⟩
    · obtain ⟨t, ht, h1, h2, h3⟩ := flat_ty (K := K) (H := H) hv
      refine ⟨_, rfl, v, _, t, _, _, rfl, .ty "list", ht, h1, _, rfl, iteF ?_⟩
      refine ⟨_, rfl, v, _, t, _, _, rfl, .ty "tuple", ht, h2, _, rfl, iteF ?_⟩
      refine ⟨_, rfl, v, _, t, _, _, rfl, .ty "dict", ht, h3, _, rfl, iteF ?_⟩
      exact ⟨v, rfl, k⟩
    · rcases hv with ⟨ha, k⟩ | ⟨ha, k⟩
      · refine ⟨_, rfl, .ref a, _, _, _, true, rfl, .ty "list", .base (.lst ha), kit_ty (r := true) (by decide +kernel), _, rfl, iteT ?_⟩
        refine .inl ⟨_, rfl, a, rfl, ⟨_, SqL.of ha⟩, fun D hD => ?_⟩
        refine lc_cp (j := 2) walk_list hl hD hx (fun H' e => SqL.of (e _ _ ha)) (fun x => rfl) (fun x H1 hm e Q' q => ?_) (fun ys H' e hy hal => k D ys H' e hy hal hD)
        exact ⟨_, rfl, _, rfl, _, 1, rfl, rfl, x, 3, rfl, by decide, (hx x hm).mono e, fun u H2 e2 hc hf => q u H2 e2 hc hf⟩
      · refine ⟨_, rfl, .ref a, _, _, _, false, rfl, .ty "list", .base (.tup ha), kit_ty (r := false) (by decide +kernel), _, rfl, iteF ?_⟩
        refine ⟨_, rfl, .ref a, _, _, _, true, rfl, .ty "tuple", .base (.tup ha), kit_ty (r := true) (by decide +kernel), _, rfl, iteT ?_⟩
        refine .inr ⟨_, rfl, a, rfl, ⟨_, SqT.of ha⟩, fun D hD => ?_⟩
        refine lc_cp (j := 2) walk_tup hl hD hx (fun H' e => SqT.of (e _ _ ha)) (fun x => rfl) (fun x H1 hm e Q' q => ?_) (fun ys H' e hy hal => ?_)
        · exact ⟨_, rfl, _, rfl, _, 1, rfl, rfl, x, 3, rfl, by decide, (hx x hm).mono e, fun u H2 e2 hc hf => q u H2 e2 hc hf⟩
        · refine ⟨D, ys, rfl, .inl ⟨SqL.of hy, fun l hl2 => ?_⟩⟩
          have el := Ex.new (o := .tup ys) hl2
          exact k l ys _ (e.trans el) upd_same (hal.imp fun _ _ z => z.mono el) (e.free' hl2)
def seqO (t : Bool) (xs : List V) : HO := if t = true then .tup xs else .lst xs
def spWhat3 (K : PySem.W.Frag) : Sp := fun vs H Q _ => ∃ (a C : Addr) (v : V), vs = [.ref a, v] ∧ H a = some (exo a C none) ∧ OexC K C ∧ PySem.W.findIn K (.ref C) "what" = some none ∧
  ((flatV v = true ∧ ∀ dx, H dx = none → dx ≠ a → Q .non (upd (upd H dx (exd dx [("what", v)])) a (exo a C (some dx)))) ∨
   ∃ (q : Addr) (t : Bool) (xs : List V), v = .ref q ∧ H q = some (seqO t xs) ∧ xs.length ≤ 10 ∧ (∀ x ∈ xs, Cpb H x) ∧ ∀ b ys H' dx, Ex H H' → H' b = some (seqO t ys) → Al2 (fun x y => Cp1 H' x y) xs ys → H b = none → H' dx = none → dx ≠ a → Q .non (upd (upd H' dx (exd dx [("what", .ref b)])) a (exo a C (some dx))))
theorem raise_what {K : PySem.W.Frag} {C I : Addr} {H : Hp} {v : V} {Q : XK} (F : ExF K C I) (hv : flatV v = true) (k : ∀ d H', Ex H H' → H' d = some (.xd [("what", v)]) → Q (.ref C) (some d) H') :
    ∀ a, H a = none → spWhat3 K [.ref a, v] (upd H a (exo a C none)) (fun u H2 => u = .non ∧ ∃ (d : Addr) (fs : List (Str × V)), H2 a = some (exo a C (some d)) ∧ H2 d = some (exd d fs) ∧ H d = none ∧ Q (.ref C) (some d) (upd (L2.del H2 a) d (.xd fs))) (fun _ _ _ => False) := by
  intro a ha
  refine ⟨a, C, v, rfl, upd_same, F.ox, F.nw, .inl ⟨hv, fun dx hd hne => ⟨rfl, dx, [("what", v)], upd_same, ?_, ?_, ?_⟩⟩⟩
  · rw [upd_ne hne, upd_same]
  · rw [upd_ne hne] at hd
    exact hd
  · have hd0 : H dx = none := by
      rw [upd_ne hne] at hd
      exact hd
    refine k dx _ (fun b o hb => ?_) upd_same
    have b1 : b ≠ a := ne_of_none hb ha
    have b2 : b ≠ dx := ne_of_none hb hd0
    rw [upd_ne b2]
    show (if b = a then none else _) = _
    rw [if_neg b1, upd_ne b1, upd_ne b2, upd_ne b1]
    exact hb
theorem raise_copy {K : PySem.W.Frag} {C I : Addr} {H : Hp} {q : Addr} {t : Bool} {xs : List V} {Q : XK} (F : ExF K C I) (hq : H q = some (seqO t xs)) (hl : xs.length ≤ 10) (hx : ∀ x ∈ xs, Cpb H x) (k : ∀ d b ys H', Ex H H' → H' d = some (.xd [("what", .ref b)]) → H' b = some (seqO t ys) → Al2 (fun x y => Cp1 H' x y) xs ys → Q (.ref C) (some d) H') :
    ∀ a, H a = none → spWhat3 K [.ref a, .ref q] (upd H a (exo a C none)) (fun u H2 => u = .non ∧ ∃ (d : Addr) (fs : List (Str × V)), H2 a = some (exo a C (some d)) ∧ H2 d = some (exd d fs) ∧ H d = none ∧ Q (.ref C) (some d) (upd (L2.del H2 a) d (.xd fs))) (fun _ _ _ => False) := by
  intro a ha
  have hqa : q ≠ a := ne_of_none hq ha
  refine ⟨a, C, .ref q, rfl, upd_same, F.ox, F.nw, .inr ⟨q, t, xs, rfl, by rw [upd_ne hqa]; exact hq, hl, fun x hm => (hx x hm).imp id fun ⟨c, e1, e2⟩ => ⟨c, e1, by rw [upd_ne (ne_of_none e2 ha)]; exact e2⟩, fun b ys H' dx e hb hal hbn hd hne => ⟨rfl, dx, [("what", .ref b)], upd_same, ?_, ?_, ?_⟩⟩⟩
  · rw [upd_ne hne, upd_same]
  · cases h : H dx with
    | none => rfl
    | some o =>
      have := e dx o (by rw [upd_ne hne]; exact h)
      rw [hd] at this
      cases this
  · have bd : b ≠ dx := ne_of_none hb hd
    have ba : b ≠ a := fun z => by rw [z, upd_same] at hbn; cases hbn
    have step : ∀ z o, z ≠ a → H' z = some o → upd (L2.del (upd (upd H' dx (exd dx [("what", .ref b)])) a (exo a C (some dx))) a) dx (.xd [("what", .ref b)]) z = some o := fun z o z1 hz => by
      have z2 : z ≠ dx := ne_of_none hz hd
      rw [upd_ne z2]
      show (if z = a then none else _) = _
      rw [if_neg z1, upd_ne z1, upd_ne z2]
      exact hz
    have hea : H' a = some (exo a C none) := e _ _ upd_same
    have nea : ∀ c, H' c = some (.lst []) → c ≠ a := fun c h z => by rw [z, hea] at h; cases h
    refine k dx b ys _ (fun z o hz => ?_) upd_same (step b _ ba hb) (hal.imp fun x y z => ?_)
    · have z1 : z ≠ a := ne_of_none hz ha
      exact step z o z1 (e z o (by rw [upd_ne z1]; exact hz))
    · rcases z with z | ⟨c, d, h1, h2, h3, h4⟩
      · exact .inl z
      · exact .inr ⟨c, d, h1, h2, step c _ (nea c h3) h3, step d _ (nea d h4) h4⟩
theorem ok_lives_init (T : Tx0 w K mg A) : FnOk P w K mg base CX0 4 A.lives_init A.d_lives_init p_lives_init (spWhat3 K) := by
  refine T.F_lives_init.ok sc_lives_init (fun vs H Q E h => ?_) (fun cdv Ar outer s H vs Q E hr h => ?_)
  · obtain ⟨a, C, v, rfl, _⟩ := h
    rfl
  · obtain ⟨a, C, v, rfl, ha, hC, hw, k⟩ := h
    obtain ⟨ds, hvc, hbc⟩ := T.F_copied.binds1 (ps := p_copied) 1 0 (by simp) rfl (fun T' kV doc pm an cdv ct us its h1 h2 => by
      match us, h1, its, h2 with
      | [u], _, [d], _ => exact ⟨_, rfl, rfl⟩)
    refine ⟨_, (pss_one (ps_ost (pv 0) (pe_call (ok_copied T) (hr.mono (by decide)) (by rfl) T.g_copied T.F_copied.kp hbc hvc pass0 (pa_cons (pv 1) pa_nil)))), ?_⟩
    rcases k with ⟨hv, k⟩ | ⟨q, t, xs, rfl, hq, hl, hx, k⟩
    · refine ⟨v, rfl, v, rfl, .inl ⟨hv, _, rfl, a, C, rfl, hC, hw, .inl ⟨ha, fun dx hd hne => ?_⟩⟩⟩
      exact k dx hd hne
    · refine ⟨_, rfl, _, rfl, .inr ⟨q, xs, rfl, hl, hx, ?_⟩⟩
      cases t with
      | false => exact .inl ⟨hq, fun b ys H' e hb hal hbn => ⟨_, rfl, a, C, rfl, hC, hw, .inl ⟨e _ _ ha, fun dx hd hne => k b ys H' dx e hb hal hbn hd hne⟩⟩⟩
      | true => exact .inr ⟨hq, fun b ys H' e hb hal hbn => ⟨_, rfl, a, C, rfl, hC, hw, .inl ⟨e _ _ ha, fun dx hd hne => k b ys H' dx e hb hal hbn hd hne⟩⟩⟩
/-! ### Signature -/
def inI : V → Int → Int → Bool
  | .int i, lo, hi => decide (lo ≤ i) && decide (i ≤ hi)
  | _, _, _ => false
def isInt : V → Bool
  | .int _ => true
  | .bl _ => true
  | _ => false
def isBl : V → Bool
  | .bl _ => true
  | _ => false
theorem Th.int {K : PySem.W.Frag} {H : Hp} {v : V} (h : Th H v) : ∃ t, TyX K H v t ∧ PySem.W.kitOne K t (.type "int") = some (isInt v) ∧ PySem.W.kitOne K t (.type "bool") = some (isBl v) := by
  rcases h with ⟨z, rfl, _⟩ | rfl | ⟨b, rfl⟩ | ⟨i, rfl⟩ | ⟨a, xs, rfl, h1 | h1⟩ | ⟨a, kvs, rfl, h1⟩
  · exact ⟨_, .base (.str z), kit_ty (r := false) (by decide +kernel), kit_ty (r := false) (by decide +kernel)⟩
  · exact ⟨_, .base .non, kit_ty (r := false) (by decide +kernel), kit_ty (r := false) (by decide +kernel)⟩
  · exact ⟨_, .base (.bl b), kit_ty (r := true) (by decide +kernel), kit_ty (r := true) (by decide +kernel)⟩
  · exact ⟨_, .base (.int i), kit_ty (r := true) (by decide +kernel), kit_ty (r := false) (by decide +kernel)⟩
  · exact ⟨_, .base (.lst h1), kit_ty (r := false) (by decide +kernel), kit_ty (r := false) (by decide +kernel)⟩
  · exact ⟨_, .base (.tup h1), kit_ty (r := false) (by decide +kernel), kit_ty (r := false) (by decide +kernel)⟩
  · exact ⟨_, .base (.dK h1), kit_ty (r := false) (by decide +kernel), kit_ty (r := false) (by decide +kernel)⟩
def intB : V → Bool
  | .int _ => true
  | _ => false
def spWhole : Sp := fun vs H Q _ => ∃ v, vs = [v] ∧ Th H v ∧ Q (.bl (intB v)) H
theorem ok_is_whole (T : Tx0 w K mg A) : FnOk P w K mg base CX0 1 A.is_whole A.d_is_whole p_is_whole spWhole := by
  refine T.F_is_whole.ok sc_is_whole (fun vs H Q E h => ?_) (fun cdv Ar outer s H vs Q E hr h => ?_)
  · obtain ⟨v, rfl, _⟩ := h
    rfl
  · obtain ⟨v, rfl, hv, k⟩ := h
    refine ⟨_, (pss_one (ps_ret (pe_and (pe_callB call_isi (by rfl) T.m_isinstance (by decide +kernel) (pa_cons (pv 0) (pa_cons (pe_bltn (v := .ty "int") (u := .type "int") (by rfl) T.m_int (by decide +kernel) rfl) pa_nil))) (pe_one (pe_not (pe_callB call_isi (by rfl) T.m_isinstance (by decide +kernel) (pa_cons (pv 0) (pa_cons (pe_bltn (v := .ty "bool") (u := .type "bool") (by rfl) T.m_bool (by decide +kernel) rfl) pa_nil)))))))), ?_⟩
    obtain ⟨t, ht, h1, h2⟩ := hv.int (K := K)
    refine ⟨_, rfl, v, _, t, _, _, rfl, .ty "int", ht, h1, _, rfl, ?_⟩
    cases v with
    | int i => exact iteT ⟨_, rfl, .int i, _, t, _, _, rfl, .ty "bool", ht, h2, _, rfl, k⟩
    | bl b => exact iteT ⟨_, rfl, .bl b, _, t, _, _, rfl, .ty "bool", ht, h2, _, rfl, k⟩
    | _ => exact iteF k
def spIsInt : Sp := fun vs H Q _ => ∃ v lo hi, vs = [v, .int lo, .int hi] ∧ Th H v ∧ Q (.bl (inI v lo hi)) H
theorem ok_is_int (T : Tx0 w K mg A) : FnOk P w K mg base CX0 2 A.is_int A.d_is_int p_is_int spIsInt := by
  refine T.F_is_int.ok sc_is_int (fun vs H Q E h => ?_) (fun cdv Ar outer s H vs Q E hr h => ?_)
  · obtain ⟨v, lo, hi, rfl, _⟩ := h
    rfl
  · obtain ⟨v, lo, hi, rfl, hv, k⟩ := h
    refine ⟨_, (pss_one (ps_ret (pe_and (pe_call (ok_is_whole T) (hr.mono (by decide)) (by rfl) T.g_is_whole T.F_is_whole.kp T.b_is_whole .nil pass0 (pa_cons (pv 0) pa_nil)) (pe_one (pe_chain op_le op_le (pv 1) (pv 0) (pv 2)))))), ?_⟩
    refine ⟨_, rfl, v, rfl, hv, _, rfl, ?_⟩
    cases v with
    | int i =>
      refine iteT ⟨_, rfl, _, rfl, lo, i, rfl, rfl, _, rfl, ?_⟩
      by_cases e : lo ≤ i
      · rw [decide_eq_true e]
        refine iteT ⟨_, rfl, i, hi, rfl, rfl, ?_⟩
        rw [show inI (.int i) lo hi = decide (i ≤ hi) by show (decide (lo ≤ i) && decide (i ≤ hi)) = _; rw [decide_eq_true e, Bool.true_and]] at k
        exact k
      · rw [decide_eq_false e]
        have q := k
        rw [show inI (.int i) lo hi = false by show (decide (lo ≤ i) && decide (i ≤ hi)) = false; rw [decide_eq_false e, Bool.false_and]] at q
        exact iteF q
    | _ => exact iteF k
def okSrc (n : Int) : Int → List V → Bool
  | _, [] => true
  | l, x :: r => inI x l n && (match x with | .int i => okSrc n (i + 1) r | _ => false)
def srcOk (n : Int) : Option (List V) → Bool
  | some xs => okSrc n 1 xs
  | none => false
def sigOk (nv cv : V) (o : Option (List V)) : Bool := nm nv && inI cv 0 4 && (match cv with | .int n => srcOk n o | _ => false)
def sigF (nv cv : V) (t : Addr) : List (Str × V) := [("name", nv), ("count", cv), ("sources", .ref t)]
theorem put3 (nv cv : V) (t : Addr) : putF "sources" (.ref t) (putF "count" cv (putF "name" nv [])) = sigF nv cv t := rfl
def Sig (K : PySem.W.Frag) (C : Addr) (H : Hp) (a : Addr) (z : Str) (n : Int) (ns : List Int) : Prop := ∃ dx t, H a = some (.ins C dx (sigF (.str z) (.int n) t)) ∧ SqT K H t (ns.map V.int)
theorem Sig.mono {K : PySem.W.Frag} {C : Addr} {H H' : Hp} {a : Addr} {z : Str} {n : Int} {ns : List Int} (e : Ex H H') (h : Sig K C H a z n ns) : Sig K C H' a z n ns := by
  obtain ⟨dx, t, h1, h2⟩ := h
  exact ⟨dx, t, e _ _ h1, ex_t e h2⟩
theorem f_name (nv cv : V) (t : Addr) : (sigF nv cv t).lookup ("name" : Str) = some nv := rfl
theorem f_count (nv cv : V) (t : Addr) : (sigF nv cv t).lookup ("count" : Str) = some cv := rfl
theorem f_sources (nv cv : V) (t : Addr) : (sigF nv cv t).lookup ("sources" : Str) = some (.ref t) := rfl
/-- what stands on the right of == -/
theorem eqvAll_ints : ∀ ns ms : List Int, PyData.eqvAll (ns.map PyData.int) (ms.map PyData.int) = decide (ns = ms)
  | [], [] => by simp [PyData.eqvAll]
  | [], _ :: _ => by simp [PyData.eqvAll]
  | _ :: _, [] => by simp [PyData.eqvAll]
  | x :: r, y :: t => by
    have ih := eqvAll_ints r t
    rw [List.map_cons, List.map_cons]
    unfold PyData.eqvAll
    rw [ih]
    show (decide (x = y) && decide (r = t)) = _
    by_cases h : x = y <;> by_cases h' : r = t <;> simp [h, h']
theorem eqv_list (ns ms : List Int) : PyData.eqv (.list (ns.map PyData.int)) (.list (ms.map PyData.int)) = decide (ns = ms) := eqvAll_ints ns ms
theorem eqv_tup (ns ms : List Int) : PyData.eqv (.tuple (ns.map PyData.int)) (.tuple (ms.map PyData.int)) = decide (ns = ms) := eqvAll_ints ns ms
theorem dp_ints {K : PySem.W.Frag} {H : Hp} : ∀ ns : List Int, DpAll K H (ns.map V.int) (ns.map PyData.int)
  | [] => .nil
  | n :: r => .cons (.int n) (dp_ints r)
theorem lay_ints : ∀ ns : List Int, PyData.canLayAll0 (ns.map PyData.int) = true ∧ PyData.depthAll (ns.map PyData.int) ≤ 1
  | [] => ⟨rfl, by simp [PyData.depthAll]⟩
  | n :: r => by
    obtain ⟨h1, h2⟩ := lay_ints r
    refine ⟨?_, ?_⟩
    · show (PyData.canLay0 (.int n) && PyData.canLayAll0 (r.map PyData.int)) = true
      rw [h1]
      rfl
    · simp only [List.map_cons, PyData.depthAll, PyData.depth]
      omega
theorem shaped_ints (ns : List Int) : SeqAt.shaped (.tuple (ns.map PyData.int)) = true ∧ SeqAt.shaped (.list (ns.map PyData.int)) = true := by
  obtain ⟨h1, h2⟩ := lay_ints ns
  refine ⟨?_, ?_⟩
  · unfold SeqAt.shaped
    rw [show PyData.canLay0 (.tuple (ns.map PyData.int)) = true by unfold PyData.canLay0; exact h1, Bool.true_and]
    refine decide_eq_true ?_
    simp only [PyData.depth]
    omega
  · unfold SeqAt.shaped
    rw [show PyData.canLay0 (.list (ns.map PyData.int)) = true by unfold PyData.canLay0; exact h1, Bool.true_and]
    refine decide_eq_true ?_
    simp only [PyData.depth]
    omega
/-! ### drawn names -/
def tlL : List Nat := tl "abcdefghijklmnopqrstuvwxyz"
def tlD : List Nat := tl "0123456789"
def isD (c : Nat) : Bool := decide (c ∈ tlD)
def digs (z : Str) : List Nat := (tl z).filter isD
structure Wd (k : Int) (z : Str) : Prop where
  num : digs z = tl (Str.ofString (toString k))
  first : ∃ c r, tl z = c :: r ∧ c ∈ tlL
  all : ∀ c ∈ tl z, alnum c = true
  len : 2 ≤ z.length ∧ z.length ≤ 8
  dig : ∃ c ∈ tl z, c ∈ tlD
theorem alL {c : Nat} (h : c ∈ tlL) : alnum c = true := by
  unfold alnum
  rw [show decide (c ∈ tl "abcdefghijklmnopqrstuvwxyz") = true from decide_eq_true h, Bool.true_or]
theorem alD {c : Nat} (h : c ∈ tlD) : alnum c = true := by
  unfold alnum
  rw [show decide (c ∈ tl "0123456789") = true from decide_eq_true h, Bool.or_true]
theorem nodig : ∀ w ∈ wordsS, ∀ c ∈ tl w, c ∉ tlD := by decide +kernel
theorem Wd.ok {k : Int} {z : Str} (h : Wd k z) : okS z = true := by
  obtain ⟨_, ⟨c, r, hcr, hc⟩, h2, ⟨h3, h4⟩, d, hd, hdd⟩ := h
  have hi : inV (.str z) kWords = false := by
    unfold inV
    rw [List.any_eq_false]
    intro y hy
    rw [kWords_eq] at hy
    obtain ⟨w, hw, rfl⟩ := List.mem_map.mp hy
    intro e
    have e1 : w = z := by
      have : (w == z) = true := e
      simpa using this
    subst e1
    exact nodig w hw d hd hdd
  unfold okS
  rw [hi, List.all_eq_true.mpr h2, hcr, decide_eq_true (show 1 ≤ z.length by omega), decide_eq_true h4]
  show (true && true && decide (c ∈ tl "abcdefghijklmnopqrstuvwxyz") && !false && true) = true
  rw [show decide (c ∈ tl "abcdefghijklmnopqrstuvwxyz") = true from decide_eq_true hc]
  rfl
theorem dig_mem {c : Nat} (h : 48 ≤ c ∧ c ≤ 57) : c ∈ tlD := by
  have : c = 48 ∨ c = 49 ∨ c = 50 ∨ c = 51 ∨ c = 52 ∨ c = 53 ∨ c = 54 ∨ c = 55 ∨ c = 56 ∨ c = 57 := by omega
  rcases this with h | h | h | h | h | h | h | h | h | h <;> (subst h; decide +kernel)
theorem num_ok {k : Int} (h0 : 0 ≤ k) (h1 : k < 100) : (∀ c ∈ tl (Str.ofString (toString k)), c ∈ tlD) ∧ 1 ≤ (tl (Str.ofString (toString k))).length ∧ (tl (Str.ofString (toString k))).length ≤ 2 := by
  obtain ⟨n, rfl⟩ := Int.eq_ofNat_of_zero_le h0
  rw [tl_num]
  refine ⟨fun c hc => dig_mem (numL_digits n c hc), ?_, numL_len (by decide) (by omega)⟩
  have := numL_ne n
  cases e : numL n with
  | nil => exact absurd e this
  | cons a r => show 1 ≤ r.length + 1; omega
theorem isD_L {c : Nat} (h : c ∈ tlL) : isD c = false := by
  have : ∀ c ∈ tlL, isD c = false := by decide +kernel
  exact this c h
theorem digs_L {y : Str} (h : ∀ c ∈ tl y, c ∈ tlL) : digs y = [] := List.filter_eq_nil_iff.mpr fun c hc => by rw [isD_L (h c hc)]; simp
theorem digs_app (z y : Str) : digs (z ++ y) = digs z ++ digs y := by
  unfold digs
  rw [tl_append, List.filter_append]
theorem wd_num {c : Nat} {k : Int} (hc : c ∈ tlL) (h0 : 0 ≤ k) (h1 : k < 100) : Wd k ((⟨#[c]⟩ : Str) ++ Str.ofString (toString k)) ∧ ((⟨#[c]⟩ : Str) ++ Str.ofString (toString k)).length ≤ 3 := by
  obtain ⟨n1, n2, n3⟩ := num_ok h0 h1
  have e : tl ((⟨#[c]⟩ : Str) ++ Str.ofString (toString k)) = c :: tl (Str.ofString (toString k)) := by rw [tl_append]; rfl
  have el : ((⟨#[c]⟩ : Str) ++ Str.ofString (toString k)).length = (tl (Str.ofString (toString k))).length + 1 := by rw [len_tl, e]; rfl
  refine ⟨⟨?_, ⟨c, _, e, hc⟩, fun d hd => ?_, by omega, ?_⟩, by omega⟩
  · unfold digs
    rw [e, List.filter_cons_of_neg (by rw [isD_L hc]; simp), List.filter_eq_self]
    exact fun x hx => decide_eq_true (n1 x hx)
  · rw [e] at hd
    rcases List.mem_cons.mp hd with rfl | hd
    · exact alL hc
    · exact alD (n1 d hd)
  · cases q : tl (Str.ofString (toString k)) with
    | nil =>
      rw [q] at n2
      exact absurd n2 (by decide)
    | cons a r =>
      exact ⟨a, by rw [e, q]; exact List.mem_cons_of_mem _ List.mem_cons_self, n1 a (by rw [q]; exact List.mem_cons_self)⟩
theorem wd_back {k : Int} {z y : Str} (h : Wd k z) (hy : ∀ c ∈ tl y, c ∈ tlL) (hl : z.length + y.length ≤ 8) : Wd k (z ++ y) := by
  obtain ⟨hk, ⟨c, r, hcr, hc⟩, h2, h3, d, hd, hdd⟩ := h
  have el : (z ++ y).length = z.length + y.length := by rw [len_tl, tl_append, List.length_append, ← len_tl, ← len_tl]
  refine ⟨by rw [digs_app, digs_L hy, List.append_nil]; exact hk, ⟨c, r ++ tl y, by rw [tl_append, hcr]; rfl, hc⟩, fun q hq => ?_, by omega, d, by rw [tl_append]; exact List.mem_append_left _ hd, hdd⟩
  rw [tl_append] at hq
  rcases List.mem_append.mp hq with hq | hq
  · exact h2 q hq
  · exact alL (hy q hq)
theorem wd_front {k : Int} {z : Str} {c : Nat} (h : Wd k z) (hc : c ∈ tlL) (hl : z.length ≤ 7) : Wd k ((⟨#[c]⟩ : Str) ++ z) := by
  obtain ⟨hk, _, h2, h3, d, hd, hdd⟩ := h
  have e : tl ((⟨#[c]⟩ : Str) ++ z) = c :: tl z := by rw [tl_append]; rfl
  have el : ((⟨#[c]⟩ : Str) ++ z).length = z.length + 1 := by rw [len_tl, e, List.length_cons, ← len_tl]
  refine ⟨by rw [digs_app, digs_L (fun q hq => by rw [List.mem_singleton.mp (show q ∈ [c] from hq)]; exact hc), List.nil_append]; exact hk, ⟨c, _, e, hc⟩, fun q hq => ?_, by omega, d, by rw [e]; exact List.mem_cons_of_mem _ hd, hdd⟩
  rw [e] at hq
  rcases List.mem_cons.mp hq with rfl | hq
  · exact alL hc
  · exact h2 q hq
theorem cut_q {z : Str} (h : z.length ≤ 8) : (∀ c ∈ tl (cutS "qqqqqqqq" (some (z.length : Int)) none), c ∈ tlL) ∧ (cutS "qqqqqqqq" (some (z.length : Int)) none).length = 8 - z.length := by
  have : ∀ n : Nat, n ≤ 8 → (∀ c ∈ tl (cutS "qqqqqqqq" (some (n : Int)) none), c ∈ tlL) ∧ (cutS "qqqqqqqq" (some (n : Int)) none).length = 8 - n := by
    intro n hn
    have hn : n = 0 ∨ n = 1 ∨ n = 2 ∨ n = 3 ∨ n = 4 ∨ n = 5 ∨ n = 6 ∨ n = 7 ∨ n = 8 := by omega
    rcases hn with h | h | h | h | h | h | h | h | h <;> (subst h; decide +kernel)
  exact this _ h
def plainS : List Str := ["a", "x", "new", "b", "user", "copy", "ends", "z", "elses", "n", "dea", "deads", "pic", "thens", "funs", "y"]
theorem plain_ok : ∀ z ∈ plainS, okS z = true := by decide +kernel
theorem okS_len {z : Str} (h : okS z = true) : z.length ≤ 8 := by
  unfold okS at h
  rw [Bool.and_eq_true, Bool.and_eq_true, Bool.and_eq_true, Bool.and_eq_true] at h
  exact of_decide_eq_true h.1.1.1.2
theorem nm_at {k : Int} {z : Str} (h0 : 0 ≤ k) (h1 : k < 16) (h : atI plainS k = some z) : plainS[k.toNat]? = some z := by
  obtain ⟨m, rfl⟩ := Int.eq_ofNat_of_zero_le h0
  have hm : m < plainS.length := by show m < 16; omega
  rw [atI_nat (List.getElem?_eq_getElem hm)] at h
  rw [show ((m : Int)).toNat = m from Int.toNat_natCast m, List.getElem?_eq_getElem hm]
  exact h
def NmOf (k : Int) (z : Str) : Prop := digs z = tl (Str.ofString (toString k)) ∨ (k < 16 ∧ plainS[k.toNat]? = some z)
def spName : Sp := fun vs H Q _ => ∃ d k, vs = [.ref d, .int k] ∧ H d = some (DrO d) ∧ 0 ≤ k ∧ k < 100 ∧ ∀ z H', okS z = true → NmOf k z → Ex H H' → Q (.str z) H'
theorem ok_name (T : Tx0 w K mg A) : FnOk P w K mg base CX0 2 A.name A.d_name p_name spName := by
  refine T.F_name.ok sc_name (fun vs H Q E h => ?_) (fun cdv Ar outer s H vs Q E hr h => ?_)
  · obtain ⟨d, k, rfl, _⟩ := h
    rfl
  · obtain ⟨d, k, rfl, hd, k0, k1, q⟩ := h
    refine ⟨_, (pss_cons (ps_set (i := 2) sc_name.nd rfl (Or.inl rfl) pe_str)
      (pss_cons (ps_set (i := 3) sc_name.nd rfl (Or.inl rfl) (pe_lst (pa_cons pe_str (pa_cons pe_str (pa_cons pe_str (pa_cons pe_str (pa_cons pe_str (pa_cons pe_str (pa_cons pe_str (pa_cons pe_str (pa_cons pe_str (pa_cons pe_str (pa_cons pe_str (pa_cons pe_str (pa_cons pe_str (pa_cons pe_str (pa_cons pe_str (pa_cons pe_str pa_nil))))))))))))))))))
      (pss_cons (ps_set (i := 4) sc_name.nd rfl (Or.inl rfl) (pe_call (ok_take T) (hr.mono (by decide)) (by rfl) T.g_take T.F_take.kp T.b_take .nil pass0 (pa_cons (pv 0) (pa_cons pe_int pa_nil))))
      (Evl.pss_cut (ps_if (PW.pt (pw_and (pt_cmpR op_eq (pv 4) pe_int (nomark _)) (pw_and1 (pt_cmpR op_lt (pv 1) pe_int (nomark _))))) (pss_one (ps_ret (pe_ix ix_list (pv 3) (pv 1) (fun _ _ => rfl)))) pss_nil)
      (pss_cons (ps_set (i := 5) sc_name.nd rfl (Or.inl rfl) (pe_op op_add_str (pe_ix ix_str (pv 2) (pe_call (ok_take T) (hr.mono (by decide)) (by rfl) T.g_take T.F_take.kp T.b_take .nil pass0 (pa_cons (pv 0) (pa_cons pe_int pa_nil))) (fun _ _ => rfl)) (pe_callTy call_str_int (by rfl) T.m_str (by decide +kernel) (pa_cons (pv 1) pa_nil))))
      (Evl.pss_cut (ps_if (pt_cmpR op_eq (pv 4) pe_int (nomark _)) (pss_one (ps_set (i := 5) sc_name.nd rfl (Or.inl rfl) (pe_op op_add_str pe_str (pe_callTy call_str_int (by rfl) T.m_str (by decide +kernel) (pa_cons (pv 1) pa_nil))))) pss_nil)
      (Evl.pss_cut (ps_if (pt_cmpR op_eq (pv 4) pe_int (nomark _)) (pss_one (ps_set (i := 5) sc_name.nd rfl (Or.inl rfl) (pe_op op_add_str (pv 5) (pe_ix ix_str (pv 2) (pe_call (ok_take T) (hr.mono (by decide)) (by rfl) T.g_take T.F_take.kp T.b_take .nil pass0 (pa_cons (pv 0) (pa_cons pe_int pa_nil))) (fun _ _ => rfl))))) pss_nil)
      (Evl.pss_cut (ps_if (pt_cmpR op_eq (pv 4) pe_int (nomark _)) (pss_one (ps_set (i := 5) sc_name.nd rfl (Or.inl rfl) (pe_op op_add_str (pe_ix ix_str (pv 2) (pe_call (ok_take T) (hr.mono (by decide)) (by rfl) T.g_take T.F_take.kp T.b_take .nil pass0 (pa_cons (pv 0) (pa_cons pe_int pa_nil))) (fun _ _ => rfl)) (pv 5)))) pss_nil)
      (Evl.pss_cut (ps_if (pt_cmpR op_eq (pv 4) pe_int (nomark _)) (pss_one (ps_set (i := 5) sc_name.nd rfl (Or.inl rfl) (pe_op op_add_str (pv 5) (pe_slice sl_str pe_str (po_some (pe_callB call_len_str (by rfl) T.m_len PySem.boot_len (pa_cons (pv 5) pa_nil))) po_none)))) pss_nil)
      (pss_one (ps_ret (pv 5)))))))))))), ?_⟩
    refine ⟨sz_of (by show 16 ≤ 100000; decide), fun p hp => ?_⟩
    have e1 := Ex.new (o := .lst (plainS.map V.str)) hp
    have hd1 := e1 _ _ hd
    refine ⟨_, rfl, d, _, rfl, hd1, by decide, fun s s0 s1 => ?_⟩
    have hp1 : upd H p (.lst (plainS.map V.str)) p = some (.lst (plainS.map V.str)) := upd_same
    revert hp1 e1 hd1
    show Ex H (upd H p (.lst (plainS.map V.str))) → upd H p (.lst (plainS.map V.str)) d = some (DrO d) → upd H p (.lst (plainS.map V.str)) p = some (.lst (plainS.map V.str)) → tCut _ _ _ _ (upd H p (.lst (plainS.map V.str)))
    generalize upd H p (.lst (plainS.map V.str)) = H1
    intro e1 hd1 hp1
    let S0 : Option V → L2.St := fun v5 => [some (.ref d), some (.int k), some (.str "abcdefghijklmnopqrstuvwxyz"), some (.ref p), some (.int s), v5]
    refine ⟨fun σ' H' => σ' = S0 none ∧ H' = H1, ?_, ?_⟩
    · refine ⟨_, rfl, rfl, _, rfl, ite2 (fun _ => ?_) (fun _ => iteF ⟨rfl, rfl⟩)⟩
      refine ⟨_, rfl, k, 16, rfl, rfl, _, rfl, ite2 (fun h => ?_) (fun _ => ⟨rfl, rfl⟩)⟩
      have hk : k < 16 := of_decide_eq_true h
      obtain ⟨z, hz, hm⟩ := at_in (xs := plainS) k0 (show k < 16 from hk)
      refine ⟨_, rfl, _, rfl, p, _, k, .str z, rfl, rfl, SqL.of hp1, ?_, q z H1 (plain_ok z hm) (.inr ⟨hk, nm_at k0 hk hz⟩) e1⟩
      obtain ⟨m, rfl⟩ := Int.eq_ofNat_of_zero_le k0
      have hm2 : m < plainS.length := by show m < 16; omega
      rw [atI_nat (List.getElem?_eq_getElem hm2)] at hz
      rw [← Option.some.inj hz]
      refine atI_nat ?_
      rw [List.getElem?_map, List.getElem?_eq_getElem hm2]
      rfl
    rintro σ' H' ⟨rfl, rfl⟩
    have one : ∀ c : Nat, (⟨#[c]⟩ : Str).length = 1 := fun _ => rfl
    have lg : k.natAbs.log2 < 1920 := by
      have h1 : k.natAbs < 2 ^ 1920 := Nat.lt_of_lt_of_le (show k.natAbs < 128 by omega) (by decide +kernel)
      by_cases hz : k.natAbs = 0
      · rw [hz]
        decide
      · exact (Nat.log2_lt hz).mpr h1
    have szn : ∀ c : Nat, (⟨#[c]⟩ : Str).length + (Str.ofString (toString k)).length ≤ sizeLine := fun c => sz_of (by have := (num_ok k0 k1).2.2; rw [one, len_tl]; omega)
    -- word = letter + str(k)
    refine ⟨_, rfl, _, rfl, d, _, rfl, hd1, by decide, fun n n0 n1 => ?_⟩
    obtain ⟨c, hc, hm⟩ := at_in (xs := tl "abcdefghijklmnopqrstuvwxyz") n0 (show n < 26 from n1)
    refine ⟨_, n, c, rfl, rfl, by decide, hc, _, rfl, k, rfl, lg, _, _, rfl, rfl, szn c, ?_⟩
    obtain ⟨w0, l0⟩ := wd_num (c := c) hm k0 k1
    generalize ((⟨#[c]⟩ : Str) ++ Str.ofString (toString k)) = z0 at w0 l0
    -- shape 1
    refine ⟨fun σ' Hn => ∃ z, Wd k z ∧ z.length ≤ 3 ∧ σ' = S0 (some (.str z)) ∧ Hn = H', ?_, ?_⟩
    · refine ⟨_, rfl, rfl, _, rfl, ite2 (fun _ => ?_) (fun _ => ⟨z0, w0, l0, rfl, rfl⟩)⟩
      obtain ⟨w1, l1⟩ := wd_num (c := 110) (by decide +kernel) k0 k1
      exact ⟨_, rfl, k, rfl, lg, _, _, rfl, rfl, szn 110, _, w1, l1, rfl, rfl⟩
    rintro σ' Hb ⟨z1, w1, l1, rfl, rfl⟩
    -- shape 2
    refine ⟨fun σ' H2 => ∃ z, Wd k z ∧ z.length ≤ 4 ∧ σ' = S0 (some (.str z)) ∧ H2 = Hb, ?_, ?_⟩
    · refine ⟨_, rfl, rfl, _, rfl, ite2 (fun _ => ?_) (fun _ => ⟨z1, w1, by omega, rfl, rfl⟩)⟩
      refine ⟨_, rfl, _, rfl, _, rfl, d, _, rfl, hd1, by decide, fun n n0 n1 => ?_⟩
      obtain ⟨c, hc, hm⟩ := at_in (xs := tl "abcdefghijklmnopqrstuvwxyz") n0 (show n < 26 from n1)
      refine ⟨_, n, c, rfl, rfl, by decide, hc, _, _, rfl, rfl, sz_of (by rw [one]; omega), _, wd_back w1 (y := ⟨#[c]⟩) (fun q hq => ?_) (by rw [one]; omega), ?_, rfl, rfl⟩
      · rw [List.mem_singleton.mp (show q ∈ [c] from hq)]
        exact hm
      · rw [len_tl, tl_append, List.length_append, ← len_tl, ← len_tl, one]
        omega
    rintro σ' H2 ⟨z2, w2, l2, rfl, rfl⟩
    -- shape 3
    refine ⟨fun σ' H3 => ∃ z, Wd k z ∧ z.length ≤ 5 ∧ σ' = S0 (some (.str z)) ∧ H3 = H2, ?_, ?_⟩
    · refine ⟨_, rfl, rfl, _, rfl, ite2 (fun _ => ?_) (fun _ => ⟨z2, w2, by omega, rfl, rfl⟩)⟩
      refine ⟨_, rfl, _, rfl, d, _, rfl, hd1, by decide, fun n n0 n1 => ?_⟩
      obtain ⟨c, hc, hm⟩ := at_in (xs := tl "abcdefghijklmnopqrstuvwxyz") n0 (show n < 26 from n1)
      refine ⟨_, n, c, rfl, rfl, by decide, hc, _, rfl, _, _, rfl, rfl, sz_of (by rw [one]; omega), _, wd_front w2 hm (by omega), ?_, rfl, rfl⟩
      rw [len_tl, tl_append, List.length_append, ← len_tl, ← len_tl, one]
      omega
    rintro σ' H3 ⟨z3, w3, l3, rfl, rfl⟩
    -- shape 4
    refine ⟨fun σ' H4 => ∃ z, Wd k z ∧ σ' = S0 (some (.str z)) ∧ H4 = H3, ?_, ?_⟩
    · refine ⟨_, rfl, rfl, _, rfl, ite2 (fun _ => ?_) (fun _ => ⟨z3, w3, rfl, rfl⟩)⟩
      obtain ⟨q1, q2⟩ := cut_q (z := z3) (by omega)
      refine ⟨_, rfl, _, rfl, z3, rfl, sz_of (by omega), _, rfl, _, rfl, by decide, _, _, rfl, rfl, sz_of (by omega), _, wd_back w3 q1 (by omega), rfl, rfl⟩
    rintro σ' H4 ⟨z4, w4, rfl, rfl⟩
    exact ⟨_, rfl, q z4 _ w4.ok (.inl w4.num) e1⟩
/-- strictly ascending numbers from 1 to n -/
def Asc (n : Int) (ns : List Int) : Prop := ns.Pairwise (· < ·) ∧ ∀ m ∈ ns, 1 ≤ m ∧ m ≤ n
theorem asc_ok {n : Int} : ∀ (ns : List Int) (l : Int), ns.Pairwise (· < ·) → (∀ m ∈ ns, l ≤ m ∧ m ≤ n) → okSrc n l (ns.map V.int) = true
  | [], _, _, _ => rfl
  | m :: r, l, hp, hb => by
    obtain ⟨h1, h2⟩ := List.pairwise_cons.mp hp
    have hm := hb m List.mem_cons_self
    show (inI (.int m) l n && okSrc n (m + 1) (r.map V.int)) = true
    rw [show inI (.int m) l n = true by show (decide (l ≤ m) && decide (m ≤ n)) = true; rw [decide_eq_true hm.1, decide_eq_true hm.2]; rfl, Bool.true_and]
    exact asc_ok r (m + 1) h2 fun q hq => ⟨by have := h1 q hq; omega, (hb q (List.mem_cons_of_mem _ hq)).2⟩
theorem asc_len {n : Int} (hn : n ≤ 4) : ∀ ns : List Int, Asc n ns → ns.length ≤ 4 := fun ns h => by
  obtain ⟨h1, h2⟩ := h
  match ns, h1, h2 with
  | [], _, _ => decide
  | [_], _, _ => exact (by decide : 1 ≤ 4)
  | [_, _], _, _ => exact (by decide : 2 ≤ 4)
  | [_, _, _], _, _ => exact (by decide : 3 ≤ 4)
  | [_, _, _, _], _, _ => exact (by decide : 4 ≤ 4)
  | a :: b :: c :: e :: f :: r, h1, h2 =>
    exfalso
    obtain ⟨p1, q1⟩ := List.pairwise_cons.mp h1
    obtain ⟨p2, q2⟩ := List.pairwise_cons.mp q1
    obtain ⟨p3, q3⟩ := List.pairwise_cons.mp q2
    obtain ⟨p4, q4⟩ := List.pairwise_cons.mp q3
    have a1 := (h2 a (by simp)).1
    have f1 := (h2 f (by simp)).2
    have b1 := p1 b (by simp)
    have c1 := p2 c (by simp)
    have e1 := p3 e (by simp)
    have g1 := p4 f (by simp)
    omega
theorem alnum_lt : ∀ c : Nat, alnum c = true → c < 0x110000 := fun c h => by
  rw [alnum36] at h
  have h1 : c ∈ tl36 := of_decide_eq_true h
  have h2 : ∀ c ∈ tl36, c < 0x110000 := by decide +kernel
  exact h2 c h1
theorem okS_allC {z : Str} (h : okS z = true) : ∀ c ∈ tl z, alnum c = true := by
  unfold okS at h
  rw [Bool.and_eq_true] at h
  exact List.all_eq_true.mp h.2
theorem okS_str {z : Str} (h : okS z = true) : PyData.strOk z = true := by
  unfold PyData.strOk
  rw [← Array.all_toList, List.all_eq_true]
  exact fun c hc => decide_eq_true (alnum_lt c (okS_allC h c hc))
theorem sigOk_asc {z : Str} {n : Int} {ns : List Int} (hz : okS z = true) (h0 : 0 ≤ n) (h4 : n ≤ 4) (ha : Asc n ns) : sigOk (.str z) (.int n) (some (ns.map V.int)) = true := by
  unfold sigOk
  rw [show nm (.str z) = true from hz, show inI (.int n) 0 4 = true by show (decide (0 ≤ n) && decide (n ≤ 4)) = true; rw [decide_eq_true h0, decide_eq_true h4]; rfl]
  exact asc_ok ns 1 ha.1 ha.2
/-- three parts as data -/
def dP (z : Str) (n : Int) (ns : List Int) : PyData := .list [.str z, .int n, .list (ns.map PyData.int)]
theorem dP_eqv {z z' : Str} {n n' : Int} {ns ns' : List Int} : PyData.eqv (dP z n ns) (dP z' n' ns') = (decide (z = z') && decide (n = n') && decide (ns = ns')) := by
  unfold dP PyData.eqv PyData.eqvAll
  rw [show PyData.eqv (.str z) (.str z') = decide (z = z') by unfold PyData.eqv; by_cases e : z = z' <;> simp [e]]
  unfold PyData.eqvAll
  rw [show PyData.eqv (.int n) (.int n') = decide (n = n') by unfold PyData.eqv; by_cases e : n = n' <;> simp [e]]
  unfold PyData.eqvAll
  rw [eqv_list]
  unfold PyData.eqvAll
  rw [Bool.and_true, Bool.and_assoc]
theorem dP_shaped {z : Str} {n : Int} {ns : List Int} (hz : okS z = true) : SeqAt.shaped (dP z n ns) = true := by
  obtain ⟨h1, h2⟩ := lay_ints ns
  unfold SeqAt.shaped dP
  rw [Bool.and_eq_true]
  refine ⟨?_, decide_eq_true ?_⟩
  · simp only [PyData.canLay0, PyData.canLayAll0, h1, okS_str hz, Bool.and_true]
  · simp only [PyData.depth, PyData.depthAll]
    omega
theorem dP_dp {K : PySem.W.Frag} {H : Hp} {a p : Addr} {z : Str} {n : Int} {ns : List Int} (ha : H a = some (.lst [.str z, .int n, .ref p])) (hp : SqL K H p (ns.map V.int)) : Dp K H (.ref a) (dP z n ns) :=
  .lst (SqL.of ha) (.cons (.str z) (.cons (.int n) (.cons (.lst hp (dp_ints ns)) .nil)))
/-- a row: name, count and sources of a good signature -/
abbrev Rw := Str × Int × List Int
def RowAt (H : Hp) (p : Addr) (r : Rw) : Prop := ∃ l, H p = some (.lst [.str r.1, .int r.2.1, .ref l]) ∧ H l = some (.lst (r.2.2.map V.int))
def good (r : Rw) : Prop := okS r.1 = true ∧ (0 ≤ r.2.1 ∧ r.2.1 ≤ 4) ∧ Asc r.2.1 r.2.2
theorem RowAt.mono {H H' : Hp} {p : Addr} {r : Rw} (e : Ex H H') (h : RowAt H p r) : RowAt H' p r := by
  obtain ⟨l, h1, h2⟩ := h
  exact ⟨l, e _ _ h1, e _ _ h2⟩
inductive All2 {α β : Type} (R : α → β → Prop) : List α → List β → Prop
  | nil : All2 R [] []
  | cons {a b as bs} : R a b → All2 R as bs → All2 R (a :: as) (b :: bs)
theorem All2.imp {α β : Type} {R S : α → β → Prop} (f : ∀ a b, R a b → S a b) : ∀ {as bs}, All2 R as bs → All2 S as bs
  | _, _, .nil => .nil
  | _, _, .cons h t => .cons (f _ _ h) (t.imp f)
theorem All2.len {α β : Type} {R : α → β → Prop} : ∀ {as : List α} {bs : List β}, All2 R as bs → as.length = bs.length
  | _, _, .nil => rfl
  | _, _, .cons _ t => congrArg (· + 1) t.len
theorem All2.snoc {α β : Type} {R : α → β → Prop} {a b} (h : R a b) : ∀ {as bs}, All2 R as bs → All2 R (as ++ [a]) (bs ++ [b])
  | _, _, .nil => .cons h .nil
  | _, _, .cons h1 t => .cons h1 (t.snoc h)
theorem All2.at {α β : Type} {R : α → β → Prop} : ∀ {as : List α} {bs : List β}, All2 R as bs → ∀ {i : Nat} {b : β}, bs[i]? = some b → ∃ a, as[i]? = some a ∧ R a b
  | _, _, .cons h _, 0, _, hb => ⟨_, rfl, by cases hb; exact h⟩
  | _, _, .cons _ t, _ + 1, _, hb => t.at (i := _) hb
theorem All2.set {α β : Type} {R : α → β → Prop} {a b} (h : R a b) : ∀ {as : List α} {bs : List β}, All2 R as bs → ∀ i, All2 R (as.set i a) (bs.set i b)
  | _, _, .nil, _ => .nil
  | _, _, .cons _ t, 0 => .cons h t
  | _, _, .cons h1 t, i + 1 => .cons h1 (t.set h i)
def RowsAt (H : Hp) (p : Addr) (as : List Addr) (rs : List Rw) : Prop := H p = some (.lst (as.map V.ref)) ∧ All2 (RowAt H) as rs
theorem rows_mono {H H' : Hp} (e : Ex H H') {as : List Addr} {rs : List Rw} (h : All2 (RowAt H) as rs) : All2 (RowAt H') as rs := h.imp fun _ _ h => h.mono e
theorem rows_upd {H : Hp} {D : Addr} {as : List Addr} {rs : List Rw} {X : HO} (hD : H D = some (.lst (as.map V.ref))) (h : All2 (RowAt H) as rs) : All2 (RowAt (upd H D X)) as rs := by
  cases as with
  | nil =>
    cases h
    exact .nil
  | cons a0 t =>
    refine h.imp fun a r h => ?_
    obtain ⟨l, h1, h2⟩ := h
    refine ⟨l, ?_, ?_⟩
    · rw [upd_ne]
      · exact h1
      · rintro rfl
        rw [hD] at h1
        cases h1
    · rw [upd_ne]
      · exact h2
      · rintro rfl
        rw [hD] at h2
        have h3 := Option.some.inj h2
        injection h3 with h4
        cases hr : r.2.2 with
        | nil => rw [hr] at h4; cases h4
        | cons m q => rw [hr] at h4; cases h4
theorem rows_put {H : Hp} {D a : Addr} {as : List Addr} {rs : List Rw} {r : Rw} (j : Nat) (h : RowsAt H D as rs) (hr : RowAt (upd H D (.lst ((as.map V.ref).set j (.ref a)))) a r) : RowsAt (upd H D (.lst ((as.map V.ref).set j (.ref a)))) D (as.set j a) (rs.set j r) :=
  ⟨by rw [upd_same, List.map_set], (rows_upd h.1 h.2).set hr j⟩
theorem good_put {rs : List Rw} {r : Rw} {j : Nat} (h : ∀ x ∈ rs, good x) (hr : good r) : ∀ x ∈ rs.set j r, good x := fun x hx => by
  rcases List.mem_or_eq_of_mem_set hx with h1 | h1
  · exact h x h1
  · rw [h1]
    exact hr
theorem at_strs {xs : List Str} {n : Int} (h0 : 0 ≤ n) (h1 : n < (xs.length : Int)) : ∃ x, atI (xs.map V.str) n = some (.str x) ∧ x ∈ xs := by
  obtain ⟨m, rfl⟩ := Int.eq_ofNat_of_zero_le h0
  have hm : m < xs.length := by omega
  exact ⟨xs[m], atI_nat (by rw [List.getElem?_map, List.getElem?_eq_getElem hm]; rfl), List.getElem_mem hm⟩
theorem at_ints {xs : List Int} {n : Int} (h0 : 0 ≤ n) (h1 : n < (xs.length : Int)) : ∃ x, atI (xs.map V.int) n = some (.int x) ∧ x ∈ xs := by
  obtain ⟨m, rfl⟩ := Int.eq_ofNat_of_zero_le h0
  have hm : m < xs.length := by omega
  exact ⟨xs[m], atI_nat (by rw [List.getElem?_map, List.getElem?_eq_getElem hm]; rfl), List.getElem_mem hm⟩
theorem inV_strs (w : Str) (zs : List Str) : inV (.str w) (zs.map V.str) = decide (w ∈ zs) := by
  unfold inV
  rw [List.any_map]
  by_cases h : w ∈ zs
  · rw [decide_eq_true h, List.any_eq_true]
    exact ⟨w, h, by show (w == w) = true; exact beq_self_eq_true w⟩
  · rw [decide_eq_false h, List.any_eq_false]
    intro y hy e
    have e1 : (y == w) = true := e
    exact h (by rw [← (beq_iff_eq.mp e1)]; exact hy)
theorem All2.at' {α β : Type} {R : α → β → Prop} : ∀ {as : List α} {bs : List β}, All2 R as bs → ∀ {i : Nat} {a : α}, as[i]? = some a → ∃ b, bs[i]? = some b ∧ R a b
  | _, _, .cons h _, 0, _, hb => ⟨_, rfl, by cases hb; exact h⟩
  | _, _, .cons _ t, _ + 1, _, hb => t.at' (i := _) hb
def SigR (K : PySem.W.Frag) (C : Addr) (H : Hp) (a : Addr) (r : Rw) : Prop := Sig K C H a r.1 r.2.1 r.2.2
theorem Sig.upd {K : PySem.W.Frag} {C : Addr} {H : Hp} {D a : Addr} {ys : List V} {X : HO} {z : Str} {n : Int} {ns : List Int} (hD : H D = some (.lst ys)) (h : Sig K C H a z n ns) : Sig K C (upd H D X) a z n ns := by
  obtain ⟨dx, t, h1, h2⟩ := h
  refine ⟨dx, t, ?_, ?_⟩
  · rw [upd_ne]
    · exact h1
    · rintro rfl
      rw [hD] at h1
      cases h1
  · rcases h2 with (h | ⟨o, h⟩) | h
    · refine .inl (.inl ?_)
      rw [upd_ne]
      · exact h
      · rintro rfl
        rw [hD] at h
        cases h
    · refine .inl (.inr ⟨o, ?_⟩)
      rw [upd_ne]
      · exact h
      · rintro rfl
        rw [hD] at h
        cases h
    · exact .inr h
def dueGo : List Str → List Rw → Str × Str
  | _, [] => (("book" : Str), ("" : Str))
  | known, r :: t => if r.1 ∈ known then (("twice" : Str), r.1) else dueGo (known ++ [r.1]) t
def dueOf (rs : List Rw) : Str × Str := if 12 < rs.length then (("large" : Str), ("functions" : Str)) else dueGo ["new", "copy"] rs
/-! ### names that differ from number to number -/
def ownS : List Str := ["a", "x", "news", "b", "user", "copys", "ends", "z", "elses", "n", "dea", "deads", "pic", "thens", "funs", "y"]
def OwnOf (k : Int) (z : Str) : Prop := digs z = tl (Str.ofString (toString k)) ∨ (k < 16 ∧ ownS[k.toNat]? = some z)
def nn (z : Str) : Prop := z ≠ "new" ∧ z ≠ "copy"
theorem num_ne {k : Int} (h0 : 0 ≤ k) (h1 : k < 100) : tl (Str.ofString (toString k)) ≠ [] := fun h => by
  have := (num_ok h0 h1).2.1
  rw [h] at this
  exact absurd this (by decide)
theorem plain_digs : ∀ z ∈ plainS ++ ownS, digs z = [] := by decide +kernel
theorem plain_step : ∀ i : Fin 16, ∀ z, plainS[i.val]? = some z → (z = "new" → ownS[i.val]? = some ("news" : Str)) ∧ (z = "copy" → ownS[i.val]? = some ("copys" : Str)) ∧ (z ≠ "new" → z ≠ "copy" → ownS[i.val]? = some z) := by
  have h : ∀ i : Fin 16, (plainS[i.val]? = some ("new" : Str) → ownS[i.val]? = some ("news" : Str)) ∧ (plainS[i.val]? = some ("copy" : Str) → ownS[i.val]? = some ("copys" : Str)) ∧ (plainS[i.val]? ≠ some ("new" : Str) → plainS[i.val]? ≠ some ("copy" : Str) → ownS[i.val]? = plainS[i.val]?) := by decide +kernel
  intro i z hz
  obtain ⟨h1, h2, h3⟩ := h i
  refine ⟨fun e => h1 (by rw [hz, e]), fun e => h2 (by rw [hz, e]), fun n1 n2 => ?_⟩
  rw [h3 (by rw [hz]; exact fun e => n1 (Option.some.inj e)) (by rw [hz]; exact fun e => n2 (Option.some.inj e)), hz]
theorem own_of {k : Int} {z : Str} (h0 : 0 ≤ k) (h1 : k < 100) (h : NmOf k z) : (z = "new" → OwnOf k "news") ∧ (z = "copy" → OwnOf k "copys") ∧ (nn z → OwnOf k z) := by
  rcases h with h | ⟨hk, h⟩
  · refine ⟨fun e => ?_, fun e => ?_, fun _ => .inl h⟩
    · rw [e, plain_digs "new" (by decide +kernel)] at h
      exact absurd h.symm (num_ne h0 h1)
    · rw [e, plain_digs "copy" (by decide +kernel)] at h
      exact absurd h.symm (num_ne h0 h1)
  · obtain ⟨q1, q2, q3⟩ := plain_step ⟨k.toNat, by omega⟩ z h
    exact ⟨fun e => .inr ⟨hk, q1 e⟩, fun e => .inr ⟨hk, q2 e⟩, fun n => .inr ⟨hk, q3 n.1 n.2⟩⟩
theorem own_nn {k : Int} {z : Str} (h0 : 0 ≤ k) (h1 : k < 100) (h : OwnOf k z) : nn z := by
  have no : ∀ w : Str, w ∈ plainS ++ ownS → w ∉ ownS → z ≠ w := by
    intro w hw hn e
    subst e
    rcases h with h | ⟨_, h⟩
    · rw [plain_digs z hw] at h
      exact num_ne h0 h1 h.symm
    · exact hn (List.mem_of_getElem? h)
  exact ⟨no "new" (by decide +kernel) (by decide +kernel), no "copy" (by decide +kernel) (by decide +kernel)⟩
theorem num_inj {k k' : Int} (h0 : 0 ≤ k) (h1 : k < 64) (h0' : 0 ≤ k') (h1' : k' < 64) (h : tl (Str.ofString (toString k)) = tl (Str.ofString (toString k'))) : k = k' := by
  have dec : ∀ i j : Fin 64, tl (Str.ofString (toString ((i.val : Nat) : Int))) = tl (Str.ofString (toString ((j.val : Nat) : Int))) → i = j := by decide +kernel
  obtain ⟨n, rfl⟩ := Int.eq_ofNat_of_zero_le h0
  obtain ⟨m, rfl⟩ := Int.eq_ofNat_of_zero_le h0'
  have := dec ⟨n, by omega⟩ ⟨m, by omega⟩ h
  rw [show n = m from congrArg Fin.val this]
theorem own_inj {k k' : Int} {z : Str} (h0 : 0 ≤ k) (h1 : k < 64) (h0' : 0 ≤ k') (h1' : k' < 64) (h : OwnOf k z) (h' : OwnOf k' z) : k = k' := by
  have pl : ∀ {j : Nat}, ownS[j]? = some z → digs z = [] := fun q => plain_digs z (List.mem_append_right _ (List.mem_of_getElem? q))
  rcases h with h | ⟨hk, h⟩ <;> rcases h' with h' | ⟨hk', h'⟩
  · exact num_inj h0 h1 h0' h1' (h.symm.trans h')
  · rw [pl h'] at h
    exact absurd h.symm (num_ne h0 (by omega))
  · rw [pl h] at h'
    exact absurd h'.symm (num_ne h0' (by omega))
  · have nd : ∀ i j : Fin 16, ownS[i.val]? = ownS[j.val]? → i = j := by decide +kernel
    have := nd ⟨k.toNat, by omega⟩ ⟨k'.toNat, by omega⟩ (h.trans h'.symm)
    have e : k.toNat = k'.toNat := congrArg Fin.val this
    omega
structure Fit (rs : List Rw) : Prop where
  gd : ∀ r ∈ rs, good r
  nn : ∀ r ∈ rs, nn r.1
  nd : (rs.map (·.1)).Nodup
  ln : rs.length ≤ 8
end
end K20

set_option Elab.async false
set_option linter.all false
set_option maxRecDepth 100000
namespace K20
open PySem PySem.Spec PyProof.Rows L2 Evl TL UL StX
section
variable {P : Program} {w : World} {K : PySem.W.Frag} {mg : Str → Option Value} {base : Heap} {A : Adr}
/-! ### the reader -/
theorem cut_seg {z : Str} {s e : Nat} (h1 : s ≤ e) (h2 : e ≤ z.length) : cutS z (some (s : Int)) (some (e : Int)) = ofL (((tl z).take e).drop s) := by
  have hl : z.cps.toList.length = z.length := by simp [Str.length]
  unfold cutS
  rw [HT.sIx_nat, HT.sIx_nat, Nat.min_eq_left (show s ≤ z.length by omega), Nat.min_eq_left h2, ← List.drop_take]
  rfl
theorem cut_tail {z : Str} {s : Nat} (h1 : s ≤ z.length) : cutS z (some (s : Int)) none = ofL ((tl z).drop s) := by
  have hl : z.cps.toList.length = z.length := by simp [Str.length]
  unfold cutS
  rw [HT.sIx_nat, HT.sIx_none, Nat.min_eq_left h1, List.take_of_length_le (by rw [List.length_drop]; omega)]
  rfl
theorem sgn_eq (c d : Nat) : decide (V.str ⟨#[c]⟩ = V.str ⟨#[d]⟩) = decide (c = d) := decide_eq_decide.mpr ⟨fun h => by injection h with h; injection h with h; simpa using h, fun h => by rw [h]⟩
theorem piece_eq (l : List Nat) (d : Nat) : decide (V.str (ofL l) = V.str ⟨#[d]⟩) = decide (l = [d]) := decide_eq_decide.mpr ⟨fun h => by injection h with h; injection h with h; simpa using h, fun h => by rw [h]; rfl⟩
def spCut : Sp := fun vs H Q _ => ∃ z : Str, vs = [.str z] ∧ z.length ≤ 2000 ∧ ∀ p H', Ex H H' → H' p = some (.lst ((cutGo [] (tl z)).map fun l => V.str (ofL l))) → H p = none → Q (.ref p) H'
/-- where it is -/
structure CutAt (H H' : Hp) (p : Addr) (z : Str) (i st : Nat) (P : List (List Nat)) : Prop where
  ex : Ex H H'
  at_ : H' p = some (.lst (P.map fun l => V.str (ofL l)))
  le : st ≤ i
  eq : P ++ cutGo (((tl z).take i).drop st) ((tl z).drop i) = cutGo [] (tl z)
  len : P.length ≤ 2 * i
theorem ok_cut (T : Tx0 w K mg A) : FnOk P w K mg base CX0 1 A.cut A.d_cut p_cut spCut := by
  refine T.F_cut.ok sc_cut (fun vs H Q E h => ?_) (fun cdv Ar outer s H vs Q E hr h => ?_)
  · obtain ⟨z, rfl, _⟩ := h
    rfl
  · obtain ⟨z, rfl, hz, k⟩ := h
    refine ⟨_, (pss_cons (ps_set (i := 1) sc_cut.nd rfl (Or.inl rfl) (pe_lst pa_nil))
      (pss_cons (ps_set (i := 2) sc_cut.nd rfl (Or.inl rfl) pe_int)
      (pss_cons (ps_for PassesOwn.never rfl (UL.pi_enumS (by rfl) T.m_enumerate (pa_cons (pv 0) pa_nil)) (pg_tup (n := 2) rfl (pgs_cons (pg_name (i := 3) sc_cut.nd rfl (Or.inl rfl)) (pgs_cons (pg_name (i := 4) sc_cut.nd rfl (Or.inl rfl)) pgs_nil))) (pss_one (ps_if (pt_cmpR op_eq (pv 4) pe_str (nomark _)) (pss_cons (ps_expr (pe_bm PySem.F.plainAttrs_list PySem.F.slot_list_append PySem.F.type_list_append mt_append (pv 1) (pa_cons (pe_slice sl_str (pv 0) (po_some (pv 2)) (po_some (pe_op op_add (pv 3) pe_int))) pa_nil)))
          (pss_one (ps_set (i := 2) sc_cut.nd rfl (Or.inl rfl) (pe_op op_add (pv 3) pe_int)))) (pss_one (ps_if (PW.pt (pw_or (pt_cmpR op_eq (pv 4) pe_str (nomark _)) (pw_or1 (pt_cmpR op_eq (pv 4) pe_str (nomark _))))) (Evl.pss_cut (ps_if (pt_cmpR op_lt (pv 2) (pv 3) (nomark _)) (pss_one (ps_expr (pe_bm PySem.F.plainAttrs_list PySem.F.slot_list_append PySem.F.type_list_append mt_append (pv 1) (pa_cons (pe_slice sl_str (pv 0) (po_some (pv 2)) (po_some (pv 3))) pa_nil)))) pss_nil)
            (pss_cons (ps_expr (pe_bm PySem.F.plainAttrs_list PySem.F.slot_list_append PySem.F.type_list_append mt_append (pv 1) (pa_cons (pv 4) pa_nil)))
            (pss_one (ps_set (i := 2) sc_cut.nd rfl (Or.inl rfl) (pe_op op_add (pv 3) pe_int))))) pss_nil)))))
      (pss_cons (ps_if (pt_cmpR op_lt (pv 2) (pe_callB call_len_str (by rfl) T.m_len PySem.boot_len (pa_cons (pv 0) pa_nil)) (nomark _)) (pss_one (ps_expr (pe_bm PySem.F.plainAttrs_list PySem.F.slot_list_append PySem.F.type_list_append mt_append (pv 1) (pa_cons (pe_slice sl_str (pv 0) (po_some (pv 2)) po_none) pa_nil)))) pss_nil)
      (pss_one (ps_ret (pv 1))))))), ?_⟩
    refine ⟨Nat.zero_le _, fun p hp => ?_⟩
    have hlz : (tl z).length = z.length := (len_tl z).symm
    refine ⟨_, rfl, z, rfl, ?_⟩
    refine for_it UL.walk_enumS (fun i σ' H' => ∃ st P v3 v4, σ' = [some (.str z), some (.ref p), some (.int ((st : Nat) : Int)), v3, v4] ∧ CutAt H H' p z i st P) ⟨0, [], none, none, rfl, Ex.new hp, upd_same, Nat.le_refl _, rfl, Nat.le_refl _⟩ (fun _ _ _ _ _ => trivial) ?_ ?_
    · rintro i x σ' H1 H2 hi ⟨st, P, v3, v4, rfl, ⟨e1, hL, hle, heq, hlen⟩⟩ ⟨Tt, c, rfl, hT, rfl, hc⟩
      have hi' : i < z.length := hi
      have hcl : (tl z)[i]? = some c := by
        rw [show (tl z)[i]? = z.cps[i]? from Array.getElem?_toList]
        exact hc
      have hd : (tl z).drop i = c :: (tl z).drop (i + 1) := by
        obtain ⟨h1, h2⟩ := List.getElem?_eq_some_iff.mp hcl
        rw [List.drop_eq_getElem_cons h1, h2]
      have ht : ((tl z).take (i + 1)).drop st = ((tl z).take i).drop st ++ [c] := by
        rw [List.take_succ, hcl, List.drop_append_of_le_length (by rw [List.length_take]; omega)]
        rfl
      have hpl : (((tl z).take i).drop st).length = i - st := by rw [List.length_drop, List.length_take]; omega
      have e2 := Ex.new (o := .tup [.int (i : Nat), .str ⟨#[c]⟩]) hT
      have hL2 := e2 _ _ hL
      have e12 := e1.trans e2
      rw [hd] at heq
      have hTt : upd H1 Tt (.tup [.int (i : Nat), .str ⟨#[c]⟩]) Tt = some (.tup [.int (i : Nat), .str ⟨#[c]⟩]) := upd_same
      have hpT : p ≠ Tt := fun z => by rw [z] at hL; rw [hL] at hT; cases hT
      revert hTt e2 hL2 e12
      show Ex H1 (upd H1 Tt (.tup [.int (i : Nat), .str ⟨#[c]⟩])) → (upd H1 Tt (.tup [.int (i : Nat), .str ⟨#[c]⟩])) p = _ → Ex H (upd H1 Tt (.tup [.int (i : Nat), .str ⟨#[c]⟩])) → (upd H1 Tt (.tup [.int (i : Nat), .str ⟨#[c]⟩])) Tt = _ → gTup _ _ _ _ _ (upd H1 Tt (.tup [.int (i : Nat), .str ⟨#[c]⟩])) _
      generalize upd H1 Tt (.tup [.int (i : Nat), .str ⟨#[c]⟩]) = H2
      intro e2 hL2 e12 hTt
      refine ⟨Tt, _, rfl, SqT.of hTt, rfl, _, _, rfl, _, _, rfl, rfl, ?_⟩
      have seg : ∀ e : Nat, st ≤ e → e ≤ i + 1 → cutS z (some (st : Int)) (some (e : Int)) = ofL (((tl z).take e).drop st) := fun e h1 h2 => cut_seg h1 (by omega)
      have hsz : z.length ≤ sizeLine := sz_of (by omega)
      have psz : ∀ {l : List V}, l.length = P.length → l.length < sizeLine := fun h => sz_lt (by omega)
      have muts : ∀ xs, Ex H (upd H2 p (.lst xs)) := fun xs => e12.mut hp
      refine ⟨_, rfl, rfl, _, rfl, ?_⟩
      rw [show decide (V.str ⟨#[c]⟩ = V.str "(") = decide (c = 40) from sgn_eq c 40]
      refine ite2 (fun e => ?_) (fun n40 => ?_)
      · obtain rfl : c = 40 := of_decide_eq_true e
        refine ⟨_, rfl, .inl ⟨rfl, _, SqL.of hL2⟩, _, rfl, _, rfl, _, rfl, _, rfl, (i : Int), 1, rfl, rfl, _, rfl, z, rfl, hsz, p, _, _, rfl, rfl, hL2, psz (by rw [List.length_map]), ?_⟩
        refine ⟨_, rfl, (i : Int), 1, rfl, rfl, i + 1, P ++ [((tl z).take i).drop st ++ [40]], _, _, rfl, muts _, ?_, Nat.le_refl _, ?_, ?_⟩
        · rw [upd_same, List.map_append, show (i : Int) + 1 = ((i + 1 : Nat) : Int) by omega, seg (i + 1) (by omega) (Nat.le_refl _), ht]
          rfl
        · rw [← heq, cutGo_cons, if_pos rfl, List.drop_eq_nil_of_le (as := (tl z).take (i + 1)) (by rw [List.length_take]; omega), List.append_assoc]
          rfl
        · rw [List.length_append, List.length_singleton]
          omega
      have n1 : c ≠ 40 := fun z => n40 (decide_eq_true z)
      rw [cutGo_cons, if_neg n1] at heq
      refine ⟨_, rfl, rfl, _, rfl, ?_⟩
      rw [show decide (V.str ⟨#[c]⟩ = V.str ",") = decide (c = 44) from sgn_eq c 44]
      by_cases hc2 : c = 44 ∨ c = 41
      · rw [if_pos hc2] at heq
        rcases hc2 with h44 | h41
        · rw [decide_eq_true h44]
          refine iteT (iteT ?_)
          refine ⟨fun σ' H' => ∃ P', σ' = [some (.str z), some (.ref p), some (.int ((st : Nat) : Int)), some (.int (i : Int)), some (.str ⟨#[c]⟩)] ∧ Ex H H' ∧ H' p = some (.lst (P'.map fun l => V.str (ofL l))) ∧ P' ++ [c] :: cutGo [] ((tl z).drop (i + 1)) = cutGo [] (tl z) ∧ P'.length ≤ 2 * i + 1, ?_, ?_⟩
          · refine ⟨_, rfl, _, rfl, (st : Int), (i : Int), rfl, rfl, _, rfl, ite2 (fun e => ?_) (fun n => ?_)⟩
            · have e3 : (st : Int) < i := of_decide_eq_true e
              rw [if_neg (fun h => by rw [h] at hpl; rw [List.length_nil] at hpl; omega)] at heq
              refine ⟨_, rfl, .inl ⟨rfl, _, SqL.of hL2⟩, _, rfl, _, rfl, _, rfl, _, rfl, _, rfl, z, rfl, hsz, p, _, _, rfl, rfl, hL2, psz (by rw [List.length_map]), P ++ [((tl z).take i).drop st], rfl, muts _, ?_, ?_, ?_⟩
              · rw [upd_same, List.map_append, seg i hle (by omega)]
                rfl
              · rw [← heq, List.append_assoc]
              · rw [List.length_append, List.length_singleton]
                omega
            · have e3 : ¬ (st : Int) < i := fun z => n (decide_eq_true z)
              rw [if_pos (List.eq_nil_of_length_eq_zero (by omega)), List.nil_append] at heq
              exact ⟨P, rfl, e12, hL2, heq, by omega⟩
          · rintro σ' H3 ⟨P', rfl, e13, hL3, heq3, hl3⟩
            refine ⟨_, rfl, .inl ⟨rfl, _, SqL.of hL3⟩, _, rfl, p, _, _, rfl, rfl, hL3, sz_lt (by rw [List.length_map]; omega), ?_⟩
            refine ⟨_, rfl, (i : Int), 1, rfl, rfl, i + 1, P' ++ [[c]], _, _, rfl, e13.mut hp, ?_, Nat.le_refl _, ?_, ?_⟩
            · rw [upd_same, List.map_append]
              rfl
            · rw [← heq3, List.drop_eq_nil_of_le (as := (tl z).take (i + 1)) (by rw [List.length_take]; omega), List.append_assoc]
              rfl
            · rw [List.length_append, List.length_singleton]
              omega
        · rw [decide_eq_false (show ¬ c = 44 by omega)]
          refine iteF ⟨_, rfl, rfl, _, rfl, ?_⟩
          rw [show decide (V.str ⟨#[c]⟩ = V.str ")") = decide (c = 41) from sgn_eq c 41, decide_eq_true h41]
          refine iteT ?_
          refine ⟨fun σ' H' => ∃ P', σ' = [some (.str z), some (.ref p), some (.int ((st : Nat) : Int)), some (.int (i : Int)), some (.str ⟨#[c]⟩)] ∧ Ex H H' ∧ H' p = some (.lst (P'.map fun l => V.str (ofL l))) ∧ P' ++ [c] :: cutGo [] ((tl z).drop (i + 1)) = cutGo [] (tl z) ∧ P'.length ≤ 2 * i + 1, ?_, ?_⟩
          · refine ⟨_, rfl, _, rfl, (st : Int), (i : Int), rfl, rfl, _, rfl, ite2 (fun e => ?_) (fun n => ?_)⟩
            · have e3 : (st : Int) < i := of_decide_eq_true e
              rw [if_neg (fun h => by rw [h] at hpl; rw [List.length_nil] at hpl; omega)] at heq
              refine ⟨_, rfl, .inl ⟨rfl, _, SqL.of hL2⟩, _, rfl, _, rfl, _, rfl, _, rfl, _, rfl, z, rfl, hsz, p, _, _, rfl, rfl, hL2, psz (by rw [List.length_map]), P ++ [((tl z).take i).drop st], rfl, muts _, ?_, ?_, ?_⟩
              · rw [upd_same, List.map_append, seg i hle (by omega)]
                rfl
              · rw [← heq, List.append_assoc]
              · rw [List.length_append, List.length_singleton]
                omega
            · have e3 : ¬ (st : Int) < i := fun z => n (decide_eq_true z)
              rw [if_pos (List.eq_nil_of_length_eq_zero (by omega)), List.nil_append] at heq
              exact ⟨P, rfl, e12, hL2, heq, by omega⟩
          · rintro σ' H3 ⟨P', rfl, e13, hL3, heq3, hl3⟩
            refine ⟨_, rfl, .inl ⟨rfl, _, SqL.of hL3⟩, _, rfl, p, _, _, rfl, rfl, hL3, sz_lt (by rw [List.length_map]; omega), ?_⟩
            refine ⟨_, rfl, (i : Int), 1, rfl, rfl, i + 1, P' ++ [[c]], _, _, rfl, e13.mut hp, ?_, Nat.le_refl _, ?_, ?_⟩
            · rw [upd_same, List.map_append]
              rfl
            · rw [← heq3, List.drop_eq_nil_of_le (as := (tl z).take (i + 1)) (by rw [List.length_take]; omega), List.append_assoc]
              rfl
            · rw [List.length_append, List.length_singleton]
              omega
      · have n44 : c ≠ 44 := fun z => hc2 (.inl z)
        have n41 : c ≠ 41 := fun z => hc2 (.inr z)
        rw [if_neg hc2] at heq
        rw [decide_eq_false n44]
        refine iteF ⟨_, rfl, rfl, _, rfl, ?_⟩
        rw [show decide (V.str ⟨#[c]⟩ = V.str ")") = decide (c = 41) from sgn_eq c 41, decide_eq_false n41]
        refine iteF ?_
        exact ⟨st, P, _, _, rfl, e12, hL2, by omega, by rw [ht]; exact heq, by omega⟩
    · rintro σ' H1 ⟨st, P, v3, v4, rfl, ⟨e1, hL, hle, heq, hlen⟩⟩
      have hd : (tl z).drop z.cps.size = [] := List.drop_eq_nil_of_le (by rw [hlz]; exact Nat.le_refl _)
      have ht : (tl z).take z.cps.size = tl z := List.take_of_length_le (by rw [hlz]; exact Nat.le_refl _)
      have hle' : st ≤ z.length := hle
      have hlen' : P.length ≤ 2 * z.length := hlen
      have hpl : ((tl z).drop st).length = z.length - st := by rw [List.length_drop, hlz]
      rw [hd, ht, cutGo_nil] at heq
      refine ⟨_, rfl, _, rfl, z, rfl, sz_of (by omega), (st : Int), (z.length : Int), rfl, rfl, _, rfl, ite2 (fun e => ?_) (fun n => ?_)⟩
      · have e2 : (st : Int) < z.length := of_decide_eq_true e
        rw [if_neg (fun h => by rw [h] at hpl; rw [List.length_nil] at hpl; omega)] at heq
        refine ⟨_, rfl, .inl ⟨rfl, _, SqL.of hL⟩, _, rfl, _, rfl, _, rfl, z, rfl, sz_of (by omega), p, _, _, rfl, rfl, hL, sz_lt (by rw [List.length_map]; omega), _, rfl, k p _ (e1.mut hp) ?_ hp⟩
        rw [upd_same, cut_tail hle', ← heq, List.map_append]
        rfl
      · have e2 : ¬ (st : Int) < z.length := fun z => n (decide_eq_true z)
        rw [if_pos (List.eq_nil_of_length_eq_zero (by omega)), List.append_nil] at heq
        exact ⟨_, rfl, k p _ e1 (by rw [hL, heq]) hp⟩
/-! ### nodes and what waits, on the heap -/
def ni (os : List Nat) : List V := os.map fun n : Nat => V.int (n : Int)
def NdAt (H : Hp) (a : Addr) : Nd → Prop
  | .name w => H a = some (.tup [.str "name", .str w])
  | .call w os => ∃ t, H a = some (.tup [.str "call", .str w, .ref t]) ∧ H t = some (.tup (ni os))
  | .op w os => H a = some (.tup (.str w :: ni os))
theorem NdAt.mono {H H' : Hp} {a : Addr} {nd : Nd} (e : Ex H H') (h : NdAt H a nd) : NdAt H' a nd := by
  cases nd with
  | name w => exact e _ _ h
  | call w os =>
    obtain ⟨t, h1, h2⟩ := h
    exact ⟨t, e _ _ h1, e _ _ h2⟩
  | op w os => exact e _ _ h
/-- a list is written: the nodes stay -/
theorem NdAt.put {H : Hp} {a l : Addr} {nd : Nd} {xs ys : List V} (hl : H l = some (.lst xs)) (h : NdAt H a nd) : NdAt (upd H l (.lst ys)) a nd := by
  have kp : ∀ {b : Addr} {ts : List V}, H b = some (.tup ts) → upd H l (.lst ys) b = some (.tup ts) := fun {b ts} e => by
    rw [upd_ne (fun z => by rw [z, hl] at e; cases e)]
    exact e
  cases nd with
  | name w => exact kp h
  | call w os =>
    obtain ⟨t, h1, h2⟩ := h
    exact ⟨t, kp h1, kp h2⟩
  | op w os => exact kp h
def spOper (K : PySem.W.Frag) : Sp := fun vs H Q _ => ∃ (w : Str) (o : Addr) (os : List Nat), vs = [.str w, .ref o] ∧ H o = some (.lst (ni os)) ∧ os.length ≤ 1000 ∧ w.length ≤ 2000 ∧ (∀ nd, oper okS w os = some nd → ∀ a H', Ex H H' → NdAt H' a nd → Q (.ref a) H') ∧ (oper okS w os = none → ∀ H', Ex H H' → Q .non H')
theorem ok_operation (T : Tx0 w K mg A) : FnOk P w K mg base CX0 2 A.operation A.d_operation p_operation (spOper K) := by
  refine T.F_operation.ok sc_operation (fun vs H Q E h => ?_) (fun cdv Ar outer s H vs Q E hr h => ?_)
  · obtain ⟨w, o, os, rfl, _⟩ := h
    rfl
  · obtain ⟨wd, o, os, rfl, ho, hl, hwl, k, k2⟩ := h
    refine ⟨_, (pss_cons (ps_if (pt_cmpR UL.op_inW (pv 0) (pe_glob (v := .ref A.OPERATIONS) (by rfl) T.c_OPERATIONS rfl) (by rfl)) (pss_one (ps_ret (pe_ifExp (pt_cmpR op_eq (pe_callB call_len_seq (by rfl) T.m_len PySem.boot_len (pa_cons (pv 1) pa_nil)) (pe_ix UL.ix_W (pe_glob (v := .ref A.OPERATIONS) (by rfl) T.c_OPERATIONS rfl) (pv 0) (fun _ _ => rfl)) (nomark _)) (pe_tup (pa_cons (pv 0) (pa_star (pv 1) pa_nil))) pe_non))) pss_nil)
      (pss_cons (ps_if (PW.pt (pw_and (pt_val (pe_call (ok_is_name T) (hr.mono (by decide)) (by rfl) T.g_is_name T.F_is_name.kp T.b_is_name .nil pass0 (pa_cons (pv 0) pa_nil))) (pw_and1 (pt_cmpR op_le (pe_callB call_len_seq (by rfl) T.m_len PySem.boot_len (pa_cons (pv 1) pa_nil)) (pe_glob (v := .int 4) (by rfl) T.c_MOST_ARGUMENTS ⟨_, rfl⟩) (nomark _))))) (pss_one (ps_ret (pe_tup (pa_cons pe_str (pa_cons (pv 0) (pa_cons (pe_callTy call_tuple_of (by rfl) T.m_tuple (by decide +kernel) (pa_cons (pv 1) pa_nil)) pa_nil)))))) pss_nil)
      (pss_one (ps_ret pe_non)))), ?_⟩
    refine ⟨_, rfl, wd, A.OPERATIONS, opsT, rfl, rfl, T.w_OPERATIONS, _, rfl, ?_⟩
    have lni : (ni os).length = os.length := List.length_map _
    cases hlk : opsT.lookup wd with
    | some n =>
      rw [oper_at hlk] at k k2
      refine iteT ⟨_, rfl, o, _, rfl, .inl (SqL.of ho), _, rfl, wd, A.OPERATIONS, opsT, n, rfl, rfl, T.w_OPERATIONS, hlk, rfl, _, rfl, ?_⟩
      by_cases hn : (os.length : Int) = n
      · rw [show decide (V.int ((ni os).length : Int) = V.int n) = true from decide_eq_true (by rw [lni, hn])]
        exact iteT ⟨_, rfl, _, rfl, o, _, rfl, .inr (SqL.of ho), sz_of (by show (V.str wd :: (ni os ++ [])).length ≤ 100000; rw [List.append_nil, List.length_cons, lni]; omega), fun p hp => k _ (if_pos hn) p _ (Ex.new hp) (by rw [List.append_nil]; exact upd_same)⟩
      · rw [show decide (V.int ((ni os).length : Int) = V.int n) = false from decide_eq_false (fun q => hn (by rw [← lni]; exact V.int.inj q))]
        exact iteF (k2 (if_neg hn) _ (Ex.refl _))
    | none =>
      rw [oper_no hlk] at k k2
      refine iteF ⟨_, rfl, _, rfl, .inl ⟨wd, rfl, by omega⟩, fun H1 e1 => ?_⟩
      cases hk : okS wd with
      | false =>
        rw [show nm (.str wd) = false from hk]
        exact ⟨_, rfl, iteF (iteF (k2 (if_neg (fun q => by rw [hk] at q; cases q.1)) H1 e1))⟩
      | true =>
        rw [show nm (.str wd) = true from hk]
        refine ⟨_, rfl, iteT ⟨_, rfl, o, _, rfl, .inl (SqL.of (e1 _ _ ho)), _, 4, rfl, rfl, _, rfl, ?_⟩⟩
        by_cases h4 : os.length ≤ 4
        · rw [show decide (((ni os).length : Int) ≤ 4) = true from decide_eq_true (by rw [lni]; omega)]
          refine iteT ⟨_, rfl, _, rfl, o, _, rfl, .inl ⟨SqL.of (e1 _ _ ho), fun t ht => ?_⟩⟩
          refine ⟨sz_of (by show 3 ≤ 100000; decide), fun p hp => k _ (if_pos ⟨hk, h4⟩) p _ ((e1.trans (Ex.new ht)).trans (Ex.new hp)) ⟨t, upd_same, (Ex.new hp) _ _ upd_same⟩⟩
        · rw [show decide (((ni os).length : Int) ≤ 4) = false from decide_eq_false (by rw [lni]; omega)]
          exact iteF (k2 (if_neg (fun q => h4 q.2)) H1 e1)
/-! ### closing, adding -/
def es1 (it : List (Addr × Addr)) : List V := it.map fun x => V.ref x.1
def spClosed (K : PySem.W.Frag) : Sp := fun vs H Q _ => ∃ (l : Addr) (b : Bool), vs = [.ref l, .bl b] ∧ ((H l = some (.lst []) ∧ Q .non H) ∨
  ∃ (e o : Addr) (r : List V) (w : Str) (os : List Nat), H l = some (.lst (r ++ [.ref e])) ∧ H e = some (.tup [.str w, .ref o]) ∧ H o = some (.lst (ni os)) ∧ o ≠ l ∧ os.length ≤ 1000 ∧ w.length ≤ 2000 ∧
    (∀ nd, (os = [] ∨ b = true) → oper okS w os = some nd → ∀ a H', Ex (upd H l (.lst r)) H' → NdAt H' a nd → Q (.ref a) H') ∧ ((os ≠ [] ∧ b = false) ∨ oper okS w os = none → ∀ H', Ex (upd H l (.lst r)) H' → Q .non H'))
theorem ok_closed (T : Tx0 w K mg A) : FnOk P w K mg base CX0 3 A.closed A.d_closed p_closed (spClosed K) := by
  refine T.F_closed.ok sc_closed (fun vs H Q E h => ?_) (fun cdv Ar outer s H vs Q E hr h => ?_)
  · obtain ⟨l, b, rfl, _⟩ := h
    rfl
  · obtain ⟨l, b, rfl, h⟩ := h
    refine ⟨_, (pss_cons (ps_if (pt_not (pt_truth (pv 0) (fun _ => rfl))) (pss_one (ps_ret pe_non)) pss_nil)
      (pss_cons (ps_asg (pe_bm0 PySem.F.plainAttrs_list PySem.F.slot_list_pop PySem.F.type_list_pop mt_pop (pv 0)) (pg_tup (n := 2) rfl (pgs_cons (pg_name (i := 2) sc_closed.nd rfl (Or.inl rfl)) (pgs_cons (pg_name (i := 3) sc_closed.nd rfl (Or.inl rfl)) pgs_nil))))
      (pss_cons (ps_if (PW.pt (pw_and (pt_truth (pv 3) (fun _ => rfl)) (pw_and1 (pt_not (pt_val (pv 1)))))) (pss_one (ps_ret pe_non)) pss_nil)
      (pss_one (ps_ret (pe_call (ok_operation T) (hr.mono (by decide)) (by rfl) T.g_operation T.F_operation.kp T.b_operation .nil pass0 (pa_cons (pv 2) (pa_cons (pv 3) pa_nil)))))))), ?_⟩
    rcases h with ⟨hl, k⟩ | ⟨e, o, r, wd, os, hl, he, ho, hne, hz, hw, k, k2⟩
    · exact ⟨_, rfl, false, .inl ⟨_, SqL.of hl, rfl⟩, iteT k⟩
    have hel : e ≠ l := fun z => by rw [z, hl] at he; cases he
    have he1 : upd H l (.lst r) e = some (.tup [.str wd, .ref o]) := by rw [upd_ne hel]; exact he
    have ho1 : upd H l (.lst r) o = some (.lst (ni os)) := by rw [upd_ne hne]; exact ho
    refine ⟨_, rfl, true, .inl ⟨_, SqL.of hl, by simp⟩, iteF ?_⟩
    refine ⟨_, rfl, .inl ⟨rfl, _, SqL.of hl⟩, l, _, .ref e, rfl, rfl, hl, by simp, ?_⟩
    rw [List.dropLast_concat]
    refine ⟨e, _, rfl, SqT.of he1, rfl, _, _, rfl, _, _, rfl, rfl, ?_⟩
    have fin : (os = [] ∨ b = true) → tRet (tCall (spOper K) [] E0 (tCons (tVar 2) (tCons (tVar 3) tNil))) { nx := fun x H' => Q .non H', rt := Q } [some (.ref l), some (.bl b), some (.str wd), some (.ref o)] (upd H l (.lst r)) := fun hb =>
      ⟨_, rfl, _, rfl, wd, o, os, rfl, ho1, hz, hw, fun nd hop a H' e1 h1 => k nd hb hop a H' e1 h1, fun hop H' e1 => k2 (.inr hop) H' e1⟩
    cases os with
    | nil => exact ⟨_, rfl, false, .inl ⟨_, SqL.of ho1, rfl⟩, iteF (fin (.inl rfl))⟩
    | cons n os =>
      cases b with
      | true => exact ⟨_, rfl, true, .inl ⟨_, SqL.of ho1, rfl⟩, _, rfl, _, rfl, iteF (fin (.inr rfl))⟩
      | false => exact ⟨_, rfl, true, .inl ⟨_, SqL.of ho1, rfl⟩, _, rfl, _, rfl, iteT (k2 (.inl ⟨by simp, rfl⟩) _ (Ex.refl _))⟩
def spAdd (K : PySem.W.Frag) : Sp := fun vs H Q _ => ∃ (N l x : Addr) (xs : List V), vs = [.ref N, .ref l, .ref x] ∧ H N = some (.lst xs) ∧ xs.length ≤ 1000 ∧ N ≠ l ∧
  ((H l = some (.lst []) ∧ Q .non (upd H N (.lst (xs ++ [.ref x])))) ∨
   ∃ (e o : Addr) (r : List V) (w : Str) (os : List Nat), H l = some (.lst (r ++ [.ref e])) ∧ r.length ≤ 1000 ∧ H e = some (.tup [.str w, .ref o]) ∧ H o = some (.lst (ni os)) ∧ o ≠ l ∧ o ≠ N ∧ os.length ≤ 1000 ∧ Q .non (upd (upd H o (.lst (ni (os ++ [xs.length])))) N (.lst (xs ++ [.ref x]))))
theorem ok_add_node (T : Tx0 w K mg A) : FnOk P w K mg base CX0 1 A.add_node A.d_add_node p_add_node (spAdd K) := by
  refine T.F_add_node.ok sc_add_node (fun vs H Q E h => ?_) (fun cdv Ar outer s H vs Q E hr h => ?_)
  · obtain ⟨N, l, x, xs, rfl, _⟩ := h
    rfl
  · obtain ⟨N, l, x, xs, rfl, hN, hz, hNl, h⟩ := h
    refine ⟨_, (pss_cons (ps_if (pt_truth (pv 1) (fun _ => rfl)) (pss_one (ps_expr (pe_bm PySem.F.plainAttrs_list PySem.F.slot_list_append PySem.F.type_list_append mt_append (pe_ix ix_tup (pe_ix ix_list (pv 1) (pe_un un_neg pe_int) (fun _ _ => rfl)) pe_int (fun _ _ => rfl)) (pa_cons (pe_callB call_len_seq (by rfl) T.m_len PySem.boot_len (pa_cons (pv 0) pa_nil)) pa_nil)))) pss_nil)
      (pss_one (ps_expr (pe_bm PySem.F.plainAttrs_list PySem.F.slot_list_append PySem.F.type_list_append mt_append (pv 0) (pa_cons (pv 2) pa_nil))))), ?_⟩
    rcases h with ⟨hl, k⟩ | ⟨e, o, r, wd, os, hl, hr2, he, ho, hol, hoN, hz2, k⟩
    · exact ⟨_, rfl, false, .inl ⟨_, SqL.of hl, rfl⟩, iteF ⟨_, rfl, .inl ⟨rfl, _, SqL.of hN⟩, _, rfl, N, xs, _, rfl, rfl, hN, sz_lt (by omega), k⟩⟩
    · refine ⟨_, rfl, true, .inl ⟨_, SqL.of hl, by simp⟩, iteT ?_⟩
      have hN2 : upd H o (.lst (ni (os ++ [xs.length]))) N = some (.lst xs) := by rw [upd_ne hoN.symm]; exact hN
      refine ⟨_, rfl, 1, rfl, l, _, -1, .ref e, rfl, rfl, SqL.of hl, UL.last_at (List.getLast?_concat ..), e, _, 1, .ref o, rfl, rfl, SqT.of he, atI_nat (j := 1) rfl, .inl ⟨rfl, _, SqL.of ho⟩, _, rfl, N, xs, rfl, .inl (SqL.of hN), o, _, _, rfl, rfl, ho, sz_lt (by rw [show (ni os).length = os.length from List.length_map _]; omega), ?_⟩
      rw [show ni os ++ [V.int (xs.length : Int)] = ni (os ++ [xs.length]) by unfold ni; rw [List.map_append]; rfl]
      exact ⟨_, rfl, .inl ⟨rfl, _, SqL.of hN2⟩, _, rfl, N, xs, _, rfl, rfl, hN2, sz_lt (by omega), k⟩
/-! ### reading -/
def WAt (H : Hp) (x : Addr × Addr) (y : Str × List Nat) : Prop := H x.1 = some (.tup [.str y.1, .ref x.2]) ∧ H x.2 = some (.lst (ni y.2))
structure RdAt (H H' : Hp) (p N l : Addr) (ps : List (List Nat)) (s : Rd) (as : List Addr) (it : List (Addr × Addr)) (i : Nat) : Prop where
  ex : Ex H H'
  hp : H' p = some (.lst (ps.map fun q => V.str (ofL q)))
  hN : H' N = some (.lst (as.map V.ref))
  hA : Al2 (NdAt H') as s.N
  hl : H' l = some (.lst (es1 it))
  hW : Al2 (WAt H') it s.W
  nd : (p :: N :: l :: it.map (·.2)).Nodup
  fr : ∀ a ∈ p :: N :: l :: it.map (·.2), H a = none
  zN : as.length ≤ i
  zW : it.length ≤ i
  zo : ∀ y ∈ s.W, y.2.length ≤ i
section
variable {H H' H'' : Hp} {p N l : Addr} {ps : List (List Nat)} {s : Rd} {as : List Addr} {it : List (Addr × Addr)} {i : Nat}
theorem WAt.mono {x : Addr × Addr} {y : Str × List Nat} (e : Ex H' H'') (h : WAt H' x y) : WAt H'' x y := ⟨e _ _ h.1, e _ _ h.2⟩
theorem RdAt.mono (R : RdAt H H' p N l ps s as it i) (e : Ex H' H'') : RdAt H H'' p N l ps s as it i :=
  ⟨R.ex.trans e, e _ _ R.hp, e _ _ R.hN, R.hA.imp fun _ _ h => h.mono e, e _ _ R.hl, R.hW.imp fun _ _ h => h.mono e, R.nd, R.fr, R.zN, R.zW, R.zo⟩
/-- a list is written that is none of those that wait -/
theorem WAt.put {x : Addr × Addr} {y : Str × List Nat} {q : Addr} {xs ys : List V} (hq : H' q = some (.lst xs)) (hne : x.2 ≠ q) (h : WAt H' x y) : WAt (upd H' q (.lst ys)) x y :=
  ⟨by rw [upd_ne (fun z => by rw [← z, h.1] at hq; cases hq)]; exact h.1, by rw [upd_ne hne]; exact h.2⟩
theorem al2_put {q : Addr} {xs ys : List V} (hq : H' q = some (.lst xs)) : ∀ {it : List (Addr × Addr)} {W : Wt}, (∀ x ∈ it, x.2 ≠ q) → Al2 (WAt H') it W → Al2 (WAt (upd H' q (.lst ys))) it W
  | [], [], _, .nil => .nil
  | _ :: _, _ :: _, hn, .cons h t => .cons (h.put hq (hn _ List.mem_cons_self)) (al2_put hq (fun x hx => hn x (List.mem_cons_of_mem _ hx)) t)
theorem RdAt.ne (R : RdAt H H' p N l ps s as it i) : p ≠ N ∧ p ≠ l ∧ N ≠ l ∧ ∀ x ∈ it, x.2 ≠ p ∧ x.2 ≠ N ∧ x.2 ≠ l := by
  have h := R.nd
  simp only [List.nodup_cons, List.mem_cons, List.mem_map, not_or, not_exists, not_and] at h
  obtain ⟨⟨h1, h2, h3⟩, ⟨h4, h5⟩, h6, h7⟩ := h
  exact ⟨h1, h2, h4, fun x hx => ⟨h3 x hx, h5 x hx, h6 x hx⟩⟩
theorem RdAt.pop {W : Wt} {y : Str × List Nat} (R : RdAt H H' p N l ps s as it i) (hW : s.W = W ++ [y]) :
    ∃ (it' : List (Addr × Addr)) (x : Addr × Addr), it = it' ++ [x] ∧ WAt H' x y ∧ RdAt H (upd H' l (.lst (es1 it'))) p N l ps ⟨s.N, W, s.b⟩ as it' i := by
  obtain ⟨n1, n2, n3, n4⟩ := R.ne
  have hw := R.hW
  rw [hW] at hw
  obtain ⟨it', x, rfl, h1, h2⟩ := hw.unsnoc
  refine ⟨it', x, rfl, h2, R.ex.mut (R.fr l (by simp)), by rw [upd_ne n2]; exact R.hp, by rw [upd_ne n3]; exact R.hN, R.hA.imp fun _ _ h => h.put R.hl, upd_same, ?_, ?_, ?_, R.zN, ?_, ?_⟩
  · exact al2_put R.hl (fun x hx => (n4 x (List.mem_append_left _ hx)).2.2) h1
  · have h := R.nd
    rw [List.map_append, ← List.cons_append, ← List.cons_append, ← List.cons_append] at h
    exact (List.nodup_append.mp h).1
  · exact fun a ha => R.fr a (by rw [List.map_append, ← List.cons_append, ← List.cons_append, ← List.cons_append]; exact List.mem_append_left _ ha)
  · have := R.zW
    rw [List.length_append] at this
    omega
  · exact fun y hy => R.zo y (by rw [hW]; exact List.mem_append_left _ hy)
theorem RdAt.add {P : Program} {K : PySem.W.Frag} {x : Addr} {nd : Nd} {Q : VK} {E : XK} (R : RdAt H H' p N l ps s as it i) (hi : i < 1000) (hx : NdAt H' x nd)
    (k : ∀ H'', RdAt H H'' p N l ps ⟨s.N ++ [nd], addTop s.W s.N.length, true⟩ (as ++ [x]) it (i + 1) → Q .non H'') : spAdd K [.ref N, .ref l, .ref x] H' Q E := by
  obtain ⟨n1, n2, n3, n4⟩ := R.ne
  have hlen : s.N.length = as.length := R.hA.len.symm
  have zN := R.zN
  have zW := R.zW
  refine ⟨N, l, x, _, rfl, R.hN, by rw [List.length_map]; omega, n3, ?_⟩
  rcases List.eq_nil_or_concat s.W with e | ⟨W, ⟨w, os⟩, e⟩
  · have hw := R.hW
    rw [e] at hw
    have hit : it = [] := by cases hw; rfl
    refine .inl ⟨by rw [R.hl, hit]; rfl, k _ ⟨R.ex.mut (R.fr N (by simp)), by rw [upd_ne n1]; exact R.hp, by rw [upd_same, List.map_append]; rfl, (R.hA.imp fun _ _ h => h.put R.hN).snoc (hx.put R.hN), by rw [upd_ne n3.symm]; exact R.hl, ?_, R.nd, R.fr, ?_, by omega, ?_⟩⟩
    · rw [e, hit]
      exact .nil
    · rw [List.length_append, List.length_singleton]
      omega
    · rw [e]
      intro y hy
      cases hy
  · rw [List.concat_eq_append] at e
    have hw := R.hW
    rw [e] at hw
    obtain ⟨it', ⟨ea, o⟩, rfl, h1, h2⟩ := hw.unsnoc
    have ho := n4 (ea, o) (by simp)
    have hzo := R.zo (w, os) (by rw [e]; simp)
    have hN2 : upd H' o (.lst (ni (os ++ [as.length]))) N = some (.lst (as.map V.ref)) := by rw [upd_ne ho.2.1.symm]; exact R.hN
    have h2a : H' ea = some (.tup [.str w, .ref o]) := h2.1
    have h2b : H' o = some (.lst (ni os)) := h2.2
    refine .inr ⟨ea, o, es1 it', w, os, by rw [R.hl]; unfold es1; rw [List.map_append]; rfl, ?_, h2a, h2b, ho.2.2, ho.2.1, by show os.length ≤ 1000; have : os.length ≤ i := hzo; omega, ?_⟩
    · rw [List.length_append, List.length_singleton] at zW
      rw [show (es1 it').length = it'.length from List.length_map _]
      omega
    rw [List.length_map]
    refine k _ ⟨(R.ex.mut (R.fr o (by simp))).mut (R.fr N (by simp)), ?_, ?_, ?_, ?_, ?_, R.nd, R.fr, ?_, by omega, ?_⟩
    · rw [upd_ne n1, upd_ne ho.1.symm]
      exact R.hp
    · rw [upd_same, List.map_append]
      rfl
    · exact ((R.hA.imp fun _ _ h => (h.put h2b).put hN2)).snoc ((hx.put h2b).put hN2)
    · rw [upd_ne n3.symm, upd_ne ho.2.2.symm]
      exact R.hl
    · rw [e, addTop_snoc, hlen]
      refine Al2.snoc ?_ ⟨?_, ?_⟩
      · have nd := R.nd
        rw [List.map_append, ← List.cons_append, ← List.cons_append, ← List.cons_append] at nd
        have nd2 := (List.nodup_append.mp nd).2.2
        refine al2_put hN2 (fun x hx => (n4 x (List.mem_append_left _ hx)).2.1) (al2_put h2b (fun x hx => ?_) h1)
        exact nd2 x.2 (by simp only [List.mem_cons, List.mem_map]; exact .inr (.inr (.inr ⟨x, hx, rfl⟩))) o (by simp)
      · show upd (upd H' o _) N _ ea = _
        rw [upd_ne (fun z => by have q := R.hN; rw [← z, h2a] at q; cases q), upd_ne (fun z => by rw [← z, h2a] at h2b; cases h2b)]
        exact h2a
      · show upd (upd H' o _) N _ o = _
        rw [upd_ne ho.2.1, upd_same]
    · rw [List.length_append, List.length_singleton]
      omega
    · rw [e, addTop_snoc]
      intro y hy
      rcases List.mem_append.mp hy with h | h
      · have := R.zo y (by rw [e]; exact List.mem_append_left _ h)
        omega
      · rw [List.mem_singleton.mp h]
        show (os ++ [s.N.length]).length ≤ i + 1
        have : os.length ≤ i := hzo
        rw [List.length_append, List.length_singleton]
        omega
theorem RdAt.push {w : Str} {o e : Addr} (R : RdAt H H' p N l ps s as it i) (ho : H' o = none) (he : upd H' o (.lst []) e = none) :
    RdAt H (upd (upd (upd H' o (.lst [])) e (.tup [.str w, .ref o])) l (.lst (es1 it ++ [.ref e]))) p N l ps ⟨s.N, s.W ++ [(w, [])], false⟩ as (it ++ [(e, o)]) (i + 1) := by
  have R2 := (R.mono (Ex.new (o := .lst []) ho)).mono (Ex.new (o := .tup [.str w, .ref o]) he)
  obtain ⟨n1, n2, n3, n4⟩ := R2.ne
  have hz : ∀ {a : Addr} {u : HO}, H' a = some u → a ≠ o := fun h z => by rw [z, ho] at h; cases h
  have hoe : o ≠ e := fun z => by rw [← z, upd_same] at he; cases he
  have hw1 : WAt (upd (upd H' o (.lst [])) e (.tup [.str w, .ref o])) (e, o) (w, []) := ⟨upd_same, by show upd _ e _ o = _; rw [upd_ne hoe, upd_same]; rfl⟩
  have zN := R.zN
  have zW := R.zW
  refine ⟨R2.ex.mut (R.fr l (by simp)), by rw [upd_ne n2]; exact R2.hp, by rw [upd_ne n3]; exact R2.hN, R2.hA.imp fun _ _ h => h.put R2.hl, by rw [upd_same]; unfold es1; rw [List.map_append]; rfl, ?_, ?_, ?_, by omega, ?_, ?_⟩
  · exact (al2_put R2.hl (fun x hx => (n4 x hx).2.2) R2.hW).snoc (hw1.put R2.hl (hz R.hl).symm)
  · rw [List.map_append, ← List.cons_append, ← List.cons_append, ← List.cons_append]
    refine List.nodup_append.mpr ⟨R.nd, by simp, fun a ha b hb => ?_⟩
    rw [List.mem_singleton.mp (show b ∈ [o] from hb)]
    simp only [List.mem_cons, List.mem_map] at ha
    rcases ha with rfl | rfl | rfl | ⟨x, hx, rfl⟩
    · exact hz R.hp
    · exact hz R.hN
    · exact hz R.hl
    · obtain ⟨y, _, hy⟩ : ∃ y, y ∈ s.W ∧ WAt H' x y := by
        obtain ⟨j, hj⟩ := List.getElem?_of_mem hx
        obtain ⟨y, h1, h2⟩ := R.hW.get j x hj
        exact ⟨y, List.mem_of_getElem? h1, h2⟩
      exact hz hy.2
  · intro a ha
    rw [List.map_append, ← List.cons_append, ← List.cons_append, ← List.cons_append] at ha
    rcases List.mem_append.mp ha with h | h
    · exact R.fr a h
    · rw [List.mem_singleton.mp (show a ∈ [o] from h)]
      exact R.ex.free' ho
  · rw [List.length_append, List.length_singleton]
    omega
  · intro y hy
    rcases List.mem_append.mp hy with h | h
    · have := R.zo y h
      omega
    · rw [List.mem_singleton.mp h]
      exact Nat.zero_le _
end
end
end K20

set_option Elab.async false
set_option linter.all false
set_option maxRecDepth 100000
namespace K20
open PySem PySem.Spec PyProof.Rows L2 Evl TL UL StX
section
variable {P : Program} {w : World} {K : PySem.W.Frag} {mg : Str → Option Value} {base : Heap} {A : Adr}
def finR (o : Option Rd) : Option (List Nd) := match o with
  | some ⟨ns, [], true⟩ => some ns
  | _ => none
theorem finR_some {o : Option Rd} {ns : List Nd} : finR o = some ns ↔ o = some ⟨ns, [], true⟩ := by
  constructor
  · intro h
    cases o with
    | none => cases h
    | some s =>
      obtain ⟨N, W, b⟩ := s
      cases W with
      | cons x r => cases h
      | nil =>
        cases b with
        | false => cases h
        | true =>
          have h : some N = some ns := h
          rw [Option.some.inj h]
  · rintro rfl
    rfl
theorem addTop_ws {W : Wt} {n m : Nat} (h : ∀ y ∈ W, y.1.length ≤ m) : ∀ y ∈ addTop W n, y.1.length ≤ m := by
  rcases List.eq_nil_or_concat W with e | ⟨V, ⟨w, os⟩, e⟩
  · rw [e]
    intro y hy
    cases hy
  · rw [List.concat_eq_append] at e
    subst e
    rw [addTop_snoc]
    intro y hy
    rcases List.mem_append.mp hy with h1 | h1
    · exact h y (List.mem_append_left _ h1)
    · rw [List.mem_singleton.mp h1]
      exact h (w, os) (by simp)
def spNodesOf : Sp := fun vs H Q _ => ∃ (z : Str), vs = [.str z] ∧ z.length ≤ 400 ∧ (∀ ns, rrun okS ⟨[], [], false⟩ (cutGo [] (tl z)) = some ⟨ns, [], true⟩ →
  ∀ N as H', Ex H H' → H N = none → H' N = some (.lst (as.map V.ref)) → Al2 (NdAt H') as ns → Q (.ref N) H') ∧ ((∀ ns, rrun okS ⟨[], [], false⟩ (cutGo [] (tl z)) ≠ some ⟨ns, [], true⟩) → ∀ H', Ex H H' → Q .non H')
theorem ok_nodes_of (T : Tx0 w K mg A) : FnOk P w K mg base CX0 4 A.nodes_of A.d_nodes_of p_nodes_of spNodesOf := by
  refine T.F_nodes_of.ok sc_nodes_of (fun vs H Q E h => ?_) (fun cdv Ar outer s H vs Q E hr h => ?_)
  · obtain ⟨z, rfl, _⟩ := h
    rfl
  · obtain ⟨z, rfl, hz, k, k2⟩ := h
    refine ⟨_, (pss_cons (ps_set (i := 1) sc_nodes_of.nd rfl (Or.inl rfl) (pe_lst pa_nil))
      (pss_cons (ps_set (i := 2) sc_nodes_of.nd rfl (Or.inl rfl) (pe_lst pa_nil))
      (pss_cons (ps_set (i := 3) sc_nodes_of.nd rfl (Or.inl rfl) pe_bl)
      (pss_cons (ps_for PassesOwn.never rfl (pi_list (pe_call (ok_cut T) (hr.mono (by decide)) (by rfl) T.g_cut T.F_cut.kp T.b_cut .nil pass0 (pa_cons (pv 0) pa_nil))) (pg_name (i := 4) sc_nodes_of.nd rfl (Or.inl rfl)) (pss_one (ps_if (pt_cmpR op_eq (pv 4) pe_str (nomark _)) (pss_cons (ps_if (PW.pt (pw_or (pt_not (pt_truth (pv 2) (fun _ => rfl))) (pw_or1 (pt_not (pt_val (pv 3)))))) (pss_one (ps_ret pe_non)) pss_nil)
          (pss_one (ps_set (i := 3) sc_nodes_of.nd rfl (Or.inl rfl) pe_bl))) (pss_one (ps_if (pt_cmpR op_eq (pv 4) pe_str (nomark _)) (pss_cons (ps_set (i := 5) sc_nodes_of.nd rfl (Or.inl rfl) (pe_call (ok_closed T) (hr.mono (by decide)) (by rfl) T.g_closed T.F_closed.kp T.b_closed .nil pass0 (pa_cons (pv 2) (pa_cons (pv 3) pa_nil))))
            (pss_cons (ps_if (pt_cmpR op_isN (pv 5) pe_non (nomark _)) (pss_one (ps_ret pe_non)) pss_nil)
            (pss_cons (ps_expr (pe_call (ok_add_node T) (hr.mono (by decide)) (by rfl) T.g_add_node T.F_add_node.kp T.b_add_node .nil pass0 (pa_cons (pv 1) (pa_cons (pv 2) (pa_cons (pv 5) pa_nil)))))
            (pss_one (ps_set (i := 3) sc_nodes_of.nd rfl (Or.inl rfl) pe_bl))))) (pss_one (ps_if (pt_val (pv 3)) (pss_one (ps_ret pe_non)) (pss_one (ps_if (pt_cmpR op_eq (pe_ix ix_str (pv 4) (pe_un un_neg pe_int) (fun _ _ => rfl)) pe_str (nomark _)) (pss_one (ps_expr (pe_bm PySem.F.plainAttrs_list PySem.F.slot_list_append PySem.F.type_list_append mt_append (pv 2) (pa_cons (pe_tup (pa_cons (pe_slice sl_str (pv 4) po_none (po_some (pe_un un_neg pe_int))) (pa_cons (pe_lst pa_nil) pa_nil))) pa_nil)))) (pss_one (ps_if (pt_val (pe_call (ok_is_name T) (hr.mono (by decide)) (by rfl) T.g_is_name T.F_is_name.kp T.b_is_name .nil pass0 (pa_cons (pv 4) pa_nil))) (pss_cons (ps_expr (pe_call (ok_add_node T) (hr.mono (by decide)) (by rfl) T.g_add_node T.F_add_node.kp T.b_add_node .nil pass0 (pa_cons (pv 1) (pa_cons (pv 2) (pa_cons (pe_tup (pa_cons pe_str (pa_cons (pv 4) pa_nil))) pa_nil)))))
                  (pss_one (ps_set (i := 3) sc_nodes_of.nd rfl (Or.inl rfl) pe_bl))) (pss_one (ps_ret pe_non)))))))))))))
      (pss_one (ps_ret (pe_ifExp (PW.pt (pw_and (pt_val (pv 3)) (pw_and1 (pt_not (pt_truth (pv 2) (fun _ => rfl)))))) (pv 1) pe_non))))))), ?_⟩
    refine ⟨Nat.zero_le _, fun N hNn => ⟨Nat.zero_le _, fun l hln => ?_⟩⟩
    have hlN : l ≠ N := fun z => by rw [z, upd_same] at hln; cases hln
    refine ⟨_, rfl, z, rfl, by omega, fun p H1 e1 hp1 hpn => ?_⟩
    have hps : ∀ q ∈ cutGo [] (tl z), q ≠ [] ∧ q.length ≤ 400 := fun q hq => by
      have := cut_mem (tl z) [] q hq
      rw [← len_tl, List.length_nil] at this
      exact ⟨this.1, by omega⟩
    have hcnt : (cutGo [] (tl z)).length ≤ 801 := by
      have := cut_count (tl z) []
      rw [← len_tl] at this
      omega
    generalize cutGo [] (tl z) = ps at k k2 hp1 hps hcnt
    generalize hrun : rrun okS ⟨[], [], false⟩ ps = F at k k2
    have eN := Ex.new (o := .lst []) hNn
    have el := Ex.new (o := .lst []) hln
    have hlH : H l = none := by rw [upd_ne hlN] at hln; exact hln
    have hpN : p ≠ N := fun z => by rw [z, upd_ne hlN.symm, upd_same] at hpn; cases hpn
    have hpl : p ≠ l := fun z => by rw [z, upd_same] at hpn; cases hpn
    have hpH : H p = none := by rw [upd_ne hpl, upd_ne hpN] at hpn; exact hpn
    have R0 : RdAt H H1 p N l ps ⟨[], [], false⟩ [] [] 0 := ⟨(eN.trans el).trans e1, hp1, e1 _ _ (el _ _ upd_same), .nil, e1 _ _ upd_same, .nil, by simp [hpN, hpl, hlN.symm], fun a ha => by
      simp only [List.map_nil, List.mem_cons, List.not_mem_nil, or_false] at ha
      rcases ha with rfl | rfl | rfl
      · exact hpH
      · exact hNn
      · exact hlH, Nat.le_refl _, Nat.le_refl _, fun y hy => by cases hy⟩
    refine ⟨p, rfl, ⟨_, SqL.of hp1⟩, ?_⟩
    refine for_it (walk_list (xs := ps.map fun q => V.str (ofL q))) (fun i σ' H' => ∃ (s : Rd) (as : List Addr) (it : List (Addr × Addr)) (v4 v5 : Option V), σ' = [some (.str z), some (.ref N), some (.ref l), some (.bl s.b), v4, v5] ∧ RdAt H H' p N l ps s as it i ∧ rrun okS s (ps.drop i) = F ∧ ∀ y ∈ s.W, y.1.length ≤ 2000) ⟨_, [], [], none, none, rfl, R0, hrun, (fun y hy => nomatch hy)⟩ (fun i σ' H' _ ⟨_, _, _, _, _, _, R, _⟩ => SqL.of R.hp) ?_ ?_
    · rintro i x σ' H2 H3 hi ⟨s, as, it, v4, v5, rfl, R, hrr, hws⟩ ⟨rfl, hx⟩
      rw [List.length_map] at hi
      obtain ⟨pc, hpc, rfl⟩ : ∃ pc, ps[i]? = some pc ∧ V.str (ofL pc) = x := by
        rw [List.getElem?_map] at hx
        exact Option.map_eq_some_iff.mp hx
      have hmem := hps pc (List.mem_of_getElem? hpc)
      have hd : ps.drop i = pc :: ps.drop (i + 1) := by
        obtain ⟨h1, h2⟩ := List.getElem?_eq_some_iff.mp hpc
        rw [List.drop_eq_getElem_cons h1, h2]
      rw [hd, rrun] at hrr
      have bad : rstep okS s pc = none → ∀ H', Ex H H' → Q .non H' := fun hs H' e' => k2 (fun ns q => by
        rw [hs] at hrr
        rw [← hrr] at q
        cases q) H' e'
      have good_ : ∀ s', rstep okS s pc = some s' → rrun okS s' (ps.drop (i + 1)) = F := fun s' hs => by
        rw [hs] at hrr
        exact hrr
      have hlen : (ofL pc).length = pc.length := by rw [len_tl, tl_ofL]
      refine ⟨_, rfl, rfl, _, rfl, ?_⟩
      rw [show decide (V.str (ofL pc) = V.str ",") = decide (pc = [44]) from piece_eq pc 44]
      by_cases h44 : pc = [44]
      · subst h44
        rw [decide_eq_true (rfl : [44] = [44])]
        refine iteT ?_
        have hlW := R.hW.len
        by_cases hw : s.W = []
        · have hit : it = [] := List.eq_nil_of_length_eq_zero (by rw [hlW, hw]; rfl)
          refine ⟨_, rfl, false, .inl ⟨_, SqL.of R.hl, by rw [hit]; rfl⟩, iteT (bad ?_ H3 R.ex)⟩
          unfold rstep
          rw [if_pos rfl, if_pos (.inl hw)]
        have hne : it ≠ [] := fun z => hw (List.eq_nil_of_length_eq_zero (by rw [← hlW, z]; rfl))
        refine ⟨_, rfl, true, .inl ⟨_, SqL.of R.hl, by cases it with | nil => exact absurd rfl hne | cons a r => rfl⟩, iteF ?_⟩
        refine ⟨_, rfl, s.b, rfl, ?_⟩
        cases hb : s.b with
        | false =>
          refine iteT (bad ?_ H3 R.ex)
          unfold rstep
          rw [if_pos rfl, if_pos (.inr hb)]
        | true =>
          have hst : rstep okS s [44] = some ⟨s.N, s.W, false⟩ := by
            unfold rstep
            rw [if_pos rfl, if_neg (by rintro (q | q); exact hw q; rw [hb] at q; cases q)]
          refine iteF ⟨_, as, it, _, _, rfl, ?_, good_ _ hst, hws⟩
          exact ⟨R.ex, R.hp, R.hN, R.hA, R.hl, R.hW, R.nd, R.fr, Nat.le_succ_of_le R.zN, Nat.le_succ_of_le R.zW, fun y hy => Nat.le_succ_of_le (R.zo y hy)⟩
      rw [decide_eq_false h44]
      refine iteF ⟨_, rfl, rfl, _, rfl, ?_⟩
      rw [show decide (V.str (ofL pc) = V.str ")") = decide (pc = [41]) from piece_eq pc 41]
      by_cases h41 : pc = [41]
      · subst h41
        rw [decide_eq_true (rfl : [41] = [41])]
        refine iteT ?_
        have hlW := R.hW.len
        rcases List.eq_nil_or_concat s.W with hw | ⟨W, ⟨w1, os⟩, hw⟩
        · have hit : it = [] := List.eq_nil_of_length_eq_zero (by rw [hlW, hw]; rfl)
          refine ⟨_, rfl, _, rfl, l, s.b, rfl, .inl ⟨by rw [R.hl, hit]; rfl, ?_⟩⟩
          refine ⟨_, rfl, rfl, _, rfl, ?_⟩
          rw [decide_eq_true (rfl : V.non = V.non)]
          refine iteT (bad ?_ H3 R.ex)
          unfold rstep
          rw [if_neg (by simp), if_pos rfl, hw]
          rfl
        rw [List.concat_eq_append] at hw
        obtain ⟨it', ⟨e, o⟩, rfl, hwa, R2⟩ := R.pop hw
        have hwe : H3 e = some (.tup [.str w1, .ref o]) := hwa.1
        have hwo : H3 o = some (.lst (ni os)) := hwa.2
        have hol := (R.ne.2.2.2 (e, o) (by simp)).2.2
        have hzo := R.zo (w1, os) (by rw [hw]; simp)
        have hzw := hws (w1, os) (by rw [hw]; simp)
        have hstep : rstep okS s [41] = if os ≠ [] ∧ s.b = false then none else match oper okS w1 os with
            | none => none
            | some nd => some ⟨s.N ++ [nd], addTop W s.N.length, true⟩ := by
          unfold rstep
          rw [if_neg (by simp), if_pos rfl, hw, List.getLast?_concat, List.dropLast_concat]
          try rfl
        refine ⟨_, rfl, _, rfl, l, s.b, rfl, .inr ⟨e, o, es1 it', w1, os, by rw [R.hl]; unfold es1; rw [List.map_append]; rfl, hwe, hwo, hol, by have : os.length ≤ i := hzo; omega, hzw, fun nd hb hop a H4 e4 ha => ?_, fun hno H4 e4 => ?_⟩⟩
        · refine ⟨_, rfl, rfl, _, rfl, ?_⟩
          rw [decide_eq_false (show ¬ V.ref a = V.non by intro z; cases z)]
          refine iteF ⟨_, rfl, _, rfl, _, rfl, ?_⟩
          dsimp only [tNil]
          have hst : rstep okS s [41] = some ⟨s.N ++ [nd], addTop W s.N.length, true⟩ := by
            rw [hstep, if_neg (by rintro ⟨q1, q2⟩; rcases hb with q | q; exact q1 q; rw [q] at q2; cases q2), hop]
          refine (R2.mono e4).add (P := P) (by omega) ha fun H5 R5 => ?_
          exact ⟨_, _, _, _, _, rfl, R5, good_ _ hst, addTop_ws fun y hy => hws y (by rw [hw]; exact List.mem_append_left _ hy)⟩
        · refine ⟨_, rfl, rfl, _, rfl, ?_⟩
          rw [decide_eq_true (rfl : V.non = V.non)]
          refine iteT (bad ?_ H4 (R2.mono e4).ex)
          rw [hstep]
          rcases hno with h | h
          · rw [if_pos h]
          · rw [h]
            split <;> rfl
      rw [decide_eq_false h41]
      refine iteF ?_
      refine ⟨_, rfl, s.b, rfl, ?_⟩
      cases hb : s.b with
      | true =>
        refine iteT (bad ?_ H3 R.ex)
        unfold rstep
        rw [if_neg h44, if_neg h41, if_pos hb]
      | false =>
      refine iteF ?_
      have hbn : ¬ s.b = true := by rw [hb]; exact Bool.false_ne_true
      obtain ⟨r, c, rfl⟩ : ∃ r c, pc = r ++ [c] := by
        rcases List.eq_nil_or_concat pc with h | ⟨r, c, h⟩
        · exact absurd h hmem.1
        · exact ⟨r, c, by rw [h, List.concat_eq_append]⟩
      have hz1 : (ofL (r ++ [c])).length ≤ sizeLine := sz_of (by have := hmem.2; omega)
      refine ⟨_, rfl, 1, rfl, ofL (r ++ [c]), -1, c, rfl, rfl, hz1, by rw [show (ofL (r ++ [c])).cps.toList = r ++ [c] from tl_ofL _]; exact UL.last_at (List.getLast?_concat ..), rfl, _, rfl, ?_⟩
      rw [show decide (V.str ⟨#[c]⟩ = V.str "(") = decide (c = 40) from sgn_eq c 40]
      by_cases hc : c = 40
      · subst hc
        rw [decide_eq_true (rfl : 40 = 40)]
        refine iteT ?_
        have hst : rstep okS s (r ++ [40]) = some ⟨s.N, s.W ++ [(ofL r, [])], s.b⟩ := by
          unfold rstep
          rw [if_neg h44, if_neg h41, if_neg hbn, if_pos (List.getLast?_concat ..), List.dropLast_concat]
        rw [hb] at hst
        refine ⟨_, rfl, .inl ⟨rfl, _, SqL.of R.hl⟩, _, rfl, 1, rfl, _, rfl, _, rfl, hz1, Nat.zero_le _, fun o ho => ⟨sz_of (by show 2 ≤ 100000; decide), fun e he => ?_⟩⟩
        have R2 := R.push (w := ofL r) ho he
        rw [show cutS (ofL (r ++ [40])) none (some (-1)) = ofL r by rw [UL.cut_last, List.dropLast_concat]]
        have hl3 : upd (upd H3 o (.lst [])) e (.tup [.str (ofL r), .ref o]) l = some (.lst (es1 it)) := ((R.mono (Ex.new (o := .lst []) ho)).mono (Ex.new (o := .tup [.str (ofL r), .ref o]) he)).hl
        refine ⟨l, _, _, rfl, rfl, hl3, sz_lt (by rw [show (es1 it).length = it.length from List.length_map _]; have := R.zW; omega), _, as, it ++ [(e, o)], _, _, rfl, R2, good_ _ hst, fun y hy => ?_⟩
        rcases List.mem_append.mp hy with h | h
        · exact hws y h
        · rw [List.mem_singleton.mp h]
          show (ofL r).length ≤ 2000
          have := hmem.2
          rw [List.length_append, List.length_singleton] at this
          rw [len_tl, tl_ofL]
          omega
      · have hl40 : (r ++ [c]).getLast? ≠ some 40 := fun z => hc (by rw [List.getLast?_concat] at z; exact Option.some.inj z)
        rw [decide_eq_false hc]
        refine iteF ?_
        refine ⟨_, rfl, _, rfl, .inl ⟨_, rfl, by have := hmem.2; omega⟩, fun H4 e4 => ?_⟩
        cases hk : okS (ofL (r ++ [c])) with
        | true =>
          rw [show nm (.str (ofL (r ++ [c]))) = true from hk]
          have hst : rstep okS s (r ++ [c]) = some ⟨s.N ++ [.name (ofL (r ++ [c]))], addTop s.W s.N.length, true⟩ := by
            unfold rstep
            rw [if_neg h44, if_neg h41, if_neg hbn, if_neg hl40, if_pos hk]
          refine ⟨_, rfl, iteT ⟨_, rfl, _, rfl, _, rfl, sz_of (by show 2 ≤ 100000; decide), fun a ha => ?_⟩⟩
          dsimp only [tNil]
          refine ((R.mono e4).mono (Ex.new ha)).add (P := P) (nd := .name (ofL (r ++ [c]))) (by omega) upd_same fun H5 R5 => ?_
          exact ⟨_, _, _, _, _, rfl, R5, good_ _ hst, addTop_ws hws⟩
        | false =>
          rw [show nm (.str (ofL (r ++ [c]))) = false from hk]
          refine ⟨_, rfl, iteF (bad ?_ H4 (R.mono e4).ex)⟩
          unfold rstep
          rw [if_neg h44, if_neg h41, if_neg hbn, if_neg hl40, if_neg (by rw [hk]; exact Bool.false_ne_true)]
    · rintro σ' H2 ⟨s, as, it, v4, v5, rfl, R, hrr, _⟩
      rw [List.length_map, List.drop_length] at hrr
      have hrr : some s = F := hrr
      have hlW := R.hW.len
      obtain ⟨N0, W0, b0⟩ := s
      refine ⟨_, rfl, b0, rfl, ?_⟩
      cases b0 with
      | false => exact iteF (iteF (k2 (fun ns q => by rw [← hrr] at q; cases q) H2 R.ex))
      | true =>
        cases W0 with
        | cons x r =>
          have hne : it ≠ [] := fun z => by rw [z] at hlW; cases hlW
          exact iteT ⟨_, rfl, true, .inl ⟨_, SqL.of R.hl, by cases it with | nil => exact absurd rfl hne | cons a r => rfl⟩, iteF (k2 (fun ns q => by rw [← hrr] at q; cases q) H2 R.ex)⟩
        | nil =>
          have hit : it = [] := List.eq_nil_of_length_eq_zero (by rw [hlW]; rfl)
          exact iteT ⟨_, rfl, false, .inl ⟨_, SqL.of R.hl, by rw [hit]; rfl⟩, iteT ⟨_, rfl, k N0 hrr.symm N as H2 R.ex hNn R.hN R.hA⟩⟩
end
end K20

set_option Elab.async false
set_option linter.all false
set_option maxRecDepth 100000
namespace K20
open PySem PySem.Spec PyProof.Rows L2 Evl TL UL StX
section
variable {P : Program} {w : World} {K : PySem.W.Frag} {mg : Str → Option Value} {base : Heap} {A : Adr}
/-! ### operands, ranges -/
theorem no_name : opsT.lookup ("name" : Str) = none := by decide +kernel
theorem no_call : opsT.lookup ("call" : Str) = none := by decide +kernel
theorem opw_ne {w : Str} {os : List Nat} (h : WfNd (.op w os)) : w ≠ "name" ∧ w ≠ "call" := by
  have h : opsT.lookup w = some (os.length : Int) := h
  exact ⟨(fun z => by rw [z, no_name] at h; cases h), (fun z => by rw [z, no_call] at h; cases h)⟩
theorem str_eqb (a b : Str) : decide (V.str a = V.str b) = decide (a = b) := decide_eq_decide.mpr ⟨fun h => by injection h, fun h => by rw [h]⟩
theorem ni_len (os : List Nat) : (ni os).length = os.length := List.length_map _
def spOpsOf : Sp := fun vs H Q _ => ∃ a nd, vs = [.ref a] ∧ NdAt H a nd ∧ WfNd nd ∧ ∀ p H', Ex H H' → H' p = some (.tup (ni (opsOf nd))) → Q (.ref p) H'
theorem ok_operands_of (T : Tx0 w K mg A) : FnOk P w K mg base CX0 1 A.operands_of A.d_operands_of p_operands_of spOpsOf := by
  refine T.F_operands_of.ok sc_operands_of (fun vs H Q E h => ?_) (fun cdv Ar outer s H vs Q E hr h => ?_)
  · obtain ⟨a, nd, rfl, _⟩ := h
    rfl
  · obtain ⟨a, nd, rfl, ha, hw, k⟩ := h
    refine ⟨_, (pss_cons (ps_if (pt_cmpR op_eq (pe_ix ix_tup (pv 0) pe_int (fun _ _ => rfl)) pe_str (nomark _)) (pss_one (ps_ret (pe_tup pa_nil))) pss_nil)
      (pss_cons (ps_if (pt_cmpR op_eq (pe_ix ix_tup (pv 0) pe_int (fun _ _ => rfl)) pe_str (nomark _)) (pss_one (ps_ret (pe_ix ix_tup (pv 0) pe_int (fun _ _ => rfl)))) pss_nil)
      (pss_one (ps_ret (pe_slice sl_tup (pv 0) (po_some pe_int) po_none))))), ?_⟩
    cases nd with
    | name wd =>
      have h : H a = some (.tup [.str "name", .str wd]) := ha
      refine ⟨_, rfl, a, _, 0, .str "name", rfl, rfl, SqT.of h, atI_nat (j := 0) rfl, rfl, _, rfl, ?_⟩
      rw [str_eqb, decide_eq_true rfl]
      exact iteT ⟨Nat.zero_le _, fun p hp => k p _ (Ex.new hp) upd_same⟩
    | call wd os =>
      obtain ⟨t, h, ht⟩ := ha
      refine ⟨_, rfl, a, _, 0, .str "call", rfl, rfl, SqT.of h, atI_nat (j := 0) rfl, rfl, _, rfl, ?_⟩
      rw [str_eqb, decide_eq_false (by decide +kernel)]
      refine iteF ⟨_, rfl, a, _, 0, .str "call", rfl, rfl, SqT.of h, atI_nat (j := 0) rfl, rfl, _, rfl, ?_⟩
      rw [str_eqb, decide_eq_true rfl]
      exact iteT ⟨_, rfl, a, _, 2, .ref t, rfl, rfl, SqT.of h, atI_nat (j := 2) rfl, k t _ (Ex.refl H) ht⟩
    | op wd os =>
      have h : H a = some (.tup (.str wd :: ni os)) := ha
      obtain ⟨n1, n2⟩ := opw_ne hw
      refine ⟨_, rfl, a, _, 0, .str wd, rfl, rfl, SqT.of h, atI_nat (j := 0) rfl, rfl, _, rfl, ?_⟩
      rw [str_eqb, decide_eq_false n1]
      refine iteF ⟨_, rfl, a, _, 0, .str wd, rfl, rfl, SqT.of h, atI_nat (j := 0) rfl, rfl, _, rfl, ?_⟩
      rw [str_eqb, decide_eq_false n2]
      refine iteF ⟨_, rfl, 1, rfl, a, _, rfl, SqT.of h, fun z => ?_, fun p hp => k p _ (Ex.new hp) (by rw [upd_same, show cutV (V.str wd :: ni os) (some 1) none = (V.str wd :: ni os).drop 1 from UL.cut_from _ 1]; rfl)⟩
      have z1 := z.1
      rw [show HT.sIx (V.str wd :: ni os).length 0 (some 1) = min 1 (V.str wd :: ni os).length from HT.sIx_nat _ 0 1, List.length_cons] at z1
      omega
def spFirsts : Sp := fun vs H Q _ => ∃ N as ns, vs = [.ref N] ∧ H N = some (.lst (as.map V.ref)) ∧ Al2 (NdAt H) as ns ∧ WfN ns ∧ ns.length ≤ 1000 ∧ ∀ p H', Ex H H' → H' p = some (.lst (ni (firstsL ns))) → H p = none → Q (.ref p) H'
theorem ok_firsts_of (T : Tx0 w K mg A) : FnOk P w K mg base CX0 2 A.firsts_of A.d_firsts_of p_firsts_of spFirsts := by
  refine T.F_firsts_of.ok sc_firsts_of (fun vs H Q E h => ?_) (fun cdv Ar outer s H vs Q E hr h => ?_)
  · obtain ⟨N, as, ns, rfl, _⟩ := h
    rfl
  · obtain ⟨N, as, ns, rfl, hN, hA, hwf, hz, k⟩ := h
    refine ⟨_, (pss_cons (ps_set (i := 1) sc_firsts_of.nd rfl (Or.inl rfl) (pe_lst pa_nil))
      (pss_cons (ps_for PassesOwn.never rfl (pi_enum (by rfl) T.m_enumerate (pa_cons (pv 0) pa_nil)) (pg_tup (n := 2) rfl (pgs_cons (pg_name (i := 2) sc_firsts_of.nd rfl (Or.inl rfl)) (pgs_cons (pg_name (i := 3) sc_firsts_of.nd rfl (Or.inl rfl)) pgs_nil))) (pss_cons (ps_set (i := 4) sc_firsts_of.nd rfl (Or.inl rfl) (pe_call (ok_operands_of T) (hr.mono (by decide)) (by rfl) T.g_operands_of T.F_operands_of.kp T.b_operands_of .nil pass0 (pa_cons (pv 3) pa_nil)))
        (pss_one (ps_expr (pe_bm PySem.F.plainAttrs_list PySem.F.slot_list_append PySem.F.type_list_append mt_append (pv 1) (pa_cons (pe_ifExp (pt_truth (pv 4) (fun _ => rfl)) (pe_ix ix_list (pv 1) (pe_ix ix_tup (pv 4) pe_int (fun _ _ => rfl)) (fun _ _ => rfl)) (pv 2)) pa_nil))))))
      (pss_one (ps_ret (pv 1))))), ?_⟩
    refine ⟨Nat.zero_le _, fun p hp => ?_⟩
    have hlen := hA.len
    refine ⟨_, rfl, N, _, rfl, SqL.of ((Ex.new hp) _ _ hN), ?_⟩
    refine for_it (walk_enum (xs := as.map V.ref)) (fun i σ' H' => ∃ v2 v3 v4, σ' = [some (.ref N), some (.ref p), v2, v3, v4] ∧ Ex H H' ∧ H' p = some (.lst (ni (firstsL (ns.take i))))) ⟨_, _, _, rfl, Ex.new hp, upd_same⟩ (fun i σ' H' _ ⟨_, _, _, _, e, _⟩ => SqL.of (e _ _ hN)) ?_ ?_
    · rintro i x σ' H1 H2 hi ⟨v2, v3, v4, rfl, e1, hL⟩ ⟨Tt, y1, y2, rfl, hT, rfl, h1, h2⟩
      rw [List.length_map] at hi
      cases h1
      obtain ⟨a, ha, rfl⟩ : ∃ a, as[i]? = some a ∧ V.ref a = y2 := by
        have h3 : (as.map V.ref)[i]? = some y2 := h2
        rw [List.getElem?_map] at h3
        exact Option.map_eq_some_iff.mp h3
      obtain ⟨nd, hnd, had⟩ := hA.get i a ha
      obtain ⟨w1, w2⟩ := hwf i nd hnd
      have e2 := Ex.new (o := .tup [.int (i : Nat), .ref a]) hT
      have hL2 := e2 _ _ hL
      have e12 := e1.trans e2
      have hTt : upd H1 Tt (.tup [.int (i : Nat), .ref a]) Tt = some (.tup [.int (i : Nat), .ref a]) := upd_same
      refine ⟨Tt, _, rfl, SqT.of hTt, rfl, _, _, rfl, _, _, rfl, rfl, ?_⟩
      refine ⟨_, rfl, a, nd, rfl, had.mono e12, w1, fun q H3 e3 hq => ?_⟩
      have hL3 := e3 _ _ hL2
      have e13 := e12.trans e3
      have hfl : (firstsL (ns.take i)).length = i := by rw [firstsL_len, List.length_take]; omega
      have htk : ns.take (i + 1) = ns.take i ++ [nd] := by rw [List.take_succ, hnd]; rfl
      have fin : ∀ n : Nat, n = fstOf (firstsL (ns.take i)) nd → upd H3 p (.lst (ni (firstsL (ns.take i)) ++ [.int (n : Int)])) p = some (.lst (ni (firstsL (ns.take (i + 1))))) := fun n e => by
        rw [upd_same, htk, firstsL_snoc, e]
        unfold ni
        rw [List.map_append]
        rfl
      have hsz : (ni (firstsL (ns.take i))).length < sizeLine := sz_lt (by rw [ni_len]; omega)
      refine ⟨_, rfl, .inl ⟨rfl, _, SqL.of hL3⟩, _, rfl, ?_⟩
      cases ho : opsOf nd with
      | nil =>
        rw [ho] at hq
        exact ⟨false, .inr (.inl ⟨_, SqT.of hq, rfl⟩), iteF ⟨_, rfl, p, _, _, rfl, rfl, hL3, hsz, _, _, _, rfl, e13.mut hp, fin i (by unfold fstOf; rw [ho, hfl])⟩⟩
      | cons n r =>
        rw [ho] at hq
        have hn : n < i := w2 n (by rw [ho]; exact List.mem_cons_self)
        have hg : (ni (firstsL (ns.take i)))[n]? = some (.int (((firstsL (ns.take i)).getD n 0 : Nat) : Int)) := by
          unfold ni
          rw [List.getElem?_map, List.getD_eq_getElem?_getD, List.getElem?_eq_getElem (by omega)]
          rfl
        exact ⟨true, .inr (.inl ⟨_, SqT.of hq, rfl⟩), iteT ⟨_, rfl, _, rfl, q, _, 0, .int (n : Int), rfl, rfl, SqT.of hq, atI_nat (j := 0) rfl, p, _, (n : Int), _, rfl, rfl, SqL.of hL3, atI_nat hg, p, _, _, rfl, rfl, hL3, hsz, _, _, _, rfl, e13.mut hp, fin _ (by unfold fstOf; rw [ho])⟩⟩
    · rintro σ' H1 ⟨v2, v3, v4, rfl, e1, hL⟩
      rw [List.length_map, hlen, List.take_length] at hL
      exact ⟨_, rfl, k p H1 e1 hL hp⟩
/-! ### the class -/
def exF (t f : Addr) : List (Str × V) := putF "_firsts" (.ref f) (putF "_nodes" (.ref t) [])
def ExAt (C : Addr) (H : Hp) (x : Addr) (ns : List Nd) : Prop := ∃ dx t f as, H x = some (.ins C dx (exF t f)) ∧ H t = some (.tup (as.map V.ref)) ∧ Al2 (NdAt H) as ns ∧ H f = some (.lst (ni (firstsL ns)))
theorem ExAt.mono {C : Addr} {H H' : Hp} {x : Addr} {ns : List Nd} (e : Ex H H') (h : ExAt C H x ns) : ExAt C H' x ns := by
  obtain ⟨dx, t, f, as, h1, h2, h3, h4⟩ := h
  exact ⟨dx, t, f, as, e _ _ h1, e _ _ h2, h3.imp fun _ _ h => h.mono e, e _ _ h4⟩
theorem NdAt.ins {C dx : Addr} {fs gs : List (Str × V)} {H : Hp} {a x : Addr} {nd : Nd} (hx : H x = some (.ins C dx fs)) (h : NdAt H a nd) : NdAt (upd H x (.ins C dx gs)) a nd := by
  have kp : ∀ {b : Addr} {ts : List V}, H b = some (.tup ts) → upd H x (.ins C dx gs) b = some (.tup ts) := fun {b ts} e => by
    rw [upd_ne (fun z => by rw [z, hx] at e; cases e)]
    exact e
  cases nd with
  | name w => exact kp h
  | call w os =>
    obtain ⟨t, h1, h2⟩ := h
    exact ⟨t, kp h1, kp h2⟩
  | op w os => exact kp h
def spExInit (C : Addr) : Sp := fun vs H Q _ => ∃ x dx N as ns, vs = [.ref x, .ref N] ∧ H x = some (.ins C dx []) ∧ H N = some (.lst (as.map V.ref)) ∧ Al2 (NdAt H) as ns ∧ WfN ns ∧ ns.length ≤ 1000 ∧ ∀ H', (∀ b o, b ≠ x → H b = some o → H' b = some o) → ExAt C H' x ns → Q .non H'
theorem ok_ex_init (T : Tx0 w K mg A) : FnOk P w K mg base CX0 3 A.ex_init A.d_ex_init p_ex_init (spExInit A.Expression) := by
  refine T.F_ex_init.ok sc_ex_init (fun vs H Q E h => ?_) (fun cdv Ar outer s H vs Q E hr h => ?_)
  · obtain ⟨x, dx, N, as, ns, rfl, _⟩ := h
    rfl
  · obtain ⟨x, dx, N, as, ns, rfl, hx, hN, hA, hwf, hz, k⟩ := h
    refine ⟨_, (pss_cons (ps_fld (pv 0) (pe_callTy call_tuple_of (by rfl) T.m_tuple (by decide +kernel) (pa_cons (pv 1) pa_nil)) rfl)
      (pss_one (ps_fld (pv 0) (pe_call (ok_firsts_of T) (hr.mono (by decide)) (by rfl) T.g_firsts_of T.F_firsts_of.kp T.b_firsts_of .nil pass0 (pa_cons (pv 1) pa_nil)) rfl))), ?_⟩
    refine ⟨_, rfl, N, _, rfl, .inl ⟨SqL.of hN, fun t ht => ?_⟩⟩
    have e1 := Ex.new (o := .tup (as.map V.ref)) ht
    have hxt : x ≠ t := fun z => by rw [← z, hx] at ht; cases ht
    refine ⟨_, rfl, x, _, dx, _, rfl, e1 _ _ hx, T.cl_Expression, T.na_Expression__nodes, (by decide), ?_⟩
    have hx1 := e1 _ _ hx
    generalize hH1 : upd H t (.tup (as.map V.ref)) = H1 at e1 hx1
    have ht1 : H1 t = some (.tup (as.map V.ref)) := by rw [← hH1, upd_same]
    have hA1 := hA.imp fun _ _ h => h.mono e1
    have hN1 := e1 _ _ hN
    have hNx : N ≠ x := fun z => by rw [z, hx1] at hN1; cases hN1
    have htx : t ≠ x := hxt.symm
    refine ⟨_, rfl, N, as, ns, rfl, by rw [upd_ne hNx]; exact hN1, hA1.imp fun _ _ h => h.ins hx1, hwf, hz, fun p H3 e3 hp hpn => ?_⟩
    have hx3 : H3 x = some (.ins A.Expression dx (putF "_nodes" (.ref t) [])) := e3 _ _ upd_same
    have hpx : p ≠ x := fun z => by rw [z, hx3] at hp; cases hp
    refine ⟨_, rfl, x, _, dx, _, rfl, hx3, T.cl_Expression, T.na_Expression__firsts, (by show 1 < 1000; decide), ?_⟩
    have kp : ∀ b o, b ≠ x → H1 b = some o → upd H3 x (.ins A.Expression dx (exF t p)) b = some o := fun b o n h => by
      rw [upd_ne n]
      exact e3 _ _ (by rw [upd_ne n]; exact h)
    refine k _ (fun b o n h => kp b o n (e1 _ _ h)) ⟨dx, t, p, as, upd_same, kp _ _ htx ht1, ?_, by rw [upd_ne hpx]; exact hp⟩
    exact ((hA1.imp fun _ _ h => h.ins hx1).imp fun _ _ h => h.mono e3).imp fun _ _ h => h.ins hx3
theorem ex_look (t f : Addr) : (exF t f).lookup ("_nodes" : Str) = some (.ref t) := rfl
theorem ex_look2 (t f : Addr) : (exF t f).lookup ("_firsts" : Str) = some (.ref f) := rfl
def spRead (C : Addr) (TL IE : Addr) : Sp := fun vs H Q E => ∃ (z : Str), vs = [.ref C, .str z] ∧ z.length ≤ 400 ∧
  (∀ ns, rrun okS ⟨[], [], false⟩ (cutGo [] (tl z)) = some ⟨ns, [], true⟩ → (ns.length ≤ 20 → ∀ x H', Ex H H' → ExAt C H' x ns → Q (.ref x) H') ∧ (20 < ns.length → ∀ d H', Ex H H' → H' d = some (.xd [("what", .str "nodes")]) → E (.ref TL) (some d) H')) ∧
  ((∀ ns, rrun okS ⟨[], [], false⟩ (cutGo [] (tl z)) ≠ some ⟨ns, [], true⟩) → ∀ d H', Ex H H' → H' d = some (.xd [("what", .str z)]) → E (.ref IE) (some d) H')
theorem ok_ex_read (T : Tx0 w K mg A) : FnOk P w K mg base (L2.CX P w) 7 A.ex_read A.d_ex_read p_ex_read (spRead A.Expression A.TooLarge A.InvalidExpression) := by
  refine T.F_ex_read.okX sc_ex_read (fun vs H Q E h => ?_) (fun cdv Ar outer s H vs Q E hr h => ?_)
  · obtain ⟨z, rfl, _⟩ := h
    rfl
  · obtain ⟨z, rfl, hz, k, k2⟩ := h
    refine ⟨_, (pss_cons (ps_set (i := 2) sc_ex_read.nd rfl (Or.inl rfl) (pe_call (ok_nodes_of T) (hr.mono (by decide)) (by rfl) T.g_nodes_of T.F_nodes_of.kp T.b_nodes_of .nil pass0 (pa_cons (pv 1) pa_nil)))
      (pss_cons (ps_if (pt_cmpR op_isN (pv 2) pe_non (nomark _)) (pss_one (ps_raise rfl (takes_of rfl rfl rfl rfl) (pmk_oex T.ex_InvalidExpression.ox T.ex_InvalidExpression.ii T.ti_lives_init (ok_lives_init T) (hr.mono (by decide)) T.b_lives_init .nil pass0 (by rfl) T.g_InvalidExpression (pa_cons (pv 1) pa_nil)))) pss_nil)
      (pss_cons (ps_if (pt_cmpR op_gt (pe_callB call_len_seq (by rfl) T.m_len PySem.boot_len (pa_cons (pv 2) pa_nil)) (ClX.pe_cval (pv 0)) (nomark _)) (pss_one (ps_raise rfl (takes_of rfl rfl rfl rfl) (pmk_oex T.ex_TooLarge.ox T.ex_TooLarge.ii T.ti_lives_init (ok_lives_init T) (hr.mono (by decide)) T.b_lives_init .nil pass0 (by rfl) T.g_TooLarge (pa_cons pe_str pa_nil)))) pss_nil)
      (pss_one (ps_ret (UL.pe_makeL (i := 0) T.mk_Expression (ok_ex_init T) (hr.mono (by decide)) rfl (Or.inl rfl) T.b_ex_init .nil pass0 (pa_cons (pv 2) pa_nil))))))), ?_⟩
    refine ⟨_, rfl, z, rfl, hz, fun ns hrun N as H1 e1 hNn hN hA => ?_, fun hno H1 e1 => ?_⟩
    · obtain ⟨k3, k4⟩ := k ns hrun
      have hwf := (rrun_wf (s := ⟨[], [], false⟩) ⟨(fun j nd h => by cases h), (fun y hy => by cases hy)⟩ hrun).wn
      have hlen := hA.len
      obtain ⟨u, hu⟩ := T.cv_Expression_MOST_NODES
      refine ⟨_, rfl, rfl, _, rfl, ?_⟩
      rw [decide_eq_false (show ¬ V.ref N = V.non by intro z; cases z)]
      refine iteF ⟨_, rfl, N, _, rfl, .inl (SqL.of hN), _, rfl, A.Expression, .type "type", .int 20, u, rfl, T.cr_Expression, hu, _, 20, rfl, rfl, _, rfl, ite2 (fun q => ?_) (fun q => ?_)⟩
      · have q := of_decide_eq_true q
        rw [List.length_map] at q
        exact ⟨(by show 1 ≤ 1000; decide), raise_what T.ex_TooLarge rfl fun d H' e' hd => k4 (by omega) d H' (e1.trans e') hd⟩
      · have q : ¬ 20 < ns.length := fun h => q (decide_eq_true (by rw [List.length_map]; omega))
        refine ⟨rfl, _, rfl, fun x dx hx hdx hne => ?_⟩
        have e2 := Ex.new (o := .own x) hdx
        have hx2 : upd H1 dx (.own x) x = none := by rw [upd_ne hne.symm]; exact hx
        have e3 := e2.trans (Ex.new (o := .ins A.Expression dx []) hx2)
        refine ⟨x, dx, N, as, ns, rfl, upd_same, e3 _ _ hN, hA.imp fun _ _ h => h.mono e3, hwf, by omega, fun H' kp hE => ⟨rfl, k3 (by omega) x H' (fun b o hb => kp b o (fun z => ?_) (e3 _ _ (e1 _ _ hb))) hE⟩⟩
        have q := e1 _ _ hb
        rw [z, hx] at q
        cases q
    · refine ⟨_, rfl, rfl, _, rfl, iteT ⟨_, rfl, (by show 1 ≤ 1000; decide), raise_what T.ex_InvalidExpression rfl fun d H' e' hd => k2 hno d H' (e1.trans e') hd⟩⟩
/-! ### expressions made on a stack -/
theorem joinL_C : ∀ ts : List (List Nat), joinL [44] ts = joinC ts
  | [] => rfl
  | [t] => rfl
  | t :: u :: r => by
    rw [joinL, joinC, joinL_C (u :: r)]
    rfl
theorem join_C (ts : List (List Nat)) : Txt.join "," (ts.map ofL) = ofL (joinC ts) := by
  have h : tl (Txt.join "," (ts.map ofL)) = joinC ts := by
    rw [join_eq, tl_join, List.map_map, show tl "," = [44] by decide +kernel, show (tl ∘ ofL) = id from funext fun l => tl_ofL l, List.map_id, joinL_C]
  rw [← ofL_tl (Txt.join "," (ts.map ofL)), h]
theorem joinC_len : ∀ ts : List (List Nat), (joinC ts).length ≤ (ts.map List.length).sum + ts.length
  | [] => Nat.le_refl _
  | [t] => by simp [joinC]
  | t :: u :: r => by
    have := joinC_len (u :: r)
    rw [joinC, List.length_append, List.length_cons, List.map_cons, List.sum_cons, List.length_cons]
    omega
theorem ofL_app (a b : List Nat) : ofL a ++ ofL b = ofL (a ++ b) := by
  have h : tl (ofL a ++ ofL b) = a ++ b := by rw [tl_append, tl_ofL, tl_ofL]
  rw [← ofL_tl (ofL a ++ ofL b), h]
theorem len_app (x y : Str) : (x ++ y).length = x.length + y.length := by rw [len_tl, tl_append, List.length_append, ← len_tl, ← len_tl]
theorem ofL_len (l : List Nat) : (ofL l).length = l.length := by rw [len_tl, tl_ofL]
theorem alnum_plain {c : Nat} (h : alnum c = true) : c ≠ 40 ∧ c ≠ 41 ∧ c ≠ 44 :=
  ⟨fun z => by rw [z] at h; revert h; decide +kernel, fun z => by rw [z] at h; revert h; decide +kernel, fun z => by rw [z] at h; revert h; decide +kernel⟩
theorem okS_all {z : Str} (h : okS z = true) : (tl z).all alnum = true ∧ tl z ≠ [] := by
  unfold okS at h
  rw [Bool.and_eq_true, Bool.and_eq_true, Bool.and_eq_true, Bool.and_eq_true] at h
  refine ⟨h.2, fun e => ?_⟩
  have := h.1.1.2
  rw [e] at this
  cases this
theorem okS_plain {z : Str} (h : okS z = true) : plainL (tl z) := fun c hc => alnum_plain (List.all_eq_true.mp (okS_all h).1 c hc)
theorem ops_cases {w : Str} {n : Int} (h : opsT.lookup w = some n) : (w = "part" ∧ n = 1) ∨ (w = "pick" ∧ n = 2) ∨ (w = "then" ∧ n = 2) := by
  unfold opsT at h
  by_cases h1 : w = "part"
  · subst h1
    rw [List.lookup_cons_self] at h
    exact .inl ⟨rfl, (Option.some.inj h).symm⟩
  rw [lookup_put2 h1] at h
  by_cases h2 : w = "pick"
  · subst h2
    rw [List.lookup_cons_self] at h
    exact .inr (.inl ⟨rfl, (Option.some.inj h).symm⟩)
  rw [lookup_put2 h2] at h
  by_cases h3 : w = "then"
  · subst h3
    rw [List.lookup_cons_self] at h
    exact .inr (.inr ⟨rfl, (Option.some.inj h).symm⟩)
  rw [lookup_put2 h3] at h
  cases h
theorem op_plain {w : Str} {n : Int} (h : opsT.lookup w = some n) : plainL (tl w) ∧ w.length ≤ 8 := by
  rcases ops_cases h with ⟨rfl, _⟩ | ⟨rfl, _⟩ | ⟨rfl, _⟩ <;> exact ⟨by unfold plainL; decide +kernel, by decide +kernel⟩
theorem okS_noop {w : Str} (h : okS w = true) : opsT.lookup w = none := by
  cases e : opsT.lookup w with
  | none => rfl
  | some n =>
    rcases ops_cases e with ⟨rfl, _⟩ | ⟨rfl, _⟩ | ⟨rfl, _⟩
    · rw [show okS "part" = false by decide +kernel] at h; cases h
    · rw [show okS "pick" = false by decide +kernel] at h; cases h
    · rw [show okS "then" = false by decide +kernel] at h; cases h
/-! ### texts -/
theorem wordOk : WordOk okS := ⟨fun w h => okS_plain h, fun w h => (okS_all h).2, fun w h => by rw [← len_tl]; exact okS_len h, fun w h => okS_noop h⟩
structure OkN (ns : List Nd) : Prop where
  F : Forest ns [ns.length - 1]
  g : ∀ nd ∈ ns, GoodNd okS nd
  ne : ns ≠ []
  le : ns.length ≤ 20
theorem okN_of {t : List Nat} {ns : List Nd} (h : GoodE okS t 0 ns) (hl : ns.length ≤ 20) : OkN ns := by
  obtain ⟨w1, w2⟩ := good_wf h
  refine ⟨good_forest h, fun nd hnd => ?_, h.1, hl⟩
  obtain ⟨j, hj⟩ := List.getElem?_of_mem hnd
  have a := (w1 j nd hj).1
  have b := w2 nd hnd
  cases nd with
  | name w => exact b
  | call w os => exact ⟨b, a⟩
  | op w os => exact a
theorem okN_good {ns : List Nd} (h : OkN ns) : GoodE okS (tx ns (ns.length - 1)) 0 ns ∧ (tx ns (ns.length - 1)).length ≤ 280 := by
  obtain ⟨h1, h2⟩ := forest_good wordOk h.F h.g
  have := h.le
  exact ⟨h1, by omega⟩
theorem goodNd_small {nd : Nd} (h : GoodNd okS nd) : (tl (wordOf nd)).length ≤ 8 ∧ (opsOf nd).length ≤ 4 := by
  cases nd with
  | name w => exact ⟨wordOk.le w h, Nat.zero_le _⟩
  | call w os => exact ⟨wordOk.le w h.1, h.2⟩
  | op w os =>
    have h : opsT.lookup w = some (os.length : Int) := h
    obtain ⟨_, h1, h2⟩ := op_pl h
    exact ⟨h1, by show os.length ≤ 4; omega⟩
theorem okN_len {ns : List Nd} (h : OkN ns) {i : Nat} (hi : i < ns.length) : (tx ns i).length ≤ 280 := by
  have := (forest_len h.F fun nd hnd => goodNd_small (h.g nd hnd)).2 i hi
  have := h.le
  omega
theorem goodNd_wf {nd : Nd} (h : GoodNd okS nd) : WfNd nd := by
  cases nd with
  | name w => trivial
  | call w os => exact h.2
  | op w os => exact h
theorem sum_small (f : Nat → Str) : ∀ os : List Nat, os.length ≤ 4 → (∀ o ∈ os, (f o).length ≤ 280) → ((os.map f).map fun x => x.length).sum ≤ 280 * 4 := by
  intro os h4 h
  have gen : ∀ os : List Nat, (∀ o ∈ os, (f o).length ≤ 280) → ((os.map f).map fun x => x.length).sum ≤ 280 * os.length := by
    intro os
    induction os with
    | nil => exact fun _ => Nat.le_refl _
    | cons o r ih =>
      intro h
      have h1 := h o List.mem_cons_self
      have h2 := ih fun q hq => h q (List.mem_cons_of_mem _ hq)
      rw [List.map_cons, List.map_cons, List.sum_cons, List.length_cons]
      omega
  have := gen os h
  omega
theorem join_f (f : Nat → Str) (os : List Nat) : Txt.join "," (os.map f) = ofL (joinC (os.map fun o => tl (f o))) := by
  have h : os.map f = (os.map fun o => tl (f o)).map ofL := by
    rw [List.map_map]
    exact List.map_congr_left fun o _ => (ofL_tl (f o)).symm
  rw [h, join_C]
theorem join_small (f : Nat → Str) (os : List Nat) (h4 : os.length ≤ 4) (h : ∀ o ∈ os, (f o).length ≤ 280) : (Txt.join "," (os.map f)).length ≤ 280 * 4 + 4 := by
  rw [join_f, ofL_len]
  have h1 := joinC_len2 (fun o => tl (f o)) os
  have h2 := sum_small f os h4 h
  rw [List.map_map] at h2
  have e : (os.map fun o => (tl (f o)).length) = os.map ((fun x : Str => x.length) ∘ f) := List.map_congr_left fun o _ => (len_tl (f o)).symm
  rw [e] at h1
  omega
theorem out_text (w : Str) (f : Nat → Str) (os : List Nat) : Str.empty ++ w ++ "(" ++ Txt.join "," (os.map f) ++ ")" = ofL (tl w ++ 40 :: joinC (os.map fun o => tl (f o)) ++ [41]) := by
  have h : tl (Str.empty ++ w ++ "(" ++ Txt.join "," (os.map f) ++ ")") = tl w ++ 40 :: joinC (os.map fun o => tl (f o)) ++ [41] := by
    rw [tl_append, tl_append, tl_append, tl_append, join_f, tl_ofL, show tl Str.empty = [] by decide +kernel, show tl "(" = [40] by decide +kernel, show tl ")" = [41] by decide +kernel]
    simp
  rw [← ofL_tl (Str.empty ++ w ++ "(" ++ Txt.join "," (os.map f) ++ ")"), h]
theorem out_text2 (w : Str) (f : Nat → Str) (os : List Nat) : w ++ "(" ++ Txt.join "," (os.map f) ++ ")" = ofL (tl w ++ 40 :: joinC (os.map fun o => tl (f o)) ++ [41]) := by
  have h : tl (w ++ "(" ++ Txt.join "," (os.map f) ++ ")") = tl w ++ 40 :: joinC (os.map fun o => tl (f o)) ++ [41] := by
    rw [tl_append, tl_append, tl_append, join_f, tl_ofL, show tl "(" = [40] by decide +kernel, show tl ")" = [41] by decide +kernel]
    simp
  rw [← ofL_tl (w ++ "(" ++ Txt.join "," (os.map f) ++ ")"), h]
def fst (ns : List Nd) (a : Nat) : Nat := (firstsL ns).getD a 0
def spFirst (C : Addr) : Sp := fun vs H Q E => ∃ (x : Addr) (ns : List Nd) (a : Nat), vs = [.ref x, .int (a : Int)] ∧ ExAt C H x ns ∧ a < ns.length ∧ Q (.int (fst ns a : Nat)) H
theorem ok_ex_first (T : Tx0 w K mg A) : FnOk P w K mg base CX0 6 A.ex_first A.d_ex_first p_ex_first (spFirst A.Expression) := by
  refine T.F_ex_first.ok sc_ex_first (fun vs H Q E h => ?_) (fun cdv Ar outer s H vs Q E hr h => ?_)
  · obtain ⟨x, ns, a, rfl, _⟩ := h
    rfl
  · obtain ⟨x, ns, a, rfl, hx, hv, k⟩ := h
    refine ⟨_, (pss_cons (ps_if (pt_not (pt_val (pe_call (ok_is_int T) (hr.mono (by decide)) (by rfl) T.g_is_int T.F_is_int.kp T.b_is_int .nil pass0 (pa_cons (pv 1) (pa_cons pe_int (pa_cons (pe_op op_sub (pe_callB call_len_seq (by rfl) T.m_len PySem.boot_len (pa_cons (pe_fld (pv 0) rfl) pa_nil)) pe_int) pa_nil)))))) (pss_one ps_never) pss_nil)
      (pss_one (ps_ret (pe_ix ix_list (pe_fld (pv 0) rfl) (pv 1) (fun _ _ => rfl))))), ?_⟩
    obtain ⟨dx, t, f, as, h1, h2, h3, h4⟩ := hx
    refine ⟨_, rfl, _, rfl, x, _, dx, _, _, rfl, h1, T.cl_Expression, T.na_Expression__nodes, ex_look _ _, t, _, rfl, .inr (SqT.of h2), _, 1, rfl, rfl, .int (a : Int), 0, _, rfl, .inr (.inr (.inr (.inl ⟨_, rfl⟩))), _, rfl, ?_⟩
    rw [List.length_map, h3.len, show inI (.int (a : Int)) 0 (((ns.length : Nat) : Int) - 1) = true by
      show (decide ((0 : Int) ≤ (a : Int)) && decide ((a : Int) ≤ ((ns.length : Nat) : Int) - 1)) = true
      rw [Bool.and_eq_true]
      exact ⟨decide_eq_true (by omega), decide_eq_true (by omega)⟩]
    have ha : (ni (firstsL ns))[a]? = some (.int (fst ns a : Nat)) := by
      unfold ni fst
      rw [List.getElem?_map, List.getD_eq_getElem?_getD, List.getElem?_eq_getElem (by rw [firstsL_len]; omega)]
      rfl
    exact iteF ⟨_, rfl, x, _, dx, _, _, rfl, h1, T.cl_Expression, T.na_Expression__firsts, ex_look2 _ _, _, rfl, f, _, (a : Int), _, rfl, rfl, SqL.of h4, atI_nat ha, k⟩
def nodeSp (nd : Nd) (f : Nat → Str) : Str := ofL (ndT (fun o => tl (f o)) nd)
def spNodeText : Sp := fun vs H Q _ => ∃ (a dT : Addr) (nd : Nd) (f : Nat → Str) (ks : List (Key × V)), vs = [.ref a, .ref dT] ∧ NdAt H a nd ∧ GoodNd okS nd ∧ H dT = some (.dK ks) ∧ (∀ o ∈ opsOf nd, valV ks (Sum.inl (o : Int)) = some (.str (f o)) ∧ (f o).length ≤ 280) ∧ ∀ H', Ex H H' → Q (.str (nodeSp nd f)) H'
theorem ok_node_text (T : Tx0 w K mg A) : FnOk P w K mg base CX0 2 A.node_text A.d_node_text p_node_text spNodeText := by
  refine T.F_node_text.ok sc_node_text (fun vs H Q E h => ?_) (fun cdv Ar outer s H vs Q E hr h => ?_)
  · obtain ⟨a, dT, nd, f, ks, rfl, _⟩ := h
    rfl
  · obtain ⟨a, dT, nd, f, ks, rfl, ha, hg, hd, hv, k⟩ := h
    refine ⟨_, (pss_cons (ps_if (pt_cmpR op_eq (pe_ix ix_tup (pv 0) pe_int (fun _ _ => rfl)) pe_str (nomark _)) (pss_one (ps_ret (pe_ix ix_tup (pv 0) pe_int (fun _ _ => rfl)))) pss_nil)
      (pss_cons (ps_set (i := 2) sc_node_text.nd rfl (Or.inl rfl) (pe_ifExp (pt_cmpR op_eq (pe_ix ix_tup (pv 0) pe_int (fun _ _ => rfl)) pe_str (nomark _)) (pe_ix ix_tup (pv 0) pe_int (fun _ _ => rfl)) (pe_ix ix_tup (pv 0) pe_int (fun _ _ => rfl))))
      (pss_cons (ps_set (i := 3) sc_node_text.nd rfl (Or.inl rfl) (pe_bm PySem.F.plainAttrs_str PySem.F.slot_str_join PySem.F.type_str_join mt_join pe_str (pa_cons (pe_lc (own := [("i", 4)]) (g := gName 4) (tt := tYes) rfl sc_node_text.nd (pi_tup (pe_call (ok_operands_of T) (hr.mono (by decide)) (by rfl) T.g_operands_of T.F_operands_of.kp T.b_operands_of .nil pass0 (pa_cons (pv 0) pa_nil))) (blkOk_by (N := n_node_text) (sc := defScope s_node_text) (by decide +kernel)) (fun _ _ _ _ _ => pg_name (i := 4) sc_node_text.nd rfl (Or.inl rfl)) (fun _ _ _ _ _ => pts_nil) (fun _ _ _ _ _ => (pe_dget (hu_of hr) (pv 1) (pv 4) (fun _ _ => rfl)))) pa_nil)))
      (pss_one (ps_ret (pe_joined (.cons (pe_fmt (pv 2)) (.cons pe_str (.cons (pe_fmt (pv 3)) (.cons pe_str .nil)))))))))), ?_⟩
    cases nd with
    | name w =>
      have h : H a = some (.tup [.str "name", .str w]) := ha
      refine ⟨_, rfl, a, _, 0, .str "name", rfl, rfl, SqT.of h, atI_nat (j := 0) rfl, rfl, _, rfl, ?_⟩
      rw [str_eqb, decide_eq_true rfl]
      have k := k H (Ex.refl H)
      rw [show nodeSp (.name w) f = w from ofL_tl w] at k
      exact iteT ⟨_, rfl, a, _, 1, .str w, rfl, rfl, SqT.of h, atI_nat (j := 1) rfl, k⟩
    | call w os =>
      have hg2 : okS w = true ∧ os.length ≤ 4 := hg
      have hwl : w.length ≤ 8 := by rw [len_tl]; exact wordOk.le w hg2.1
      obtain ⟨t, h, ht⟩ := id ha
      refine ⟨_, rfl, a, _, 0, .str "call", rfl, rfl, SqT.of h, atI_nat (j := 0) rfl, rfl, _, rfl, ?_⟩
      rw [str_eqb, decide_eq_false (by decide +kernel)]
      refine iteF ⟨_, rfl, a, _, 0, .str "call", rfl, rfl, SqT.of h, atI_nat (j := 0) rfl, rfl, _, rfl, ?_⟩
      rw [str_eqb, decide_eq_true rfl]
      refine iteT ⟨_, rfl, a, _, 1, .str w, rfl, rfl, SqT.of h, atI_nat (j := 1) rfl, ?_⟩
      refine ⟨rfl, _, rfl, a, _, rfl, ha, goodNd_wf hg, fun p H1 e1 hp => ⟨p, rfl, ⟨_, SqT.of hp⟩, fun D hD => ?_⟩⟩
      refine lc_tup (xs := ni os) (fun i H' => Ex H1 H' ∧ H' D = some (.lst ((os.take i).map fun o => V.str (f o)))) ⟨Ex.new hD, upd_same⟩ (fun i H' _ h => SqT.of (h.1 _ _ hp)) ?_ ?_
      · rintro i x H2 hx ⟨e2, h2⟩
        have hx : (os.map fun (n : Nat) => V.int (n : Int))[i]? = some x := hx
        rw [List.getElem?_map] at hx
        obtain ⟨o, ho, rfl⟩ := Option.map_eq_some_iff.mp hx
        have hvo := hv o (List.mem_of_getElem? ho)
        refine ⟨rfl, _, rfl, _, rfl, dT, _, rfl, (show DGet H2 dT (.int (o : Int)) (some (.str (f o))) from by rw [← hvo.1]; exact DGet.k (k := Sum.inl (o : Int)) (e2 _ _ (e1 _ _ hd))), _, h2, sz_lt (by rw [List.length_map, List.length_take]; omega), e2.mut hD, ?_⟩
        rw [upd_same, List.take_succ, ho, List.map_append]
        rfl
      · rintro H2 ⟨e2, h2⟩
        rw [ni_len, List.take_length] at h2
        have hsum : ((os.map f).map fun x => x.length).sum ≤ 280 * 4 := sum_small f os hg2.2 (fun o ho => (hv o ho).2)
        have hjl : (Txt.join "," (os.map f)).length ≤ 280 * 4 + 4 := join_small f os hg2.2 (fun o ho => (hv o ho).2)
        refine ⟨",", D, os.map f, rfl, rfl, .inl (SqL.of (by rw [h2, List.map_map]; rfl)), ?_, ?_⟩
        · rw [List.length_map]
          show _ + os.length * 1 ≤ 16777216
          have := hg2.2
          omega
        · refine ⟨_, rfl, .inl ⟨w, rfl, sz_of (by omega), _, rfl, sz_of (by rw [len_app]; show 0 + w.length ≤ 100000; omega), _, rfl, sz_of (by rw [len_app, len_app]; show 0 + w.length + 1 ≤ 100000; omega), _, rfl, .inl ⟨_, rfl, sz_of (by omega), _, rfl, sz_of (by rw [len_app, len_app, len_app]; show 0 + w.length + 1 + _ ≤ 100000; omega), _, rfl, sz_of (by rw [len_app, len_app, len_app, len_app]; show 0 + w.length + 1 + _ + 1 ≤ 100000; omega), ?_⟩⟩⟩
          have k := k H2 (e1.trans e2)
          show Q (.str (Str.empty ++ w ++ "(" ++ Txt.join "," (os.map f) ++ ")")) H2
          rw [out_text w f os]
          exact k
    | op w os =>
      have hg2 : opsT.lookup w = some (os.length : Int) := hg
      obtain ⟨_, hwl', h42⟩ := op_pl hg2
      have hwl : w.length ≤ 8 := by rw [len_tl]; exact hwl'
      have hg2 : True ∧ os.length ≤ 4 := ⟨trivial, by omega⟩
      have h : H a = some (.tup (.str w :: ni os)) := ha
      obtain ⟨n1, n2⟩ := opw_ne hg
      refine ⟨_, rfl, a, _, 0, .str w, rfl, rfl, SqT.of h, atI_nat (j := 0) rfl, rfl, _, rfl, ?_⟩
      rw [str_eqb, decide_eq_false n1]
      refine iteF ⟨_, rfl, a, _, 0, .str w, rfl, rfl, SqT.of h, atI_nat (j := 0) rfl, rfl, _, rfl, ?_⟩
      rw [str_eqb, decide_eq_false n2]
      refine iteF ⟨_, rfl, a, _, 0, .str w, rfl, rfl, SqT.of h, atI_nat (j := 0) rfl, ?_⟩
      refine ⟨rfl, _, rfl, a, _, rfl, ha, goodNd_wf hg, fun p H1 e1 hp => ⟨p, rfl, ⟨_, SqT.of hp⟩, fun D hD => ?_⟩⟩
      refine lc_tup (xs := ni os) (fun i H' => Ex H1 H' ∧ H' D = some (.lst ((os.take i).map fun o => V.str (f o)))) ⟨Ex.new hD, upd_same⟩ (fun i H' _ h => SqT.of (h.1 _ _ hp)) ?_ ?_
      · rintro i x H2 hx ⟨e2, h2⟩
        have hx : (os.map fun (n : Nat) => V.int (n : Int))[i]? = some x := hx
        rw [List.getElem?_map] at hx
        obtain ⟨o, ho, rfl⟩ := Option.map_eq_some_iff.mp hx
        have hvo := hv o (List.mem_of_getElem? ho)
        refine ⟨rfl, _, rfl, _, rfl, dT, _, rfl, (show DGet H2 dT (.int (o : Int)) (some (.str (f o))) from by rw [← hvo.1]; exact DGet.k (k := Sum.inl (o : Int)) (e2 _ _ (e1 _ _ hd))), _, h2, sz_lt (by rw [List.length_map, List.length_take]; omega), e2.mut hD, ?_⟩
        rw [upd_same, List.take_succ, ho, List.map_append]
        rfl
      · rintro H2 ⟨e2, h2⟩
        rw [ni_len, List.take_length] at h2
        have hsum : ((os.map f).map fun x => x.length).sum ≤ 280 * 4 := sum_small f os hg2.2 (fun o ho => (hv o ho).2)
        have hjl : (Txt.join "," (os.map f)).length ≤ 280 * 4 + 4 := join_small f os hg2.2 (fun o ho => (hv o ho).2)
        refine ⟨",", D, os.map f, rfl, rfl, .inl (SqL.of (by rw [h2, List.map_map]; rfl)), ?_, ?_⟩
        · rw [List.length_map]
          show _ + os.length * 1 ≤ 16777216
          have := hg2.2
          omega
        · refine ⟨_, rfl, .inl ⟨w, rfl, sz_of (by omega), _, rfl, sz_of (by rw [len_app]; show 0 + w.length ≤ 100000; omega), _, rfl, sz_of (by rw [len_app, len_app]; show 0 + w.length + 1 ≤ 100000; omega), _, rfl, .inl ⟨_, rfl, sz_of (by omega), _, rfl, sz_of (by rw [len_app, len_app, len_app]; show 0 + w.length + 1 + _ ≤ 100000; omega), _, rfl, sz_of (by rw [len_app, len_app, len_app, len_app]; show 0 + w.length + 1 + _ + 1 ≤ 100000; omega), ?_⟩⟩⟩
          have k := k H2 (e1.trans e2)
          show Q (.str (Str.empty ++ w ++ "(" ++ Txt.join "," (os.map f) ++ ")")) H2
          rw [out_text w f os]
          exact k
theorem ndT_congr {f g : Nat → List Nat} {nd : Nd} (h : ∀ o ∈ opsOf nd, f o = g o) : ndT f nd = ndT g nd := by
  cases nd with
  | name w => rfl
  | call w os =>
    have h : ∀ o ∈ os, f o = g o := h
    show tl w ++ 40 :: joinC (os.map f) ++ [41] = tl w ++ 40 :: joinC (os.map g) ++ [41]
    rw [List.map_congr_left h]
  | op w os =>
    have h : ∀ o ∈ os, f o = g o := h
    show tl w ++ 40 :: joinC (os.map f) ++ [41] = tl w ++ 40 :: joinC (os.map g) ++ [41]
    rw [List.map_congr_left h]
theorem tx_app {N : List Nd} {i : Nat} (h : i < N.length) : ∀ M : List Nd, tx (N ++ M) i = tx N i := by
  intro M
  induction M generalizing N with
  | nil => rw [List.append_nil]
  | cons d r ih =>
    rw [show N ++ d :: r = (N ++ [d]) ++ r by simp, ih (by rw [List.length_append]; omega), tx_old h]
theorem tx_at {N : List Nd} {j : Nat} {nd : Nd} (h : N[j]? = some nd) (ho : ∀ o ∈ opsOf nd, o < j) : tx N j = ndT (tx N) nd := by
  obtain ⟨hj, hn⟩ := List.getElem?_eq_some_iff.mp h
  have htl : (N.take j).length = j := by rw [List.length_take]; omega
  have e : N = (N.take j ++ [nd]) ++ N.drop (j + 1) := by
    rw [← hn, List.append_assoc, List.singleton_append, ← List.drop_eq_getElem_cons hj, List.take_append_drop]
  have h1 : tx N j = ndT (tx (N.take j)) nd := by
    conv => lhs; rw [e]
    rw [tx_app (by rw [List.length_append, htl, List.length_singleton]; omega)]
    have := tx_new (N := N.take j) (nd := nd)
    rw [htl] at this
    exact this
  rw [h1]
  refine ndT_congr fun o hoo => ?_
  have := tx_app (N := N.take j) (i := o) (by rw [htl]; exact ho o hoo) (N.drop j)
  rw [List.take_append_drop] at this
  exact this.symm
def txD (N : List Nd) (k : Nat) : List (Key × V) := (List.range k).map fun (i : Nat) => ((Sum.inl (i : Int) : Key), V.str (ofL (tx N i)))
theorem txD_succ (N : List Nd) (k : Nat) : txD N (k + 1) = txD N k ++ [(Sum.inl (k : Int), V.str (ofL (tx N k)))] := by
  unfold txD
  rw [List.range_succ, List.map_append]
  rfl
theorem txD_len (N : List Nd) (k : Nat) : (txD N k).length = k := by
  unfold txD
  rw [List.length_map, List.length_range]
theorem txD_none (N : List Nd) : ∀ (k i : Nat), k ≤ i → valV (txD N k) (Sum.inl (i : Int)) = none
  | 0, i, _ => rfl
  | k + 1, i, h => by
    rw [txD_succ, valV_snoc _ _ _ _ (txD_none N k k (Nat.le_refl _)), if_neg (by intro z; have := Sum.inl.inj z; omega)]
    exact txD_none N k i (by omega)
theorem txD_get {N : List Nd} {k i : Nat} (h : i < k) : valV (txD N k) (Sum.inl (i : Int)) = some (.str (ofL (tx N i))) := by
  induction k with
  | zero => omega
  | succ k ih =>
    rw [txD_succ, valV_snoc _ _ _ _ (txD_none N k k (Nat.le_refl _))]
    by_cases e : i = k
    · rw [if_pos (by rw [e]), e]
    · rw [if_neg (by intro z; have := Sum.inl.inj z; omega)]
      exact ih (by omega)
theorem txD_put (N : List Nd) (k : Nat) : putK (txD N k) (Sum.inl (k : Int)) (V.str (ofL (tx N k))) = txD N (k + 1) := by
  unfold putK
  rw [valV_any, txD_none N k k (Nat.le_refl _), if_neg (by simp), txD_succ]
def spPartText (C : Addr) : Sp := fun vs H Q _ => ∃ x ns, vs = [.ref x, .int ((ns.length : Int) - 1), .non] ∧ ExAt C H x ns ∧ OkN ns ∧ ∀ H', Ex H H' → Q (.str (ofL (tx ns (ns.length - 1)))) H'
theorem ok_part_text (T : Tx0 w K mg A) : FnOk P w K mg base (L2.CX P w) 8 A.part_text A.d_part_text p_part_text (spPartText A.Expression) := by
  refine T.F_part_text.ok sc_part_text (fun vs H Q E h => ?_) (fun cdv Ar outer s H vs Q E hr h => ?_)
  · obtain ⟨x, ns, rfl, _⟩ := h
    rfl
  · obtain ⟨x, ns, rfl, hx, hN, k⟩ := h
    refine ⟨_, (pss_cons (ps_set (i := 3) sc_part_text.nd rfl (Or.inl rfl) pe_dnewK)
      (pss_cons (ps_for PassesOwn.leaving rfl (pi_range2 (by rfl) T.m_range (pa_cons (pe_meth (pv 0) T.cl_Expression T.e_ex_first (ok_ex_first T) (hr.mono (by decide)) T.b_ex_first .nil pass0 (pa_cons (pv 1) pa_nil)) (pa_cons (pe_op op_add (pv 1) pe_int) pa_nil))) (pg_name (i := 4) sc_part_text.nd rfl (Or.inl rfl)) (pss_one (ps_if (PW.pt (pw_and (pt_cmpR op_notN (pv 2) pe_non (nomark _)) (pw_and1 (pt_cmp (pc_din (hu_of hr) (pv 4) (pv 2)))))) (pss_one (ps_dput (hu_of hr) (pv 3) (pv 4) (pe_dget (hu_of hr) (pv 2) (pv 4) (fun _ _ => rfl)) rfl)) (pss_one (ps_dput (hu_of hr) (pv 3) (pv 4) (pe_call (ok_node_text T) (hr.mono (by decide)) (by rfl) T.g_node_text T.F_node_text.kp T.b_node_text .nil pass0 (pa_cons (pe_ix ix_tup (pe_fld (pv 0) rfl) (pv 4) (fun _ _ => rfl)) (pa_cons (pv 3) pa_nil))) rfl)))))
      (pss_one (ps_ret (pe_dget (hu_of hr) (pv 3) (pv 1) (fun _ _ => rfl)))))), ?_⟩
    obtain ⟨dx, t, f, as, h1, h2, h3, h4⟩ := id hx
    have ok := forest_ok hN.F
    have hnp := List.length_pos_iff.mpr hN.ne
    have hroot : fst ns (ns.length - 1) = 0 := ok.part.1
    have hwf := (good_wf (okN_good hN).1).1
    have hlen := h3.len
    intro d hd
    have e0 := Ex.new (o := .dK []) hd
    refine ⟨_, rfl, x, dx, _, rfl, e0 _ _ h1, rfl, _, rfl, x, ns, ns.length - 1, by rw [show ((ns.length - 1 : Nat) : Int) = (ns.length : Int) - 1 by omega]; rfl, hx.mono e0, by omega, ?_⟩
    refine ⟨_, rfl, (ns.length : Int) - 1, 1, rfl, rfl, ((fst ns (ns.length - 1) : Nat) : Int), (ns.length : Int), ?_, ⟨by omega, by rw [hroot]; omega, by omega, by have := hN.le; omega⟩, ?_⟩
    · show [V.int _, V.int ((ns.length : Int) - 1 + 1)] = _
      rw [show (ns.length : Int) - 1 + 1 = ns.length by omega]
    rw [hroot]
    refine for_range (lo := ((0 : Nat) : Int)) (n := ((ns.length : Int) - ((0 : Nat) : Int)).toNat) (fun j σ' H' => ∃ v4, σ' = [some (.ref x), some (.int ((ns.length : Int) - 1)), some .non, some (.ref d), v4] ∧ Ex H H' ∧ H' d = some (.dK (txD ns j))) ⟨_, rfl, e0, upd_same⟩ ?_ ?_
    · rintro j σ' H1 hj ⟨v4, rfl, e1, hd1⟩
      have z0 : ((0 : Nat) : Int) + (j : Int) = (j : Int) := by omega
      have hj' : j < ns.length := by omega
      rw [z0]
      have hja : j < as.length := by omega
      obtain ⟨nd, hnd, had⟩ := h3.get j as[j] (List.getElem?_eq_getElem hja)
      have hops := (hwf j nd hnd).2
      refine ⟨_, rfl, rfl, _, rfl, ?_⟩
      rw [decide_eq_true rfl]
      refine iteF (iteF ?_)
      refine ⟨_, rfl, x, _, dx, _, _, rfl, e1 _ _ h1, T.cl_Expression, T.na_Expression__nodes, ex_look _ _, _, rfl, t, _, (j : Int), .ref as[j], rfl, rfl, SqT.of (e1 _ _ h2), atI_nat (by rw [List.getElem?_map, List.getElem?_eq_getElem hja]; rfl), _, rfl, as[j], d, nd, (fun o => ofL (tx ns o)), _, rfl, had.mono e1, hN.g nd (List.mem_of_getElem? hnd), hd1, (fun o ho => ⟨txD_get (hops o ho), by rw [ofL_len]; exact okN_len hN (by have := hops o ho; omega)⟩), fun H2 e2 => ⟨_, rfl, _, rfl, d, _, rfl, DPut.k (k := Sum.inl (j : Int)) (e2 _ _ hd1) (sz_lt (by rw [txD_len]; have := hN.le; omega)), _, rfl, (e1.trans e2).mut hd, ?_⟩⟩
      rw [upd_same, show nodeSp nd (fun o => ofL (tx ns o)) = ofL (tx ns j) from by
        unfold nodeSp
        rw [tx_at hnd hops, ndT_congr (g := tx ns) fun o _ => tl_ofL _], txD_put]
    · rintro σ' H1 ⟨v4, rfl, e1, hd1⟩
      rw [show ((ns.length : Int) - ((0 : Nat) : Int)).toNat = ns.length by omega] at hd1
      have hg := txD_get (N := ns) (show ns.length - 1 < ns.length by omega)
      refine ⟨_, rfl, _, rfl, d, _, rfl, (show DGet H1 d (.int ((ns.length : Int) - 1)) (some (.str (ofL (tx ns (ns.length - 1))))) from ?_), k H1 e1⟩
      rw [← hg, show (ns.length : Int) - 1 = ((ns.length - 1 : Nat) : Int) by omega]
      exact DGet.k (k := Sum.inl ((ns.length - 1 : Nat) : Int)) hd1
def spText (C : Addr) : Sp := fun vs H Q _ => ∃ x ns, vs = [.ref x] ∧ ExAt C H x ns ∧ OkN ns ∧ ∀ H', Ex H H' → Q (.str (ofL (tx ns (ns.length - 1)))) H'
theorem ok_ex_text (T : Tx0 w K mg A) : FnOk P w K mg base CX0 9 A.ex_text A.d_ex_text p_ex_text (spText A.Expression) := by
  refine T.F_ex_text.ok sc_ex_text (fun vs H Q E h => ?_) (fun cdv Ar outer s H vs Q E hr h => ?_)
  · obtain ⟨x, ns, rfl, _⟩ := h
    rfl
  · obtain ⟨x, ns, rfl, hx, hN, k⟩ := h
    obtain ⟨ds, v0_part_text_2, b0_part_text_2⟩ := T.F_part_text.binds0 (ps := p_part_text) 2 (by simp) rfl (fun D doc pm an cdv ct us ks h1 h2 => by
      match us, h1, ks, h2 with
      | [_, _], _, [_], _ => exact ⟨_, _, _, _, _, _, rfl, rfl, rfl⟩)
    refine ⟨_, (pss_one (ps_ret (pe_meth (pv 0) T.cl_Expression T.e_part_text (ok_part_text T) (hr.mono (by decide)) b0_part_text_2 v0_part_text_2 passL (pa_cons (pe_op op_sub (pe_callB call_len_seq (by rfl) T.m_len PySem.boot_len (pa_cons (pe_fld (pv 0) rfl) pa_nil)) pe_int) pa_nil)))), ?_⟩
    obtain ⟨dx, t, f, as, h1, h2, h3, h4⟩ := id hx
    exact ⟨_, rfl, x, dx, _, rfl, h1, rfl, _, rfl, x, _, dx, _, _, rfl, h1, T.cl_Expression, T.na_Expression__nodes, ex_look _ _, t, _, rfl, .inr (SqT.of h2), _, 1, rfl, rfl, x, ns, by rw [List.length_map, h3.len]; rfl, hx, hN, k⟩
end
end K20

set_option Elab.async false
set_option linter.all false
set_option maxRecDepth 100000
namespace K20
open PySem PySem.Spec PyProof.Rows L2 Evl TL UL StX
section
variable {P : Program} {w : World} {K : PySem.W.Frag} {mg : Str → Option Value} {base : Heap} {A : Adr}
def newR : Rw := ("new", 0, [])
def copyR : Rw := ("copy", 1, [])
theorem good_new : good newR := ⟨by decide +kernel, ⟨by decide, by decide⟩, List.Pairwise.nil, fun _ h => (nomatch h)⟩
theorem good_copy : good copyR := ⟨by decide +kernel, ⟨by decide, by decide⟩, List.Pairwise.nil, fun _ h => (nomatch h)⟩
/-! ### drawn functions -/
def spFunctions : Sp := fun vs H Q _ => ∃ d, vs = [.ref d] ∧ H d = some (DrO d) ∧ ∀ p as rs H', H p = none → Ex H H' → RowsAt H' p as (newR :: copyR :: rs) → Fit rs → rs.length ≤ 4 → Q (.ref p) H'
theorem ok_functions (T : Tx0 w K mg A) : FnOk P w K mg base CX0 3 A.functions A.d_functions p_functions spFunctions := by
  refine T.F_functions.ok sc_functions (fun vs H Q E h => ?_) (fun cdv Ar outer s H vs Q E hr h => ?_)
  · obtain ⟨d, rfl, _⟩ := h
    rfl
  · obtain ⟨d, rfl, hd, k⟩ := h
    refine ⟨_, (pss_cons (ps_set (i := 1) sc_functions.nd rfl (Or.inl rfl) (pe_lst (pa_cons (pe_lst (pa_cons pe_str (pa_cons pe_int (pa_cons (pe_lst pa_nil) pa_nil)))) (pa_cons (pe_lst (pa_cons pe_str (pa_cons pe_int (pa_cons (pe_lst pa_nil) pa_nil)))) pa_nil))))
      (pss_cons (ps_for PassesOwn.never rfl (pi_range1 (by rfl) T.m_range (pa_cons (pe_call (ok_take T) (hr.mono (by decide)) (by rfl) T.g_take T.F_take.kp T.b_take .nil pass0 (pa_cons (pv 0) (pa_cons pe_int pa_nil))) pa_nil)) (pg_name (i := 2) sc_functions.nd rfl (Or.inl rfl)) (pss_cons (ps_set (i := 3) sc_functions.nd rfl (Or.inl rfl) (pe_call (ok_name T) (hr.mono (by decide)) (by rfl) T.g_name T.F_name.kp T.b_name .nil pass0 (pa_cons (pv 0) (pa_cons (pv 2) pa_nil))))
        (Evl.pss_cut (ps_if (pt_cmpR op_eq (pv 3) pe_str (nomark _)) (pss_one (ps_set (i := 3) sc_functions.nd rfl (Or.inl rfl) pe_str)) pss_nil)
        (Evl.pss_cut (ps_if (pt_cmpR op_eq (pv 3) pe_str (nomark _)) (pss_one (ps_set (i := 3) sc_functions.nd rfl (Or.inl rfl) pe_str)) pss_nil)
        (pss_cons (ps_set (i := 4) sc_functions.nd rfl (Or.inl rfl) (pe_call (ok_take T) (hr.mono (by decide)) (by rfl) T.g_take T.F_take.kp T.b_take .nil pass0 (pa_cons (pv 0) (pa_cons pe_int pa_nil))))
        (pss_cons (ps_set (i := 5) sc_functions.nd rfl (Or.inr rfl) (pe_call (ok_take T) (hr.mono (by decide)) (by rfl) T.g_take T.F_take.kp T.b_take .nil pass0 (pa_cons (pv 0) (pa_cons pe_int pa_nil))))
        (pss_cons (ps_setLc (i := 6) (own := [("_law_j", 7)]) (g := gName 7) rfl sc_functions.nd rfl rfl (sw_true rfl rfl rfl (by decide +kernel)) (pi_range1 (by rfl) T.m_range (pa_cons (pv 4) pa_nil)) (blkOk_by (N := n_functions) (sc := defScope s_functions) (by decide +kernel)) (fun _ _ _ _ _ => pg_name (i := 7) sc_functions.nd rfl (Or.inl rfl)) (fun _ _ _ _ _ => pts_one (pt_cmpR op_eq (pe_op op_mod (pe_callTy call_int1 (by rfl) T.m_int (by decide +kernel) (pa_cons (pe_op op_fdiv (pv 5) (pe_ix (show IxR _ (rIxL K) from ix_list) (pe_lst (pa_cons pe_int (pa_cons pe_int (pa_cons pe_int (pa_cons pe_int pa_nil))))) (pv 7) (fun _ _ => rfl))) pa_nil)) pe_int) pe_int (nomark _))) (fun _ _ _ _ _ => (pe_op op_add (pv 7) pe_int)))
        (pss_one (ps_expr (pe_bm PySem.F.plainAttrs_list PySem.F.slot_list_append PySem.F.type_list_append mt_append (pv 1) (pa_cons (pe_lst (pa_cons (pv 3) (pa_cons (pv 4) (pa_cons (pv 6) pa_nil)))) pa_nil)))))))))))
      (pss_one (ps_ret (pv 1))))), ?_⟩
    refine ⟨Nat.zero_le _, fun l1 hl1 => ⟨sz_of (by show 3 ≤ 100000; decide), fun r1 hr1 => ⟨Nat.zero_le _, fun l2 hl2 => ⟨sz_of (by show 3 ≤ 100000; decide), fun r2 hr2 => ⟨sz_of (by show 2 ≤ 100000; decide), fun F hF => ?_⟩⟩⟩⟩⟩
    have e1 := Ex.new (o := .lst []) hl1
    have e2 := Ex.new (o := .lst [.str "new", .int 0, .ref l1]) hr1
    have e3 := Ex.new (o := .lst []) hl2
    have e4 := Ex.new (o := .lst [.str "copy", .int 1, .ref l2]) hr2
    have e5 := Ex.new (o := .lst [.ref r1, .ref r2]) hF
    have f1 : RowAt (upd (upd H l1 (.lst [])) r1 (.lst [.str "new", .int 0, .ref l1])) r1 newR := ⟨l1, upd_same, e2 _ _ upd_same⟩
    have f2 : RowAt (upd (upd (upd (upd H l1 (.lst [])) r1 (.lst [.str "new", .int 0, .ref l1])) l2 (.lst [])) r2 (.lst [.str "copy", .int 1, .ref l2])) r2 copyR := ⟨l2, upd_same, e4 _ _ upd_same⟩
    have eA := (((e1.trans e2).trans e3).trans e4)
    have e0 := eA.trans e5
    have g1 := ((f1.mono e3).mono e4).mono e5
    have g2 := f2.mono e5
    have hFH : H F = none := eA.free' hF
    refine ⟨_, rfl, d, _, rfl, e0 _ _ hd, by decide, fun m m0 m1 => ⟨m, rfl, forR1 ⟨by omega, by omega⟩ (fun i σ' H' => ∃ v2 v3 v4 v5 v6 v7 as rs, σ' = [some (.ref d), some (.ref F), v2, v3, v4, v5, v6, v7] ∧ Ex H H' ∧ RowsAt H' F as (newR :: copyR :: rs) ∧ rs.length = i ∧ (∀ (j : Nat) (r : Rw), rs[j]? = some r → good r ∧ OwnOf (j : Int) r.1)) ⟨_, _, _, _, _, _, [r1, r2], [], rfl, e0, ⟨upd_same, .cons g1 (.cons g2 .nil)⟩, rfl, (fun j r h => by cases h)⟩ ?_ ?_⟩⟩
    · rintro i σ' H' hi ⟨v2, v3, v4, v5, v6, v7, as, rs, rfl, e6, ⟨hL, hR⟩, hl, hg⟩
      have hRl := hR.len
      have hi' : i < 5 := by omega
      refine ⟨_, rfl, _, rfl, d, (i : Int), rfl, e6 _ _ hd, by omega, by omega, fun z H2 hz hnm e7 => ?_⟩
      obtain ⟨o1, o2, o3⟩ := own_of (k := (i : Int)) (by omega) (by omega) hnm
      refine ⟨fun σ2 H3 => ∃ z, okS z = true ∧ (z ≠ "new" ∧ (z ≠ "copy" → OwnOf (i : Int) z) ∧ (z = "copy" → OwnOf (i : Int) "copys")) ∧ σ2 = [some (.ref d), some (.ref F), some (.int (i : Int)), some (.str z), v4, v5, v6, v7] ∧ H3 = H2, ?_, ?_⟩
      · refine ⟨_, rfl, rfl, _, rfl, ite2 (fun h => ?_) (fun h => ?_)⟩
        · exact ⟨"news", by decide +kernel, ⟨by decide +kernel, fun _ => o1 (V.str.inj (of_decide_eq_true h)), fun h2 => absurd h2 (by decide +kernel)⟩, rfl, rfl⟩
        · exact ⟨z, hz, ⟨fun e => h (decide_eq_true (congrArg V.str e)), fun h2 => o3 ⟨fun e => h (decide_eq_true (congrArg V.str e)), h2⟩, o2⟩, rfl, rfl⟩
      rintro σ2 H3 ⟨z1, hz1, hn1, rfl, rfl⟩
      refine ⟨fun σ2 H3' => ∃ z, okS z = true ∧ OwnOf (i : Int) z ∧ σ2 = [some (.ref d), some (.ref F), some (.int (i : Int)), some (.str z), v4, v5, v6, v7] ∧ H3' = H3, ?_, ?_⟩
      · refine ⟨_, rfl, rfl, _, rfl, ite2 (fun h => ?_) (fun h => ?_)⟩
        · exact ⟨"copys", by decide +kernel, hn1.2.2 (V.str.inj (of_decide_eq_true h)), rfl, rfl⟩
        · exact ⟨z1, hz1, hn1.2.1 (fun e => h (decide_eq_true (congrArg V.str e))), rfl, rfl⟩
      rintro σ3 H4 ⟨z2, hz2, hown, rfl, rfl⟩
      have e8 := e6.trans e7
      refine ⟨_, rfl, d, _, rfl, e8 _ _ hd, by decide, fun n n0 n1 => ⟨_, rfl, d, _, rfl, e8 _ _ hd, by decide, fun q q0 q1 => ?_⟩⟩
      refine ⟨_, rfl, n, rfl, by omega, by omega, fun D hD => ?_⟩
      refine lc_range (lo := 0) (n := n.toNat) (fun j H' => Ex H4 H' ∧ ∃ ns : List Int, H' D = some (.lst (ns.map V.int)) ∧ Asc (j : Int) ns) ⟨Ex.new hD, [], upd_same, List.Pairwise.nil, fun _ h => (nomatch h)⟩ ?_ ?_
      · rintro j H5 hj ⟨e9, ns, hLn, ha⟩
        have z0 : (0 : Int) + (j : Int) = (j : Int) := Int.zero_add _
        refine ⟨rfl, ?_⟩
        rw [z0]
        refine ⟨_, rfl, sz_of (by show 4 ≤ 100000; decide), fun p hp => ?_⟩
        have hj4 : j < 4 := by omega
        obtain ⟨r, hr⟩ : ∃ r : Int, atI [V.int 1, V.int 2, V.int 4, V.int 8] (j : Int) = some (.int r) ∧ 0 < r ∧ r < 1073741824 := by
          have : j = 0 ∨ j = 1 ∨ j = 2 ∨ j = 3 := by omega
          rcases this with h | h | h | h <;> subst h
          · exact ⟨1, atI_nat (j := 0) rfl, by decide, by decide⟩
          · exact ⟨2, atI_nat (j := 1) rfl, by decide, by decide⟩
          · exact ⟨4, atI_nat (j := 2) rfl, by decide, by decide⟩
          · exact ⟨8, atI_nat (j := 3) rfl, by decide, by decide⟩
        have eP := Ex.new (o := .lst [.int 1, .int 2, .int 4, .int 8]) hp
        refine ⟨_, rfl, p, _, _, _, rfl, rfl, SqL.of upd_same, hr.1, q, r, rfl, rfl, ⟨hr.2.1, hr.2.2⟩, .inl ⟨_, rfl, _, 2, rfl, rfl, (show (0 : Int) < 2 by decide), rfl, _, rfl, ite2 (fun _ => ?_) (fun _ => ?_)⟩⟩
        · refine ⟨_, rfl, _, 1, rfl, rfl, _, eP _ _ hLn, ?_, (e9.trans eP).mut hD, ns ++ [(j : Int) + 1], ?_, ?_, ?_⟩
          · rw [List.length_map]
            exact sz_lt (by have := asc_len (show (j : Int) ≤ 4 by omega) ns ha; omega)
          · rw [upd_same, List.map_append]
            rfl
          · rw [List.pairwise_append]
            refine ⟨ha.1, List.pairwise_singleton _ _, fun x hx y hy => ?_⟩
            rw [List.mem_singleton.mp hy]
            have := (ha.2 x hx).2
            omega
          · intro x hx
            rcases List.mem_append.mp hx with h | h
            · have := ha.2 x h
              omega
            · rw [List.mem_singleton.mp h]
              omega
        · exact ⟨e9.trans eP, ns, eP _ _ hLn, ha.1, fun x hx => by have := ha.2 x hx; omega⟩
      · rintro H5 ⟨e9, ns, hLn, ha⟩
        have ha' : Asc n ns := ⟨ha.1, fun x hx => by have := ha.2 x hx; omega⟩
        have eB := e8.trans e9
        have e79 := e7.trans e9
        refine ⟨_, rfl, .inl ⟨rfl, _, SqL.of (e79 _ _ hL)⟩, _, rfl, _, rfl, _, rfl, sz_of (by show 3 ≤ 100000; decide), fun p hp => ?_⟩
        have eP := Ex.new (o := .lst [.str z2, .int n, .ref D]) hp
        have hL6 := eP _ _ (e79 _ _ hL)
        have hR6 : All2 (RowAt (upd H5 p (.lst [.str z2, .int n, .ref D]))) as (newR :: copyR :: rs) := hR.imp fun _ _ h => (h.mono e79).mono eP
        have nc : p ≠ F := (ne_of_none (e79 _ _ hL) hp).symm
        have nl : D ≠ F := (ne_of_none (e7 _ _ hL) hD).symm
        refine ⟨F, _, _, rfl, rfl, hL6, sz_lt (by rw [List.length_map, hRl, List.length_cons, List.length_cons]; omega), _, _, _, _, _, _, as ++ [p], rs ++ [(z2, n, ns)], rfl, (eB.trans eP).mut hFH, ⟨by rw [upd_same, List.map_append]; rfl, ?_⟩, by rw [List.length_append, List.length_singleton, hl], fun j r hr => ?_⟩
        · exact (rows_upd hL6 hR6).snoc ⟨D, by rw [upd_ne nc]; exact upd_same, by rw [upd_ne nl]; exact eP _ _ hLn⟩
        · by_cases e : j < rs.length
          · rw [List.getElem?_append_left e] at hr
            exact hg j r hr
          · have hlt := (List.getElem?_eq_some_iff.mp hr).1
            rw [List.length_append, List.length_singleton] at hlt
            have e : j = rs.length := by omega
            subst e
            rw [List.getElem?_append_right (Nat.le_refl _), Nat.sub_self] at hr
            cases hr
            rw [hl]
            exact ⟨⟨hz2, ⟨n0, by show n ≤ 4; omega⟩, ha'⟩, hown⟩
    · rintro σ' H' ⟨v2, v3, v4, v5, v6, v7, as, rs, rfl, e6, hR, hl, hg⟩
      have hm4 : rs.length ≤ 4 := by omega
      refine ⟨_, rfl, k F as rs H' hFH e6 hR ⟨fun r hr => ?_, fun r hr => ?_, ?_, by omega⟩ hm4⟩
      · obtain ⟨j, hj⟩ := List.getElem?_of_mem hr
        exact (hg j r hj).1
      · obtain ⟨j, hj⟩ := List.getElem?_of_mem hr
        have hlt := (List.getElem?_eq_some_iff.mp hj).1
        exact own_nn (k := (j : Int)) (by omega) (by omega) (hg j r hj).2
      · refine List.pairwise_iff_getElem.mpr fun i j hi hj hij hxy => ?_
        rw [List.length_map] at hi hj
        rw [List.getElem_map, List.getElem_map] at hxy
        have a := (hg i rs[i] (List.getElem?_eq_getElem hi)).2
        have b := (hg j rs[j] (List.getElem?_eq_getElem hj)).2
        rw [← hxy] at b
        have := own_inj (k := (i : Int)) (k' := (j : Int)) (by omega) (by omega) (by omega) (by omega) a b
        omega
/-! ### expressions made on a stack -/
def CallIn (rs : List Rw) : Nd → Prop
  | .call w os => ∃ r ∈ rs, r.1 = w ∧ r.2.1 = (os.length : Int)
  | _ => True
structure LawAt (rs : List Rw) (H : Hp) (h N R X : Addr) (its : List It1) (as : List Addr) : Prop where
  hh : H h = some (.lst [.ref N, .ref R, .ref X])
  hN : H N = some (.lst (as.map V.ref))
  hA : Al2 (NdAt H) as (flat its)
  hR : H R = some (.lst (ni (rootsL 0 its)))
  hX : H X = some (.lst (its.map fun i => V.str (ofL i.1)))
  nd : [h, N, R, X].Nodup
  ok : Stk okS 0 its
  le : ∀ i ∈ its, i.1.length ≤ 14 * i.2.length
  cl : ∀ nd ∈ flat its, CallIn rs nd
theorem sum_le : ∀ b : List It1, (∀ i ∈ b, i.1.length ≤ 14 * i.2.length) → ((b.map (·.1)).map List.length).sum ≤ 14 * (flat b).length
  | [], _ => Nat.le_refl _
  | i :: b, h => by
    have := sum_le b fun j hj => h j (List.mem_cons_of_mem _ hj)
    have := h i List.mem_cons_self
    rw [show (flat (i :: b)).length = i.2.length + (flat b).length by simp [flat], List.map_cons, List.map_cons, List.sum_cons]
    omega
theorem flat_len2 : ∀ (b : List It1) (lo : Nat), Stk okS lo b → b.length ≤ (flat b).length
  | [], _, _ => Nat.le_refl _
  | (t, ns) :: b, lo, h => by
    have := flat_len2 b _ h.2
    have := List.length_pos_iff.mpr h.1.1
    rw [show (flat ((t, ns) :: b)).length = ns.length + (flat b).length by simp [flat], List.length_cons]
    omega
theorem flat_app (a b : List It1) : flat (a ++ b) = flat a ++ flat b := List.flatMap_append ..
theorem NdAt.fr {H H' : Hp} {a : Addr} {nd : Nd} {bad : Addr → Prop} (hb : ∀ x, bad x → ∃ xs, H x = some (.lst xs)) (fr : ∀ x o, ¬ bad x → H x = some o → H' x = some o) (h : NdAt H a nd) : NdAt H' a nd := by
  have kp : ∀ {b : Addr} {ts : List V}, H b = some (.tup ts) → H' b = some (.tup ts) := fun {b ts} e => fr b _ (fun z => by
    obtain ⟨xs, q⟩ := hb b z
    rw [e] at q
    cases q) e
  cases nd with
  | name w => exact kp h
  | call w os =>
    obtain ⟨t, h1, h2⟩ := h
    exact ⟨t, kp h1, kp h2⟩
  | op w os => exact kp h
theorem ni_app (a b : List Nat) : ni (a ++ b) = ni a ++ ni b := List.map_append
theorem take_pop {α : Type} {l : List α} {m : Nat} (h : m ≤ l.length) : (l.take m).dropLast = l.take (m - 1) := by
  rw [List.dropLast_eq_take, List.length_take, List.take_take, Nat.min_eq_left h]
  congr 1
  omega
theorem take_last {α : Type} {l : List α} {m : Nat} (h0 : 0 < m) (h : m ≤ l.length) : ∃ y, (l.take m)[(l.take m).length - 1]? = some y := by
  rw [List.length_take, Nat.min_eq_left h]
  exact ⟨(l.take m)[m - 1]'(by rw [List.length_take]; omega), List.getElem?_eq_getElem _⟩
def spAddL : Sp := fun vs H Q _ => ∃ (rs : List Rw) (h N R X : Addr) (a b : List It1) (as : List Addr) (kind wd : Str), vs = [.ref h, .str kind, .str wd, .int (b.length : Int)] ∧ LawAt rs H h N R X (a ++ b) as ∧ (flat (a ++ b)).length ≤ 20 ∧ b.length ≤ 4 ∧
  ((kind = "name" ∧ okS wd = true ∧ b = []) ∨ (kind = "call" ∧ okS wd = true ∧ ∃ r ∈ rs, r.1 = wd ∧ r.2.1 = (b.length : Int)) ∨ (kind = wd ∧ opsT.lookup wd = some (b.length : Int))) ∧
  ∀ H' it as', (∀ x o, x ≠ N → x ≠ R → x ≠ X → H x = some o → H' x = some o) → LawAt rs H' h N R X (a ++ [it]) as' → it.2.length = (flat b).length + 1 → Q .non H'
theorem ok_add (T : Tx0 w K mg A) : FnOk P w K mg base CX0 1 A.add A.d_add p_add spAddL := by
  refine T.F_add.ok sc_add (fun vs H Q E h => ?_) (fun cdv Ar outer s H vs Q E hr h => ?_)
  · obtain ⟨rs, hp, N, R, X, a, b, as, kind, wd, rfl, _⟩ := h
    rfl
  · obtain ⟨rs, hp, N, R, X, a, b, as, kind, wd, rfl, L, h20, hb4, hk, k⟩ := h
    refine ⟨_, (pss_cons (ps_set (i := 4) sc_add.nd rfl (Or.inl rfl) (pe_ix ix_list (pv 0) pe_int (fun _ _ => rfl)))
      (pss_cons (ps_set (i := 5) sc_add.nd rfl (Or.inl rfl) (pe_ix ix_list (pv 0) pe_int (fun _ _ => rfl)))
      (pss_cons (ps_set (i := 6) sc_add.nd rfl (Or.inl rfl) (pe_ix ix_list (pv 0) pe_int (fun _ _ => rfl)))
      (pss_cons (ps_set (i := 7) sc_add.nd rfl (Or.inl rfl) (pe_op op_sub (pe_callB call_len_seq (by rfl) T.m_len PySem.boot_len (pa_cons (pv 5) pa_nil)) (pv 3)))
      (pss_cons (ps_set (i := 8) sc_add.nd rfl (Or.inl rfl) (pe_callTy call_tuple_of (by rfl) T.m_tuple (by decide +kernel) (pa_cons (pe_slice sl_list (pv 5) (po_some (pv 7)) po_none) pa_nil)))
      (pss_cons (ps_set (i := 9) sc_add.nd rfl (Or.inl rfl) (pe_op op_add_str (pe_op op_add_str (pe_op op_add_str (pv 2) pe_str) (pe_bm PySem.F.plainAttrs_str PySem.F.slot_str_join PySem.F.type_str_join mt_join pe_str (pa_cons (pe_slice sl_list (pv 6) (po_some (pv 7)) po_none) pa_nil))) pe_str))
      (pss_cons (ps_set (i := 10) sc_add.nd rfl (Or.inl rfl) (pe_op op_catT (pe_tup (pa_cons (pv 1) pa_nil)) (pv 8)))
      (Evl.pss_cut (ps_if (pt_cmpR op_eq (pv 1) pe_str (nomark _)) (pss_cons (ps_set (i := 9) sc_add.nd rfl (Or.inl rfl) (pv 2))
        (pss_one (ps_set (i := 10) sc_add.nd rfl (Or.inl rfl) (pe_tup (pa_cons (pv 1) (pa_cons (pv 2) pa_nil)))))) pss_nil)
      (Evl.pss_cut (ps_if (pt_cmpR op_eq (pv 1) pe_str (nomark _)) (pss_one (ps_set (i := 10) sc_add.nd rfl (Or.inl rfl) (pe_tup (pa_cons (pv 1) (pa_cons (pv 2) (pa_cons (pv 8) pa_nil)))))) pss_nil)
      (pss_cons (ps_for PassesOwn.never rfl (pi_range1 (by rfl) T.m_range (pa_cons (pv 3) pa_nil)) (pg_name (i := 11) sc_add.nd rfl (Or.inl rfl)) (pss_cons (ps_expr (pe_bm0 PySem.F.plainAttrs_list PySem.F.slot_list_pop PySem.F.type_list_pop mt_pop (pv 5)))
        (pss_one (ps_expr (pe_bm0 PySem.F.plainAttrs_list PySem.F.slot_list_pop PySem.F.type_list_pop mt_pop (pv 6))))))
      (pss_cons (ps_expr (pe_bm PySem.F.plainAttrs_list PySem.F.slot_list_append PySem.F.type_list_append mt_append (pv 5) (pa_cons (pe_callB call_len_seq (by rfl) T.m_len PySem.boot_len (pa_cons (pv 4) pa_nil)) pa_nil)))
      (pss_cons (ps_expr (pe_bm PySem.F.plainAttrs_list PySem.F.slot_list_append PySem.F.type_list_append mt_append (pv 6) (pa_cons (pv 9) pa_nil)))
      (pss_one (ps_expr (pe_bm PySem.F.plainAttrs_list PySem.F.slot_list_append PySem.F.type_list_append mt_append (pv 4) (pa_cons (pv 10) pa_nil)))))))))))))))), ?_⟩
    obtain ⟨hh, hN, hA, hR, hX, hnd, hok, hle, hcl⟩ := L
    have nds := hnd
    simp only [List.nodup_cons, List.mem_cons, List.not_mem_nil, or_false, not_or, List.nodup_nil, and_true, not_false_eq_true] at nds
    obtain ⟨⟨d1, d2, d3⟩, ⟨d4, d5⟩, d6⟩ := nds
    have hlen := hA.len
    have rl : (ni (rootsL 0 (a ++ b))).length = a.length + b.length := by rw [ni_len, roots_len, List.length_append]
    have hat : (((ni (rootsL 0 (a ++ b))).length : Int) - (b.length : Int)) = (a.length : Int) := by rw [rl]; omega
    have hrb : cutV (ni (rootsL 0 (a ++ b))) (some (((ni (rootsL 0 (a ++ b))).length : Int) - (b.length : Int))) none = ni (rootsL (flat a).length b) := by
      rw [hat, UL.cut_from, roots_append, ni_app, List.drop_append_of_le_length (by rw [ni_len, roots_len]; omega), List.drop_eq_nil_of_le (by rw [ni_len, roots_len]; omega), List.nil_append, Nat.zero_add]
    have hxb : cutV ((a ++ b).map fun i => V.str (ofL i.1)) (some (((ni (rootsL 0 (a ++ b))).length : Int) - (b.length : Int))) none = (b.map fun i => V.str (ofL i.1)) := by
      rw [hat, UL.cut_from, List.map_append, List.drop_append_of_le_length (by rw [List.length_map]; omega), List.drop_eq_nil_of_le (by rw [List.length_map]; omega), List.nil_append]
    obtain ⟨hoka, hokb⟩ := (stk_append okS a b 0).mp hok
    rw [Nat.zero_add] at hokb
    have hfab : (flat (a ++ b)).length = (flat a).length + (flat b).length := by rw [flat_app, List.length_append]
    have hbs : ((b.map (·.1)).map List.length).sum ≤ 14 * (flat b).length := sum_le b fun i hi => hle i (List.mem_append_right _ hi)
    have hjl : (joinC (b.map (·.1))).length ≤ 14 * (flat b).length + b.length := by
      have := joinC_len (b.map (·.1))
      rw [List.length_map] at this
      omega
    have hw8 : wd.length ≤ 8 := by
      rcases hk with ⟨_, h, _⟩ | ⟨_, h⟩ | ⟨_, h⟩
      · exact okS_len h
      · exact okS_len h.1
      · exact (op_plain h).2
    have b1 := Nat.le_of_eq hfab
    refine ⟨_, rfl, hp, _, 0, .ref N, rfl, rfl, SqL.of hh, atI_nat (j := 0) rfl, ?_⟩
    refine ⟨_, rfl, hp, _, 1, .ref R, rfl, rfl, SqL.of hh, atI_nat (j := 1) rfl, ?_⟩
    refine ⟨_, rfl, hp, _, 2, .ref X, rfl, rfl, SqL.of hh, atI_nat (j := 2) rfl, ?_⟩
    refine ⟨_, rfl, R, _, rfl, .inl (SqL.of hR), _, rfl, _, (b.length : Int), rfl, rfl, ?_⟩
    refine ⟨_, rfl, _, rfl, _, rfl, R, _, rfl, SqL.of hR, fun s1 hs1 => ?_⟩
    rw [hrb]
    refine ⟨s1, _, rfl, .inl ⟨SqL.of upd_same, fun t ht => ?_⟩⟩
    have e1 := Ex.new (o := .lst (ni (rootsL (flat a).length b))) hs1
    have e2 := e1.trans (Ex.new (o := .tup (ni (rootsL (flat a).length b))) ht)
    refine ⟨_, rfl, wd, _, rfl, rfl, sz_of (by show wd.length + 1 ≤ 100000; omega), ?_⟩
    have hX2 := e2 _ _ hX
    have ht2 : upd (upd H s1 (.lst (ni (rootsL (flat a).length b)))) t (.tup (ni (rootsL (flat a).length b))) t = some (.tup (ni (rootsL (flat a).length b))) := upd_same
    generalize upd (upd H s1 (.lst (ni (rootsL (flat a).length b)))) t (.tup (ni (rootsL (flat a).length b))) = H2 at e2 hX2 ht2 ⊢
    refine ⟨rfl, _, rfl, _, rfl, _, rfl, X, _, rfl, SqL.of hX2, fun s2 hs2 => ?_⟩
    rw [hxb]
    have e3 := e2.trans (Ex.new (o := .lst (b.map fun i => V.str (ofL i.1))) hs2)
    have ht3 := (Ex.new (o := .lst (b.map fun i => V.str (ofL i.1))) hs2) _ _ ht2
    have hs3 : upd H2 s2 (.lst (b.map fun i => V.str (ofL i.1))) s2 = some (.lst (((b.map (·.1)).map ofL).map V.str)) := by
      rw [upd_same, List.map_map, List.map_map]
      rfl
    generalize upd H2 s2 (.lst (b.map fun i => V.str (ofL i.1))) = H3 at e3 ht3 hs3 ⊢
    have hjn := join_C (b.map (·.1))
    have hjl2 : (Txt.join "," ((b.map (·.1)).map ofL)).length = (joinC (b.map (·.1))).length := by rw [hjn, ofL_len]
    refine ⟨",", s2, (b.map (·.1)).map ofL, rfl, rfl, .inl (SqL.of hs3), ?_, _, _, rfl, rfl, sz_of (by rw [len_app]; show wd.length + 1 + _ ≤ 100000; rw [hjl2]; omega), _, _, rfl, rfl, sz_of (by rw [len_app, len_app]; show wd.length + 1 + _ + 1 ≤ 100000; rw [hjl2]; omega), ?_⟩
    · rw [List.map_map, show (fun x : Str => x.length) ∘ ofL = List.length from funext fun l => ofL_len l, List.length_map, List.length_map]
      show _ + b.length * 1 ≤ 16777216
      omega
    have hT : tl (wd ++ "(" ++ Txt.join "," ((b.map (·.1)).map ofL) ++ ")") = tl wd ++ 40 :: joinC (b.map (·.1)) ++ [41] := by
      rw [tl_append, tl_append, tl_append, hjn, tl_ofL, show tl "(" = [40] by decide +kernel, show tl ")" = [41] by decide +kernel]
      simp
    generalize wd ++ "(" ++ Txt.join "," ((b.map (·.1)).map ofL) ++ ")" = tx at hT ⊢
    refine ⟨_, rfl, sz_of (by show 1 ≤ 100000; decide), fun k1 hk1 => ?_⟩
    have e4 := e3.trans (Ex.new (o := .tup [.str kind]) hk1)
    have ht4 := (Ex.new (o := .tup [.str kind]) hk1) _ _ ht3
    have hk4 : upd H3 k1 (.tup [.str kind]) k1 = some (.tup [.str kind]) := upd_same
    generalize upd H3 k1 (.tup [.str kind]) = H4 at e4 ht4 hk4 ⊢
    have hrn : (ni (rootsL (flat a).length b)).length = b.length := by rw [ni_len, roots_len]
    refine ⟨_, rfl, k1, t, _, _, rfl, rfl, SqT.of hk4, SqT.of ht4, by simp, sz_of (by rw [hrn]; show 1 + b.length ≤ 100000; omega), (fun e => ?_), (fun ne n0 hn0 => ?_)⟩
    · have hn0 : H4 k1 = some (.tup (.str kind :: ni (rootsL (flat a).length b))) := by rw [e]; exact hk4
      have e5 := e4
      have ht5 := ht4
      revert hn0
      generalize k1 = n0
      intro hn0
      refine ⟨fun σ' H' => ∃ (y : Str) (n : Addr), σ' = [some (.ref hp), some (.str kind), some (.str wd), some (.int (b.length : Int)), some (.ref N), some (.ref R), some (.ref X), some (.int (((ni (rootsL 0 (a ++ b))).length : Int) - (b.length : Int))), some (.ref t), some (.str y), some (.ref n), none] ∧ Ex H H' ∧ H' t = some (.tup (ni (rootsL (flat a).length b))) ∧ ((kind = "name" ∧ y = wd ∧ H' n = some (.tup [.str "name", .str wd])) ∨ (kind ≠ "name" ∧ y = tx ∧ H' n = some (.tup (.str kind :: ni (rootsL (flat a).length b))))), ?_, ?_⟩
      · refine ⟨_, rfl, rfl, _, rfl, ?_⟩
        rw [str_eqb]
        by_cases hkn : kind = "name"
        · rw [decide_eq_true hkn]
          refine iteT ⟨_, rfl, _, rfl, _, rfl, sz_of (by show 2 ≤ 100000; decide), fun n hn => ?_⟩
          exact ⟨wd, n, rfl, e5.trans (Ex.new hn), (Ex.new hn) _ _ ht5, .inl ⟨hkn, rfl, by rw [upd_same, hkn]⟩⟩
        · rw [decide_eq_false hkn]
          exact iteF ⟨tx, n0, rfl, e5, ht5, .inr ⟨hkn, rfl, hn0⟩⟩
      rintro σ' H5 ⟨y, n, rfl, e6, ht6, hcase⟩
      refine ⟨fun σ' H' => ∃ (y : Str) (n : Addr) (nd : Nd), σ' = [some (.ref hp), some (.str kind), some (.str wd), some (.int (b.length : Int)), some (.ref N), some (.ref R), some (.ref X), some (.int (((ni (rootsL 0 (a ++ b))).length : Int) - (b.length : Int))), some (.ref t), some (.str y), some (.ref n), none] ∧ Ex H H' ∧ NdAt H' n nd ∧ GoodE okS (tl y) (flat a).length (flat b ++ [nd]) ∧ y.length ≤ 14 * ((flat b).length + 1) ∧ CallIn rs nd, ?_, ?_⟩
      · refine ⟨_, rfl, rfl, _, rfl, ?_⟩
        rw [str_eqb]
        have hTl : tx.length ≤ 14 * ((flat b).length + 1) := by
          rw [len_tl, hT, List.length_append, List.length_append, List.length_cons, ← len_tl]
          show wd.length + (_ + 1) + 1 ≤ _
          omega
        have hrl4 : (rootsL (flat a).length b).length = b.length := roots_len b _
        rcases hk with ⟨k1, k2, k3⟩ | ⟨k1, k2, k4⟩ | ⟨k1, k2⟩
        · rw [decide_eq_false (by rw [k1]; decide +kernel)]
          rcases hcase with ⟨_, hy, hn⟩ | ⟨c1, _⟩
          · refine iteF ⟨y, n, .name wd, rfl, e6, hn, ?_, by rw [hy]; omega, trivial⟩
            rw [hy, k3]
            have g := good_name (okw := okS) (lo := (flat a).length) (okS_plain k2) (okS_all k2).2 (by rw [ofL_tl]; exact k2)
            rw [ofL_tl] at g
            exact g
          · exact absurd k1 c1
        · rw [decide_eq_true k1]
          rcases hcase with ⟨c1, _⟩ | ⟨_, hy, hn⟩
          · rw [k1] at c1
            exact absurd c1 (by decide +kernel)
          · refine iteT ⟨_, rfl, _, rfl, _, rfl, sz_of (by show 3 ≤ 100000; decide), fun q hq => ?_⟩
            refine ⟨y, q, .call wd (rootsL (flat a).length b), rfl, e6.trans (Ex.new hq), ⟨t, by rw [upd_same, k1], (Ex.new hq) _ _ ht6⟩, ?_, by rw [hy]; exact hTl, by show ∃ r ∈ rs, r.1 = wd ∧ r.2.1 = ((rootsL (flat a).length b).length : Int); rw [hrl4]; exact k4⟩
            rw [hy, hT]
            exact good_op hokb (okS_plain k2) (by rw [ofL_tl, oper_no (okS_noop k2), if_pos ⟨k2, by omega⟩])
        · have hne := opw_ne (w := wd) (os := rootsL (flat a).length b) (by show opsT.lookup wd = some _; rw [hrl4]; exact k2)
          rw [decide_eq_false (by rw [k1]; exact hne.2)]
          rcases hcase with ⟨c1, _⟩ | ⟨_, hy, hn⟩
          · exact absurd (k1.symm.trans c1) hne.1
          · refine iteF ⟨y, n, .op wd (rootsL (flat a).length b), rfl, e6, by rw [k1] at hn; exact hn, ?_, by rw [hy]; exact hTl, trivial⟩
            rw [hy, hT]
            exact good_op hokb (op_plain k2).1 (by rw [ofL_tl, oper_at k2, if_pos (by rw [hrl4])])
      rintro σ' H6 ⟨y6, n6, nd, rfl, e7, hnd6, hgd, hyl, hcn⟩
      have hTXl : ((a ++ b).map fun i => V.str (ofL i.1)).length = a.length + b.length := by rw [List.length_map, List.length_append]
      have hR6 := e7 _ _ hR
      have hX6 := e7 _ _ hX
      refine ⟨_, rfl, (b.length : Int), rfl, forR1 ⟨by omega, by omega⟩ (fun j σ' H' => ∃ v11, σ' = [some (.ref hp), some (.str kind), some (.str wd), some (.int (b.length : Int)), some (.ref N), some (.ref R), some (.ref X), some (.int (((ni (rootsL 0 (a ++ b))).length : Int) - (b.length : Int))), some (.ref t), some (.str y6), some (.ref n6), v11] ∧ (∀ x o, x ≠ R → x ≠ X → H6 x = some o → H' x = some o) ∧ H' R = some (.lst ((ni (rootsL 0 (a ++ b))).take (a.length + b.length - j))) ∧ H' X = some (.lst (((a ++ b).map fun i => V.str (ofL i.1)).take (a.length + b.length - j)))) ⟨_, rfl, fun _ _ _ _ h => h, by rw [Nat.sub_zero, List.take_of_length_le (by rw [rl]; exact Nat.le_refl _)]; exact hR6, by rw [Nat.sub_zero, List.take_of_length_le (by rw [hTXl]; exact Nat.le_refl _)]; exact hX6⟩ ?_ ?_⟩
      · rintro j σ' H' hj ⟨v11, rfl, fr, hRj, hXj⟩
        have hj' : j < b.length := by omega
        obtain ⟨y1, hy1⟩ := take_last (l := ni (rootsL 0 (a ++ b))) (m := a.length + b.length - j) (by omega) (by rw [rl]; omega)
        obtain ⟨y2, hy2⟩ := take_last (l := (a ++ b).map fun i => V.str (ofL i.1)) (m := a.length + b.length - j) (by omega) (by rw [hTXl]; omega)
        refine ⟨_, rfl, .inl ⟨rfl, _, SqL.of hRj⟩, R, _, y1, rfl, rfl, hRj, hy1, ?_⟩
        have hXj2 : upd H' R (.lst ((ni (rootsL 0 (a ++ b))).take (a.length + b.length - j)).dropLast) X = some (.lst (((a ++ b).map fun i => V.str (ofL i.1)).take (a.length + b.length - j))) := by
          rw [upd_ne (fun z => d6 z.symm)]
          exact hXj
        refine ⟨_, rfl, .inl ⟨rfl, _, SqL.of hXj2⟩, X, _, y2, rfl, rfl, hXj2, hy2, _, rfl, fun x o h1 h2 h3 => ?_, ?_, ?_⟩
        · rw [upd_ne h2, upd_ne h1]
          exact fr x o h1 h2 h3
        · rw [upd_ne d6, upd_same, take_pop (by rw [rl]; omega)]
          rfl
        · rw [upd_same, take_pop (by rw [hTXl]; omega)]
          rfl
      · rintro σ' H7 ⟨v11, rfl, fr, hR7, hX7⟩
        rw [Int.toNat_natCast, show a.length + b.length - b.length = a.length by omega] at hR7 hX7
        rw [roots_append, ni_app, List.take_append_of_le_length (by rw [ni_len, roots_len]; omega), List.take_of_length_le (by rw [ni_len, roots_len]; omega)] at hR7
        rw [List.map_append, List.take_append_of_le_length (by rw [List.length_map]; omega), List.take_of_length_le (by rw [List.length_map]; omega)] at hX7
        have hN7 := fr N _ d4 d5 (e7 _ _ hN)
        have hh7 := fr hp _ d2 d3 (e7 _ _ hh)
        refine ⟨_, rfl, .inl ⟨rfl, _, SqL.of hR7⟩, _, rfl, N, _, rfl, .inl (SqL.of hN7), R, _, _, rfl, rfl, hR7, sz_lt (by rw [ni_len, roots_len]; have := flat_len2 a 0 hoka; omega), ?_⟩
        have hX8 : upd H7 R (.lst (ni (rootsL 0 a) ++ [.int ((as.map V.ref).length : Int)])) X = some (.lst (a.map fun i => V.str (ofL i.1))) := by
          rw [upd_ne (fun z => d6 z.symm)]
          exact hX7
        refine ⟨_, rfl, .inl ⟨rfl, _, SqL.of hX8⟩, _, rfl, X, _, _, rfl, rfl, hX8, sz_lt (by rw [List.length_map]; have := flat_len2 a 0 hoka; omega), ?_⟩
        have hN9 : upd (upd H7 R (.lst (ni (rootsL 0 a) ++ [.int ((as.map V.ref).length : Int)]))) X (.lst ((a.map fun i => V.str (ofL i.1)) ++ [.str y6])) N = some (.lst (as.map V.ref)) := by
          rw [upd_ne d5, upd_ne d4]
          exact hN7
        refine ⟨_, rfl, .inl ⟨rfl, _, SqL.of hN9⟩, _, rfl, N, _, _, rfl, rfl, hN9, sz_lt (by rw [List.length_map]; omega), ?_⟩
        have kp : ∀ {q : Addr} {nd : Nd}, NdAt H6 q nd → NdAt (upd (upd (upd H7 R (.lst (ni (rootsL 0 a) ++ [.int ((as.map V.ref).length : Int)]))) X (.lst ((a.map fun i => V.str (ofL i.1)) ++ [.str y6]))) N (.lst (as.map V.ref ++ [.ref n6]))) q nd := fun {q nd} h => by
          refine (((h.fr (bad := fun x => x = R ∨ x = X) ?_ fun x o hx => fr x o (fun z => hx (.inl z)) (fun z => hx (.inr z))).put hR7).put hX8).put hN9
          rintro x (rfl | rfl)
          · exact ⟨_, hR6⟩
          · exact ⟨_, hX6⟩
        refine k _ (tl y6, flat b ++ [nd]) (as ++ [n6]) (fun x o h1 h2 h3 h4 => ?_) ⟨?_, ?_, ?_, ?_, ?_, hnd, ?_, ?_, ?_⟩ (by rw [List.length_append]; rfl)
        · rw [upd_ne h1, upd_ne h3, upd_ne h2]
          exact fr x o h2 h3 (e7 _ _ h4)
        · rw [upd_ne d1, upd_ne d3, upd_ne d2]
          exact hh7
        · rw [upd_same, List.map_append]
          rfl
        · have e : flat (a ++ [(tl y6, flat b ++ [nd])]) = flat (a ++ b) ++ [nd] := by rw [flat_app, flat_app]; simp [flat]
          rw [e]
          exact (hA.imp fun _ _ h => kp (h.mono e7)).snoc (kp hnd6)
        · rw [upd_ne (fun z => d4 z.symm), upd_ne d6, upd_same, roots_append, ni_app, List.length_map, hlen, hfab]
          show _ = some (HO.lst (ni (rootsL 0 a) ++ [.int ((0 + (flat a).length + (flat b ++ [nd]).length - 1 : Nat) : Int)]))
          rw [List.length_append, List.length_singleton, show 0 + (flat a).length + ((flat b).length + 1) - 1 = (flat a).length + (flat b).length by omega]
        · rw [upd_ne (fun z => d5 z.symm), upd_same, List.map_append]
          show _ = some (HO.lst (_ ++ [.str (ofL (tl y6))]))
          rw [ofL_tl]
        · exact (stk_append okS a _ 0).mpr ⟨hoka, by rw [Nat.zero_add]; exact ⟨hgd, trivial⟩⟩
        · intro i hi
          rcases List.mem_append.mp hi with h | h
          · exact hle i (List.mem_append_left _ h)
          · rw [List.mem_singleton.mp h]
            show (tl y6).length ≤ 14 * (flat b ++ [nd]).length
            rw [← len_tl, List.length_append]
            exact hyl
        · have e : flat (a ++ [(tl y6, flat b ++ [nd])]) = flat (a ++ b) ++ [nd] := by rw [flat_app, flat_app]; simp [flat]
          rw [e]
          intro nd' hnd'
          rcases List.mem_append.mp hnd' with h | h
          · exact hcl nd' h
          · rw [List.mem_singleton.mp h]
            exact hcn
    · have e5 := e4.trans (Ex.new (o := .tup ([V.str kind] ++ ni (rootsL (flat a).length b))) hn0)
      have ht5 := (Ex.new (o := .tup ([V.str kind] ++ ni (rootsL (flat a).length b))) hn0) _ _ ht4
      have hn0 : upd H4 n0 (.tup ([V.str kind] ++ ni (rootsL (flat a).length b))) n0 = some (.tup (.str kind :: ni (rootsL (flat a).length b))) := upd_same
      generalize upd H4 n0 (.tup ([V.str kind] ++ ni (rootsL (flat a).length b))) = H4 at e5 ht5 hn0 ⊢
      refine ⟨fun σ' H' => ∃ (y : Str) (n : Addr), σ' = [some (.ref hp), some (.str kind), some (.str wd), some (.int (b.length : Int)), some (.ref N), some (.ref R), some (.ref X), some (.int (((ni (rootsL 0 (a ++ b))).length : Int) - (b.length : Int))), some (.ref t), some (.str y), some (.ref n), none] ∧ Ex H H' ∧ H' t = some (.tup (ni (rootsL (flat a).length b))) ∧ ((kind = "name" ∧ y = wd ∧ H' n = some (.tup [.str "name", .str wd])) ∨ (kind ≠ "name" ∧ y = tx ∧ H' n = some (.tup (.str kind :: ni (rootsL (flat a).length b))))), ?_, ?_⟩
      · refine ⟨_, rfl, rfl, _, rfl, ?_⟩
        rw [str_eqb]
        by_cases hkn : kind = "name"
        · rw [decide_eq_true hkn]
          refine iteT ⟨_, rfl, _, rfl, _, rfl, sz_of (by show 2 ≤ 100000; decide), fun n hn => ?_⟩
          exact ⟨wd, n, rfl, e5.trans (Ex.new hn), (Ex.new hn) _ _ ht5, .inl ⟨hkn, rfl, by rw [upd_same, hkn]⟩⟩
        · rw [decide_eq_false hkn]
          exact iteF ⟨tx, n0, rfl, e5, ht5, .inr ⟨hkn, rfl, hn0⟩⟩
      rintro σ' H5 ⟨y, n, rfl, e6, ht6, hcase⟩
      refine ⟨fun σ' H' => ∃ (y : Str) (n : Addr) (nd : Nd), σ' = [some (.ref hp), some (.str kind), some (.str wd), some (.int (b.length : Int)), some (.ref N), some (.ref R), some (.ref X), some (.int (((ni (rootsL 0 (a ++ b))).length : Int) - (b.length : Int))), some (.ref t), some (.str y), some (.ref n), none] ∧ Ex H H' ∧ NdAt H' n nd ∧ GoodE okS (tl y) (flat a).length (flat b ++ [nd]) ∧ y.length ≤ 14 * ((flat b).length + 1) ∧ CallIn rs nd, ?_, ?_⟩
      · refine ⟨_, rfl, rfl, _, rfl, ?_⟩
        rw [str_eqb]
        have hTl : tx.length ≤ 14 * ((flat b).length + 1) := by
          rw [len_tl, hT, List.length_append, List.length_append, List.length_cons, ← len_tl]
          show wd.length + (_ + 1) + 1 ≤ _
          omega
        have hrl4 : (rootsL (flat a).length b).length = b.length := roots_len b _
        rcases hk with ⟨k1, k2, k3⟩ | ⟨k1, k2, k4⟩ | ⟨k1, k2⟩
        · rw [decide_eq_false (by rw [k1]; decide +kernel)]
          rcases hcase with ⟨_, hy, hn⟩ | ⟨c1, _⟩
          · refine iteF ⟨y, n, .name wd, rfl, e6, hn, ?_, by rw [hy]; omega, trivial⟩
            rw [hy, k3]
            have g := good_name (okw := okS) (lo := (flat a).length) (okS_plain k2) (okS_all k2).2 (by rw [ofL_tl]; exact k2)
            rw [ofL_tl] at g
            exact g
          · exact absurd k1 c1
        · rw [decide_eq_true k1]
          rcases hcase with ⟨c1, _⟩ | ⟨_, hy, hn⟩
          · rw [k1] at c1
            exact absurd c1 (by decide +kernel)
          · refine iteT ⟨_, rfl, _, rfl, _, rfl, sz_of (by show 3 ≤ 100000; decide), fun q hq => ?_⟩
            refine ⟨y, q, .call wd (rootsL (flat a).length b), rfl, e6.trans (Ex.new hq), ⟨t, by rw [upd_same, k1], (Ex.new hq) _ _ ht6⟩, ?_, by rw [hy]; exact hTl, by show ∃ r ∈ rs, r.1 = wd ∧ r.2.1 = ((rootsL (flat a).length b).length : Int); rw [hrl4]; exact k4⟩
            rw [hy, hT]
            exact good_op hokb (okS_plain k2) (by rw [ofL_tl, oper_no (okS_noop k2), if_pos ⟨k2, by omega⟩])
        · have hne := opw_ne (w := wd) (os := rootsL (flat a).length b) (by show opsT.lookup wd = some _; rw [hrl4]; exact k2)
          rw [decide_eq_false (by rw [k1]; exact hne.2)]
          rcases hcase with ⟨c1, _⟩ | ⟨_, hy, hn⟩
          · exact absurd (k1.symm.trans c1) hne.1
          · refine iteF ⟨y, n, .op wd (rootsL (flat a).length b), rfl, e6, by rw [k1] at hn; exact hn, ?_, by rw [hy]; exact hTl, trivial⟩
            rw [hy, hT]
            exact good_op hokb (op_plain k2).1 (by rw [ofL_tl, oper_at k2, if_pos (by rw [hrl4])])
      rintro σ' H6 ⟨y6, n6, nd, rfl, e7, hnd6, hgd, hyl, hcn⟩
      have hTXl : ((a ++ b).map fun i => V.str (ofL i.1)).length = a.length + b.length := by rw [List.length_map, List.length_append]
      have hR6 := e7 _ _ hR
      have hX6 := e7 _ _ hX
      refine ⟨_, rfl, (b.length : Int), rfl, forR1 ⟨by omega, by omega⟩ (fun j σ' H' => ∃ v11, σ' = [some (.ref hp), some (.str kind), some (.str wd), some (.int (b.length : Int)), some (.ref N), some (.ref R), some (.ref X), some (.int (((ni (rootsL 0 (a ++ b))).length : Int) - (b.length : Int))), some (.ref t), some (.str y6), some (.ref n6), v11] ∧ (∀ x o, x ≠ R → x ≠ X → H6 x = some o → H' x = some o) ∧ H' R = some (.lst ((ni (rootsL 0 (a ++ b))).take (a.length + b.length - j))) ∧ H' X = some (.lst (((a ++ b).map fun i => V.str (ofL i.1)).take (a.length + b.length - j)))) ⟨_, rfl, fun _ _ _ _ h => h, by rw [Nat.sub_zero, List.take_of_length_le (by rw [rl]; exact Nat.le_refl _)]; exact hR6, by rw [Nat.sub_zero, List.take_of_length_le (by rw [hTXl]; exact Nat.le_refl _)]; exact hX6⟩ ?_ ?_⟩
      · rintro j σ' H' hj ⟨v11, rfl, fr, hRj, hXj⟩
        have hj' : j < b.length := by omega
        obtain ⟨y1, hy1⟩ := take_last (l := ni (rootsL 0 (a ++ b))) (m := a.length + b.length - j) (by omega) (by rw [rl]; omega)
        obtain ⟨y2, hy2⟩ := take_last (l := (a ++ b).map fun i => V.str (ofL i.1)) (m := a.length + b.length - j) (by omega) (by rw [hTXl]; omega)
        refine ⟨_, rfl, .inl ⟨rfl, _, SqL.of hRj⟩, R, _, y1, rfl, rfl, hRj, hy1, ?_⟩
        have hXj2 : upd H' R (.lst ((ni (rootsL 0 (a ++ b))).take (a.length + b.length - j)).dropLast) X = some (.lst (((a ++ b).map fun i => V.str (ofL i.1)).take (a.length + b.length - j))) := by
          rw [upd_ne (fun z => d6 z.symm)]
          exact hXj
        refine ⟨_, rfl, .inl ⟨rfl, _, SqL.of hXj2⟩, X, _, y2, rfl, rfl, hXj2, hy2, _, rfl, fun x o h1 h2 h3 => ?_, ?_, ?_⟩
        · rw [upd_ne h2, upd_ne h1]
          exact fr x o h1 h2 h3
        · rw [upd_ne d6, upd_same, take_pop (by rw [rl]; omega)]
          rfl
        · rw [upd_same, take_pop (by rw [hTXl]; omega)]
          rfl
      · rintro σ' H7 ⟨v11, rfl, fr, hR7, hX7⟩
        rw [Int.toNat_natCast, show a.length + b.length - b.length = a.length by omega] at hR7 hX7
        rw [roots_append, ni_app, List.take_append_of_le_length (by rw [ni_len, roots_len]; omega), List.take_of_length_le (by rw [ni_len, roots_len]; omega)] at hR7
        rw [List.map_append, List.take_append_of_le_length (by rw [List.length_map]; omega), List.take_of_length_le (by rw [List.length_map]; omega)] at hX7
        have hN7 := fr N _ d4 d5 (e7 _ _ hN)
        have hh7 := fr hp _ d2 d3 (e7 _ _ hh)
        refine ⟨_, rfl, .inl ⟨rfl, _, SqL.of hR7⟩, _, rfl, N, _, rfl, .inl (SqL.of hN7), R, _, _, rfl, rfl, hR7, sz_lt (by rw [ni_len, roots_len]; have := flat_len2 a 0 hoka; omega), ?_⟩
        have hX8 : upd H7 R (.lst (ni (rootsL 0 a) ++ [.int ((as.map V.ref).length : Int)])) X = some (.lst (a.map fun i => V.str (ofL i.1))) := by
          rw [upd_ne (fun z => d6 z.symm)]
          exact hX7
        refine ⟨_, rfl, .inl ⟨rfl, _, SqL.of hX8⟩, _, rfl, X, _, _, rfl, rfl, hX8, sz_lt (by rw [List.length_map]; have := flat_len2 a 0 hoka; omega), ?_⟩
        have hN9 : upd (upd H7 R (.lst (ni (rootsL 0 a) ++ [.int ((as.map V.ref).length : Int)]))) X (.lst ((a.map fun i => V.str (ofL i.1)) ++ [.str y6])) N = some (.lst (as.map V.ref)) := by
          rw [upd_ne d5, upd_ne d4]
          exact hN7
        refine ⟨_, rfl, .inl ⟨rfl, _, SqL.of hN9⟩, _, rfl, N, _, _, rfl, rfl, hN9, sz_lt (by rw [List.length_map]; omega), ?_⟩
        have kp : ∀ {q : Addr} {nd : Nd}, NdAt H6 q nd → NdAt (upd (upd (upd H7 R (.lst (ni (rootsL 0 a) ++ [.int ((as.map V.ref).length : Int)]))) X (.lst ((a.map fun i => V.str (ofL i.1)) ++ [.str y6]))) N (.lst (as.map V.ref ++ [.ref n6]))) q nd := fun {q nd} h => by
          refine (((h.fr (bad := fun x => x = R ∨ x = X) ?_ fun x o hx => fr x o (fun z => hx (.inl z)) (fun z => hx (.inr z))).put hR7).put hX8).put hN9
          rintro x (rfl | rfl)
          · exact ⟨_, hR6⟩
          · exact ⟨_, hX6⟩
        refine k _ (tl y6, flat b ++ [nd]) (as ++ [n6]) (fun x o h1 h2 h3 h4 => ?_) ⟨?_, ?_, ?_, ?_, ?_, hnd, ?_, ?_, ?_⟩ (by rw [List.length_append]; rfl)
        · rw [upd_ne h1, upd_ne h3, upd_ne h2]
          exact fr x o h2 h3 (e7 _ _ h4)
        · rw [upd_ne d1, upd_ne d3, upd_ne d2]
          exact hh7
        · rw [upd_same, List.map_append]
          rfl
        · have e : flat (a ++ [(tl y6, flat b ++ [nd])]) = flat (a ++ b) ++ [nd] := by rw [flat_app, flat_app]; simp [flat]
          rw [e]
          exact (hA.imp fun _ _ h => kp (h.mono e7)).snoc (kp hnd6)
        · rw [upd_ne (fun z => d4 z.symm), upd_ne d6, upd_same, roots_append, ni_app, List.length_map, hlen, hfab]
          show _ = some (HO.lst (ni (rootsL 0 a) ++ [.int ((0 + (flat a).length + (flat b ++ [nd]).length - 1 : Nat) : Int)]))
          rw [List.length_append, List.length_singleton, show 0 + (flat a).length + ((flat b).length + 1) - 1 = (flat a).length + (flat b).length by omega]
        · rw [upd_ne (fun z => d5 z.symm), upd_same, List.map_append]
          show _ = some (HO.lst (_ ++ [.str (ofL (tl y6))]))
          rw [ofL_tl]
        · exact (stk_append okS a _ 0).mpr ⟨hoka, by rw [Nat.zero_add]; exact ⟨hgd, trivial⟩⟩
        · intro i hi
          rcases List.mem_append.mp hi with h | h
          · exact hle i (List.mem_append_left _ h)
          · rw [List.mem_singleton.mp h]
            show (tl y6).length ≤ 14 * (flat b ++ [nd]).length
            rw [← len_tl, List.length_append]
            exact hyl
        · have e : flat (a ++ [(tl y6, flat b ++ [nd])]) = flat (a ++ b) ++ [nd] := by rw [flat_app, flat_app]; simp [flat]
          rw [e]
          intro nd' hnd'
          rcases List.mem_append.mp hnd' with h | h
          · exact hcl nd' h
          · rw [List.mem_singleton.mp h]
            exact hcn
end
end K20

set_option Elab.async false
set_option linter.all false
set_option maxRecDepth 100000
namespace K20
open PySem PySem.Spec PyProof.Rows L2 Evl TL UL StX
section
variable {P : Program} {w : World} {K : PySem.W.Frag} {mg : Str → Option Value} {base : Heap} {A : Adr}
/-! ### an expression -/
theorem LawAt.mono {rs : List Rw} {H H' : Hp} {h N R X : Addr} {its : List It1} {as : List Addr} (e : Ex H H') (L : LawAt rs H h N R X its as) : LawAt rs H' h N R X its as :=
  ⟨e _ _ L.hh, e _ _ L.hN, L.hA.imp fun _ _ q => q.mono e, e _ _ L.hR, e _ _ L.hX, L.nd, L.ok, L.le, L.cl⟩
structure Fresh4 (H : Hp) (h N R X : Addr) : Prop where
  h0 : H h = none
  h1 : H N = none
  h2 : H R = none
  h3 : H X = none
theorem Fresh4.keep {H H' H'' : Hp} {h N R X : Addr} (f : Fresh4 H h N R X) (e : Ex H H') (fr : ∀ x o, x ≠ N → x ≠ R → x ≠ X → H' x = some o → H'' x = some o) : Ex H H'' := fun x o hx => fr x o (ne_of_none hx f.h1) (ne_of_none hx f.h2) (ne_of_none hx f.h3) (e _ _ hx)
def spExpr : Sp := fun vs H Q _ => ∃ (d nm fn : Addr) (most : Int) (ws : List Str) (fs : List Addr) (rs : List Rw), vs = [.ref d, .ref nm, .ref fn, .int most] ∧ H d = some (DrO d) ∧ H nm = some (.lst (ws.map V.str)) ∧ (∀ w ∈ ws, okS w = true) ∧ ws.length ≤ 100 ∧ RowsAt H fn fs (newR :: copyR :: rs) ∧ (∀ r ∈ newR :: copyR :: rs, good r) ∧ 1 ≤ most ∧ most ≤ 20 ∧
  ∀ p N as z ns H', Ex H H' → H' p = some (.lst [.ref N, .str z]) → H' N = some (.lst (as.map V.ref)) → Al2 (NdAt H') as ns → GoodE okS (tl z) 0 ns → z.length ≤ 14 * ns.length → ns.length ≤ most.toNat → (∀ nd ∈ ns, CallIn (newR :: copyR :: rs) nd) → H p = none → H N = none → p ≠ N → Q (.ref p) H'
/-- which node is to be made -/
def Want (rs : List Rw) (kind w : Str) (c : Int) : Prop := 0 ≤ c ∧ c ≤ 4 ∧ ((kind = "name" ∧ okS w = true ∧ c = 0) ∨ (kind = "call" ∧ okS w = true ∧ ∃ r ∈ rs, r.1 = w ∧ r.2.1 = c) ∨ (kind = w ∧ opsT.lookup w = some c))
theorem ok_expression (T : Tx0 w K mg A) : FnOk P w K mg base CX0 2 A.expression A.d_expression p_expression spExpr := by
  refine T.F_expression.ok sc_expression (fun vs H Q E h => ?_) (fun cdv Ar outer s H vs Q E hr h => ?_)
  · obtain ⟨d, nm, fn, most, ws, fs, rs, rfl, _⟩ := h
    rfl
  · obtain ⟨d, nm, fn, most, ws, fs, rs0, rfl, hd, hnm, hws, hwl, ⟨hfn, hfs⟩, hgr, hm0, hm1, k⟩ := h
    have hfsl := hfs.len
    have hnew : ∃ r ∈ newR :: copyR :: rs0, r.1 = ("new" : Str) ∧ r.2.1 = (0 : Int) := ⟨newR, List.mem_cons_self, rfl, rfl⟩
    generalize newR :: copyR :: rs0 = rs at *
    refine ⟨_, (pss_cons (ps_set (i := 4) sc_expression.nd rfl (Or.inl rfl) (pe_lst (pa_cons (pe_lst pa_nil) (pa_cons (pe_lst pa_nil) (pa_cons (pe_lst pa_nil) pa_nil)))))
      (pss_cons (ps_for PassesOwn.never rfl (pi_range1 (by rfl) T.m_range (pa_cons (pe_op op_add pe_int (pe_call (ok_take T) (hr.mono (by decide)) (by rfl) T.g_take T.F_take.kp T.b_take .nil pass0 (pa_cons (pv 0) (pa_cons (pv 3) pa_nil)))) pa_nil)) (pg_name (i := 5) sc_expression.nd rfl (Or.inl rfl)) (pss_cons (ps_set (i := 6) sc_expression.nd rfl (Or.inl rfl) (pe_call (ok_take T) (hr.mono (by decide)) (by rfl) T.g_take T.F_take.kp T.b_take .nil pass0 (pa_cons (pv 0) (pa_cons pe_int pa_nil))))
        (pss_cons (ps_set (i := 7) sc_expression.nd rfl (Or.inl rfl) pe_str)
        (pss_cons (ps_set (i := 8) sc_expression.nd rfl (Or.inl rfl) pe_str)
        (pss_cons (ps_set (i := 9) sc_expression.nd rfl (Or.inl rfl) pe_int)
        (Evl.pss_cut (ps_if (pt_cmpR op_gt (pv 6) pe_int (nomark _)) (pss_cons (ps_set (i := 10) sc_expression.nd rfl (Or.inl rfl) (pe_ix ix_list (pv 2) (pe_call (ok_take T) (hr.mono (by decide)) (by rfl) T.g_take T.F_take.kp T.b_take .nil pass0 (pa_cons (pv 0) (pa_cons (pe_callB call_len_seq (by rfl) T.m_len PySem.boot_len (pa_cons (pv 2) pa_nil)) pa_nil))) (fun _ _ => rfl)))
          (pss_cons (ps_set (i := 8) sc_expression.nd rfl (Or.inl rfl) (pe_ix ix_list (pv 10) pe_int (fun _ _ => rfl)))
          (pss_one (ps_set (i := 9) sc_expression.nd rfl (Or.inl rfl) (pe_ix ix_list (pv 10) pe_int (fun _ _ => rfl)))))) pss_nil)
        (Evl.pss_cut (ps_if (PW.pt (pw_and (pt_cmpR op_lt pe_int (pv 6) (nomark _)) (pw_and1 (pt_cmpR op_lt (pv 6) pe_int (nomark _))))) (pss_cons (ps_set (i := 7) sc_expression.nd rfl (Or.inl rfl) (pe_ix ix_list (pe_lst (pa_cons pe_str (pa_cons pe_str (pa_cons pe_str pa_nil)))) (pe_op op_sub (pv 6) pe_int) (fun _ _ => rfl)))
          (pss_cons (ps_set (i := 8) sc_expression.nd rfl (Or.inl rfl) (pv 7))
          (pss_one (ps_set (i := 9) sc_expression.nd rfl (Or.inl rfl) (pe_ix ix_list (pe_lst (pa_cons pe_int (pa_cons pe_int (pa_cons pe_int pa_nil)))) (pe_op op_sub (pv 6) pe_int) (fun _ _ => rfl)))))) pss_nil)
        (Evl.pss_cut (ps_if (PW.pt (pw_or (pt_cmpR op_lt (pv 6) pe_int (nomark _)) (pw_or1 (pt_cmpR op_gt (pv 9) (pe_callB call_len_seq (by rfl) T.m_len PySem.boot_len (pa_cons (pe_ix ix_list (pv 4) pe_int (fun _ _ => rfl)) pa_nil)) (nomark _))))) (pss_cons (ps_set (i := 7) sc_expression.nd rfl (Or.inl rfl) pe_str)
          (pss_cons (ps_set (i := 8) sc_expression.nd rfl (Or.inl rfl) pe_str)
          (pss_cons (ps_set (i := 9) sc_expression.nd rfl (Or.inl rfl) pe_int)
          (pss_one (ps_if (pt_cmpR op_gt (pe_callB call_len_seq (by rfl) T.m_len PySem.boot_len (pa_cons (pv 1) pa_nil)) pe_int (nomark _)) (pss_cons (ps_set (i := 7) sc_expression.nd rfl (Or.inl rfl) pe_str)
            (pss_one (ps_set (i := 8) sc_expression.nd rfl (Or.inl rfl) (pe_ix ix_list (pv 1) (pe_call (ok_take T) (hr.mono (by decide)) (by rfl) T.g_take T.F_take.kp T.b_take .nil pass0 (pa_cons (pv 0) (pa_cons (pe_callB call_len_seq (by rfl) T.m_len PySem.boot_len (pa_cons (pv 1) pa_nil)) pa_nil))) (fun _ _ => rfl))))) pss_nil))))) pss_nil)
        (pss_one (ps_if (pt_cmpR op_le (pe_op op_sub (pe_op op_add (pe_op op_add (pe_callB call_len_seq (by rfl) T.m_len PySem.boot_len (pa_cons (pe_ix ix_list (pv 4) pe_int (fun _ _ => rfl)) pa_nil)) (pe_callB call_len_seq (by rfl) T.m_len PySem.boot_len (pa_cons (pe_ix ix_list (pv 4) pe_int (fun _ _ => rfl)) pa_nil))) pe_int) (pv 9)) (pv 3) (nomark _)) (pss_one (ps_expr (pe_call (ok_add T) (hr.mono (by decide)) (by rfl) T.g_add T.F_add.kp T.b_add .nil pass0 (pa_cons (pv 4) (pa_cons (pv 7) (pa_cons (pv 8) (pa_cons (pv 9) pa_nil))))))) pss_nil))))))))))
      (pss_cons (ps_for PassesOwn.never rfl (pi_range1 (by rfl) T.m_range (pa_cons (pv 3) pa_nil)) (pg_name (i := 5) sc_expression.nd rfl (Or.inl rfl)) (pss_one (ps_if (pt_cmpR op_gt (pe_callB call_len_seq (by rfl) T.m_len PySem.boot_len (pa_cons (pe_ix ix_list (pv 4) pe_int (fun _ _ => rfl)) pa_nil)) pe_int (nomark _)) (pss_cons (ps_set (i := 8) sc_expression.nd rfl (Or.inl rfl) (pe_ix ix_list (pe_lst (pa_cons pe_str (pa_cons pe_str pa_nil))) (pe_call (ok_take T) (hr.mono (by decide)) (by rfl) T.g_take T.F_take.kp T.b_take .nil pass0 (pa_cons (pv 0) (pa_cons pe_int pa_nil))) (fun _ _ => rfl)))
          (pss_one (ps_expr (pe_call (ok_add T) (hr.mono (by decide)) (by rfl) T.g_add T.F_add.kp T.b_add .nil pass0 (pa_cons (pv 4) (pa_cons (pv 8) (pa_cons (pv 8) (pa_cons pe_int pa_nil)))))))) pss_nil)))
      (pss_one (ps_ret (pe_lst (pa_cons (pe_ix ix_list (pv 4) pe_int (fun _ _ => rfl)) (pa_cons (pe_ix ix_list (pe_ix ix_list (pv 4) pe_int (fun _ _ => rfl)) pe_int (fun _ _ => rfl)) pa_nil)))))))), ?_⟩
    refine ⟨Nat.zero_le _, fun N hN => ⟨Nat.zero_le _, fun R hR => ⟨Nat.zero_le _, fun X hX => ⟨sz_of (by show 3 ≤ 100000; decide), fun h hh => ?_⟩⟩⟩⟩
    have e1 := Ex.new (o := .lst []) hN
    have e2 := Ex.new (o := .lst []) hR
    have e3 := Ex.new (o := .lst []) hX
    have e4 := Ex.new (o := .lst [.ref N, .ref R, .ref X]) hh
    have q1 : upd H N (.lst []) N = some (.lst []) := upd_same
    have n1 : N ≠ R := ne_of_none q1 hR
    have n2 : N ≠ X := ne_of_none (e2 _ _ q1) hX
    have q2 : upd (upd H N (.lst [])) R (.lst []) R = some (.lst []) := upd_same
    have n3 : R ≠ X := ne_of_none q2 hX
    have q3 : upd (upd (upd H N (.lst [])) R (.lst [])) X (.lst []) X = some (.lst []) := upd_same
    have m1 := e3 _ _ (e2 _ _ q1)
    have m2 := e3 _ _ q2
    have n4 : h ≠ N := (ne_of_none m1 hh).symm
    have n5 : h ≠ R := (ne_of_none m2 hh).symm
    have n6 : h ≠ X := (ne_of_none q3 hh).symm
    have F4 : Fresh4 H h N R X := ⟨e1.free' (e2.free' (e3.free' hh)), hN, e1.free' hR, e1.free' (e2.free' hX)⟩
    have L0 : LawAt rs (upd (upd (upd (upd H N (.lst [])) R (.lst [])) X (.lst [])) h (.lst [.ref N, .ref R, .ref X])) h N R X [] [] :=
      ⟨upd_same, e4 _ _ m1, .nil, e4 _ _ m2, e4 _ _ q3, by simp [n1, n2, n3, n4, n5, n6], trivial, (fun i hi => by cases hi), (fun nd hi => by cases hi)⟩
    have e0 := ((e1.trans e2).trans e3).trans e4
    generalize upd (upd (upd (upd H N (.lst [])) R (.lst [])) X (.lst [])) h (.lst [.ref N, .ref R, .ref X]) = H0 at e0 L0 ⊢
    clear e1 e2 e3 e4 q1 q2 q3 m1 m2 hR hX hh
    refine ⟨_, rfl, _, rfl, d, most, rfl, e0 _ _ hd, by omega, fun m mm0 mm1 => ?_⟩
    refine ⟨1, m, rfl, rfl, 1 + m, rfl, forR1 ⟨by omega, by omega⟩ (fun i σ' H' => ∃ v5 v6 v7 v8 v9 v10 its as, σ' = [some (.ref d), some (.ref nm), some (.ref fn), some (.int most), some (.ref h), v5, v6, v7, v8, v9, v10] ∧ Ex H H' ∧ LawAt rs H' h N R X its as ∧ (flat its).length + its.length ≤ most.toNat + 1 ∧ (1 ≤ i → its ≠ [])) ⟨_, _, _, _, _, _, [], [], rfl, e0, L0, Nat.zero_le _, fun z => by omega⟩ ?_ ?_⟩
    · rintro i σ' H1 hi ⟨v5, v6, v7, v8, v9, v10, its, as, rfl, e1, L, hsum, hne⟩
      have hitl : its.length ≤ (flat its).length := flat_len2 its 0 L.ok
      refine ⟨_, rfl, d, _, rfl, e1 _ _ hd, by decide, fun f f0 f1 => ?_⟩
      -- of the functions
      refine ⟨fun σ' H' => ∃ (w : Str) (c : Int) (v10 : Option V), σ' = [some (.ref d), some (.ref nm), some (.ref fn), some (.int most), some (.ref h), some (.int (i : Int)), some (.int f), some (.str "call"), some (.str w), some (.int c), v10] ∧ H' = H1 ∧ okS w = true ∧ 0 ≤ c ∧ c ≤ 4 ∧ ∃ r ∈ rs, r.1 = w ∧ r.2.1 = c, ?_, ?_⟩
      · refine ⟨_, rfl, f, 5, rfl, rfl, _, rfl, ite2 (fun _ => ?_) (fun _ => ?_)⟩
        · have hfp : 0 < (fs.map V.ref).length := by
            obtain ⟨r, hr, _⟩ := hnew
            have := List.length_pos_of_mem hr
            rw [List.length_map]; omega
          refine ⟨_, rfl, _, rfl, _, rfl, fn, _, rfl, .inl (SqL.of (e1 _ _ hfn)), d, _, rfl, e1 _ _ hd, by omega, fun q q0 q1 => ?_⟩
          obtain ⟨qn, rfl⟩ := Int.eq_ofNat_of_zero_le q0
          have hq : qn < fs.length := by rw [List.length_map] at q1; omega
          obtain ⟨r, hri, mm, h1, _⟩ := hfs.at' (List.getElem?_eq_getElem hq)
          have hrm := List.mem_of_getElem? hri
          obtain ⟨h2, ⟨h3, h4⟩, _⟩ := hgr r hrm
          obtain ⟨w, c, ms⟩ := r
          refine ⟨fn, _, (qn : Int), .ref fs[qn], rfl, rfl, SqL.of (e1 _ _ hfn), atI_nat (by rw [List.getElem?_map, List.getElem?_eq_getElem hq]; rfl), ?_⟩
          have h1' := e1 _ _ h1
          refine ⟨_, rfl, fs[qn], _, 0, .str w, rfl, rfl, SqL.of h1', atI_nat (j := 0) rfl, _, rfl, fs[qn], _, 1, .int c, rfl, rfl, SqL.of h1', atI_nat (j := 1) rfl, ?_⟩
          exact ⟨w, c, _, rfl, rfl, h2, h3, h4, _, hrm, rfl, rfl⟩
        · exact ⟨"new", 0, _, rfl, rfl, by decide +kernel, by decide, by decide, hnew⟩
      rintro σ' H1' ⟨w1, c1, v10, rfl, rfl, hw1, hc0, hc4, hr1⟩
      -- an operation
      refine ⟨fun σ' H' => ∃ (kd w : Str) (c : Int) (v10 : Option V), σ' = [some (.ref d), some (.ref nm), some (.ref fn), some (.int most), some (.ref h), some (.int (i : Int)), some (.int f), some (.str kd), some (.str w), some (.int c), v10] ∧ Ex H1' H' ∧ Want rs kd w c, ?_, ?_⟩
      · refine ⟨_, rfl, 2, f, rfl, rfl, _, rfl, ite2 (fun z => ?_) (fun _ => ?_)⟩
        · have f2 : 2 < f := of_decide_eq_true z
          refine ⟨_, rfl, f, 6, rfl, rfl, _, rfl, ite2 (fun z => ?_) (fun _ => ?_)⟩
          · have f6 : f < 6 := of_decide_eq_true z
            refine ⟨sz_of (by show 3 ≤ 100000; decide), fun p1 hp1 => ?_⟩
            have eP := Ex.new (o := .lst [.str "part", .str "pick", .str "then"]) hp1
            obtain ⟨kd, c, hkd, hc, hlk⟩ : ∃ (kd : Str) (c : Int), atI [V.str "part", V.str "pick", V.str "then"] (f - 3) = some (.str kd) ∧ atI [V.int 1, V.int 2, V.int 2] (f - 3) = some (.int c) ∧ opsT.lookup kd = some c ∧ 0 ≤ c ∧ c ≤ 4 := by
              have : f = 3 ∨ f = 4 ∨ f = 5 := by omega
              rcases this with rfl | rfl | rfl
              · exact ⟨"part", 1, rfl, rfl, by decide +kernel, by decide, by decide⟩
              · exact ⟨"pick", 2, rfl, rfl, by decide +kernel, by decide, by decide⟩
              · exact ⟨"then", 2, rfl, rfl, by decide +kernel, by decide, by decide⟩
            refine ⟨_, rfl, f, 3, rfl, rfl, p1, _, f - 3, .str kd, rfl, rfl, SqL.of upd_same, hkd, _, rfl, sz_of (by show 3 ≤ 100000; decide), fun p2 hp2 => ?_⟩
            exact ⟨_, rfl, f, 3, rfl, rfl, p2, _, f - 3, .int c, rfl, rfl, SqL.of upd_same, hc, kd, kd, c, _, rfl, eP.trans (Ex.new hp2), hlk.2.1, hlk.2.2, .inr (.inr ⟨rfl, hlk.1⟩)⟩
          · exact ⟨"call", w1, c1, _, rfl, Ex.refl _, hc0, hc4, .inr (.inl ⟨rfl, hw1, hr1⟩)⟩
        · exact ⟨"call", w1, c1, _, rfl, Ex.refl _, hc0, hc4, .inr (.inl ⟨rfl, hw1, hr1⟩)⟩
      rintro σ' H2 ⟨kd2, w2, c2, v10', rfl, e2, hW2⟩
      have e12 := e1.trans e2
      have L2 := L.mono e2
      have hRl : (ni (rootsL 0 its)).length = its.length := by rw [ni_len, roots_len]
      -- a name
      refine ⟨fun σ' H' => ∃ (kd w : Str) (c : Int) (v10 : Option V), σ' = [some (.ref d), some (.ref nm), some (.ref fn), some (.int most), some (.ref h), some (.int (i : Int)), some (.int f), some (.str kd), some (.str w), some (.int c), v10] ∧ H' = H2 ∧ Want rs kd w c ∧ c ≤ its.length, ?_, ?_⟩
      · have hnm2 := e12 _ _ hnm
        refine ⟨_, rfl, f, 2, rfl, rfl, _, rfl, ?_⟩
        by_cases hf2 : f < 2
        · rw [decide_eq_true hf2]
          refine iteT (iteT ?_)
          refine ⟨_, rfl, nm, _, rfl, .inl (SqL.of hnm2), _, 0, rfl, rfl, _, rfl, ite2 (fun z => ?_) (fun _ => ?_)⟩
          · have hz : (0 : Int) < ((ws.map V.str).length : Int) := of_decide_eq_true z
            refine ⟨_, rfl, _, rfl, _, rfl, nm, _, rfl, .inl (SqL.of hnm2), d, _, rfl, e12 _ _ hd, hz, fun q q0 q1 => ?_⟩
            obtain ⟨qn, rfl⟩ := Int.eq_ofNat_of_zero_le q0
            have hq : qn < ws.length := by rw [List.length_map] at q1; omega
            exact ⟨nm, _, (qn : Int), .str ws[qn], rfl, rfl, SqL.of hnm2, atI_nat (by rw [List.getElem?_map, List.getElem?_eq_getElem hq]; rfl), "name", ws[qn], 0, _, rfl, rfl, ⟨by decide, by decide, .inl ⟨rfl, hws _ (List.getElem_mem _), rfl⟩⟩, by omega⟩
          · exact ⟨"call", "new", 0, _, rfl, rfl, ⟨by decide, by decide, .inr (.inl ⟨rfl, by decide +kernel, hnew⟩)⟩, by omega⟩
        · rw [decide_eq_false hf2]
          refine iteF ⟨_, rfl, _, rfl, h, _, 1, .ref R, rfl, rfl, SqL.of L2.hh, atI_nat (j := 1) rfl, R, _, rfl, .inl (SqL.of L2.hR), c2, _, rfl, rfl, _, rfl, ite2 (fun z => ?_) (fun z => ?_)⟩
          refine ⟨_, rfl, nm, _, rfl, .inl (SqL.of hnm2), _, 0, rfl, rfl, _, rfl, ite2 (fun z => ?_) (fun _ => ?_)⟩
          · have hz : (0 : Int) < ((ws.map V.str).length : Int) := of_decide_eq_true z
            refine ⟨_, rfl, _, rfl, _, rfl, nm, _, rfl, .inl (SqL.of hnm2), d, _, rfl, e12 _ _ hd, hz, fun q q0 q1 => ?_⟩
            obtain ⟨qn, rfl⟩ := Int.eq_ofNat_of_zero_le q0
            have hq : qn < ws.length := by rw [List.length_map] at q1; omega
            exact ⟨nm, _, (qn : Int), .str ws[qn], rfl, rfl, SqL.of hnm2, atI_nat (by rw [List.getElem?_map, List.getElem?_eq_getElem hq]; rfl), "name", ws[qn], 0, _, rfl, rfl, ⟨by decide, by decide, .inl ⟨rfl, hws _ (List.getElem_mem _), rfl⟩⟩, by omega⟩
          · exact ⟨"call", "new", 0, _, rfl, rfl, ⟨by decide, by decide, .inr (.inl ⟨rfl, by decide +kernel, hnew⟩)⟩, by omega⟩
          · exact ⟨kd2, w2, c2, _, rfl, rfl, hW2, by have z2 : ¬ (((ni (rootsL 0 its)).length : Int) < c2) := fun y => z (decide_eq_true y); rw [hRl] at z2; omega⟩
      rintro σ' H2' ⟨kd, w, c, v10'', rfl, rfl, hW, hcl⟩
      obtain ⟨hc0', hc4', hW⟩ := hW
      obtain ⟨a, b, rfl, rfl⟩ : ∃ a b, its = a ++ b ∧ (b.length : Int) = c := by
        refine ⟨its.take (its.length - c.toNat), its.drop (its.length - c.toNat), (List.take_append_drop _ _).symm, ?_⟩
        rw [List.length_drop]
        omega
      have hal : as.length = (flat (a ++ b)).length := L2.hA.len
      have hlab : (a ++ b).length = a.length + b.length := List.length_append
      have hfab : (flat (a ++ b)).length = (flat a).length + (flat b).length := by rw [flat_app, List.length_append]
      refine ⟨_, rfl, h, _, 0, .ref N, rfl, rfl, SqL.of L2.hh, atI_nat (j := 0) rfl, N, _, rfl, .inl (SqL.of L2.hN), _, rfl, h, _, 1, .ref R, rfl, rfl, SqL.of L2.hh, atI_nat (j := 1) rfl, R, _, rfl, .inl (SqL.of L2.hR), _, _, rfl, rfl, _, 1, rfl, rfl, _, rfl, _, _, rfl, rfl, _, rfl, _, most, rfl, rfl, _, rfl, ite2 (fun z => ?_) (fun z => ?_)⟩
      · have hz : ((as.map V.ref).length : Int) + ((ni (rootsL 0 (a ++ b))).length : Int) + 1 - (b.length : Int) ≤ most := of_decide_eq_true z
        rw [List.length_map, hRl, hal] at hz
        refine ⟨_, rfl, _, rfl, _, rfl, _, rfl, rs, h, N, R, X, a, b, as, kd, w, rfl, L2, by omega, by omega, ?_, fun H3 it as' fr L3 hit => ?_⟩
        · rcases hW with ⟨h1, h2, h3⟩ | h1 | h1
          · exact .inl ⟨h1, h2, List.eq_nil_of_length_eq_zero (by omega)⟩
          · exact .inr (.inl h1)
          · exact .inr (.inr h1)
        · refine ⟨_, _, _, _, _, _, a ++ [it], as', rfl, F4.keep e12 fr, L3, ?_, fun _ => by simp⟩
          rw [flat_app, List.length_append, List.length_append, show flat [it] = it.2 by simp [flat], hit, List.length_singleton]
          omega
      · refine ⟨_, _, _, _, _, _, a ++ b, as, rfl, e12, L2, hsum, fun _ hnil => z (decide_eq_true ?_)⟩
        show ((as.map V.ref).length : Int) + ((ni (rootsL 0 (a ++ b))).length : Int) + 1 - (b.length : Int) ≤ most
        rw [List.length_map, hRl, hal]
        have hz1 : (flat (a ++ b)).length = 0 := by rw [hnil]; rfl
        have hz2 : (a ++ b).length = 0 := by rw [hnil]; rfl
        omega
    · rintro σ' H1 ⟨v5, v6, v7, v8, v9, v10, its, as, rfl, e1, L, hsum, hne⟩
      have hne := hne (by omega)
      have hpos := List.length_pos_iff.mpr hne
      have hitl : its.length ≤ (flat its).length := flat_len2 its 0 L.ok
      refine ⟨_, rfl, most, rfl, forR1 ⟨by omega, by omega⟩ (fun j σ' H' => ∃ v5 v6 v7 v8 v9 v10 its as, σ' = [some (.ref d), some (.ref nm), some (.ref fn), some (.int most), some (.ref h), v5, v6, v7, v8, v9, v10] ∧ Ex H H' ∧ LawAt rs H' h N R X its as ∧ (flat its).length + its.length ≤ most.toNat + 1 ∧ its ≠ [] ∧ (its.length = 1 ∨ its.length + j ≤ most.toNat)) ⟨_, _, _, _, _, _, its, as, rfl, e1, L, hsum, hne, .inr (by omega)⟩ ?_ ?_⟩
      · rintro j σ' H2 hj ⟨v5, v6, v7, v8, v9, v10, its, as, rfl, e2, L2, hsum, hne, hor⟩
        have hRl : (ni (rootsL 0 its)).length = its.length := by rw [ni_len, roots_len]
        refine ⟨_, rfl, h, _, 1, .ref R, rfl, rfl, SqL.of L2.hh, atI_nat (j := 1) rfl, R, _, rfl, .inl (SqL.of L2.hR), _, 1, rfl, rfl, _, rfl, ite2 (fun z => ?_) (fun z => ?_)⟩
        · have hz : (1 : Int) < ((ni (rootsL 0 its)).length : Int) := of_decide_eq_true z
          rw [hRl] at hz
          refine ⟨sz_of (by show 2 ≤ 100000; decide), fun p1 hp1 => ?_⟩
          have eP := Ex.new (o := .lst [.str "pick", .str "then"]) hp1
          refine ⟨_, rfl, d, _, rfl, eP _ _ (e2 _ _ hd), by decide, fun q q0 q1 => ?_⟩
          obtain ⟨kd, hkd, hlk⟩ : ∃ kd : Str, atI [V.str "pick", V.str "then"] q = some (.str kd) ∧ opsT.lookup kd = some 2 := by
            have : q = 0 ∨ q = 1 := by omega
            rcases this with rfl | rfl
            · exact ⟨"pick", rfl, by decide +kernel⟩
            · exact ⟨"then", rfl, by decide +kernel⟩
          obtain ⟨a, b, rfl, hb⟩ : ∃ a b, its = a ++ b ∧ b.length = 2 :=
            ⟨its.take (its.length - 2), its.drop (its.length - 2), (List.take_append_drop _ _).symm, by rw [List.length_drop]; omega⟩
          have hlab : (a ++ b).length = a.length + b.length := List.length_append
          have hfab : (flat (a ++ b)).length = (flat a).length + (flat b).length := by rw [flat_app, List.length_append]
          refine ⟨p1, _, q, .str kd, rfl, rfl, SqL.of upd_same, hkd, _, rfl, _, rfl, _, rfl, rs, h, N, R, X, a, b, as, kd, kd, by rw [hb]; rfl, L2.mono eP, by omega, by omega, .inr (.inr ⟨rfl, by rw [hb]; exact hlk⟩), fun H3 it as' fr L3 hit => ?_⟩
          refine ⟨_, _, _, _, _, _, a ++ [it], as', rfl, F4.keep (e2.trans eP) fr, L3, ?_, by simp, ?_⟩
          · rw [flat_app, List.length_append, List.length_append, show flat [it] = it.2 by simp [flat], hit, List.length_singleton]
            omega
          · rw [List.length_append, List.length_singleton]
            omega
        · have hz : ¬ (1 : Int) < ((ni (rootsL 0 its)).length : Int) := fun y => z (decide_eq_true y)
          rw [hRl] at hz
          have := List.length_pos_iff.mpr hne
          exact ⟨_, _, _, _, _, _, its, as, rfl, e2, L2, hsum, hne, .inl (by omega)⟩
      · rintro σ' H2 ⟨v5, v6, v7, v8, v9, v10, its, as, rfl, e2, L2, hsum, hne, hor⟩
        have hp2 := List.length_pos_iff.mpr hne
        obtain ⟨⟨t, ns⟩, rfl⟩ : ∃ i, its = [i] := by
          cases its with
          | nil => exact absurd rfl hne
          | cons i r =>
            cases r with
            | nil => exact ⟨i, rfl⟩
            | cons j r => simp only [List.length_cons] at hor; omega
        have hfl1 : flat [(t, ns)] = ns := by simp [flat]
        have hle := L2.le (t, ns) List.mem_cons_self
        have hA := L2.hA
        have hcl := L2.cl
        rw [hfl1] at hsum hA hcl
        have hsum : ns.length + 1 ≤ most.toNat + 1 := hsum
        have hle : t.length ≤ 14 * ns.length := hle
        refine ⟨_, rfl, h, _, 0, .ref N, rfl, rfl, SqL.of L2.hh, atI_nat (j := 0) rfl, _, rfl, h, _, 2, .ref X, rfl, rfl, SqL.of L2.hh, atI_nat (j := 2) rfl, X, _, 0, .str (ofL t), rfl, rfl, SqL.of L2.hX, atI_nat (j := 0) rfl, sz_of (by show 2 ≤ 100000; decide), fun p hp => ?_⟩
        have eP := Ex.new (o := .lst [.ref N, .str (ofL t)]) hp
        refine k p N as (ofL t) ns _ (e2.trans eP) upd_same (eP _ _ L2.hN) (hA.imp fun _ _ q => q.mono eP) (by rw [tl_ofL]; exact L2.ok.1) (by rw [ofL_len]; omega) (by omega) hcl (e2.free' hp) F4.h1 (ne_of_none L2.hN hp).symm
end
end K20

set_option Elab.async false
set_option linter.all false
set_option maxRecDepth 100000
namespace K20
open PySem PySem.Spec PyProof.Rows L2 Evl TL UL StX
section
variable {P : Program} {w : World} {K : PySem.W.Frag} {mg : Str → Option Value} {base : Heap} {A : Adr}
/-! ### the law's own reader -/
theorem fits_at {z : Str} {n : Int} {k : Nat} (h : opsT.lookup z = some n) : fitsW okS z k = decide ((k : Int) = n) := by
  unfold fitsW
  rw [h]
theorem int_eqb (a b : Int) : decide (V.int a = V.int b) = decide (a = b) := decide_eq_decide.mpr ⟨V.int.inj, congrArg V.int⟩
def spWfits : Sp := fun vs H Q _ => ∃ (z : Str) (k : Nat), vs = [.str z, .int ((k : Nat) : Int)] ∧ z.length ≤ 2000 ∧ ∀ H', Ex H H' → Q (.bl (fitsW okS z k)) H'
theorem ok_wfits (T : Tx0 w K mg A) : FnOk P w K mg base CX0 3 A.wfits A.d_wfits p_wfits spWfits := by
  refine T.F_wfits.ok sc_wfits (fun vs H Q E h => ?_) (fun cdv Ar outer s H vs Q E hr h => ?_)
  · obtain ⟨z, k, rfl, _⟩ := h
    rfl
  · obtain ⟨z, n, rfl, hz, k⟩ := h
    refine ⟨_, (pss_cons (ps_if (pt_cmpR op_eq (pv 0) pe_str (nomark _)) (pss_one (ps_ret (pe_cmpR op_eq (pv 1) pe_int (nomark _)))) pss_nil)
      (pss_cons (ps_if (PW.pt (pw_or (pt_cmpR op_eq (pv 0) pe_str (nomark _)) (pw_or1 (pt_cmpR op_eq (pv 0) pe_str (nomark _))))) (pss_one (ps_ret (pe_cmpR op_eq (pv 1) pe_int (nomark _)))) pss_nil)
      (pss_one (ps_ret (pe_and (pe_call (ok_lname T) (hr.mono (by decide)) (by rfl) T.g_lname T.F_lname.kp T.b_lname .nil pass0 (pa_cons (pv 0) pa_nil)) (pe_one (pe_cmpR op_lt (pv 1) pe_int (nomark _)))))))), ?_⟩
    have k0 := k H (Ex.refl H)
    refine ⟨_, rfl, rfl, _, rfl, ite2 (fun q => ?_) (fun q => ?_)⟩
    · obtain rfl : z = "part" := V.str.inj (of_decide_eq_true q)
      rw [fits_at (n := 1) (by decide +kernel)] at k0
      refine ⟨_, rfl, rfl, ?_⟩
      rw [int_eqb]
      exact k0
    refine ⟨_, rfl, rfl, _, rfl, ite2 (fun q2 => ?_) (fun q2 => ?_)⟩
    · obtain rfl : z = "pick" := V.str.inj (of_decide_eq_true q2)
      rw [fits_at (n := 2) (by decide +kernel)] at k0
      refine iteT ⟨_, rfl, rfl, ?_⟩
      rw [int_eqb]
      exact k0
    refine ⟨_, rfl, rfl, _, rfl, ite2 (fun q3 => ?_) (fun q3 => ?_)⟩
    · obtain rfl : z = "then" := V.str.inj (of_decide_eq_true q3)
      rw [fits_at (n := 2) (by decide +kernel)] at k0
      refine ⟨_, rfl, rfl, ?_⟩
      rw [int_eqb]
      exact k0
    have hno : opsT.lookup z = none := by
      have n1 : z ≠ "part" := fun e => q (decide_eq_true (by rw [e]))
      have n2 : z ≠ "pick" := fun e => q2 (decide_eq_true (by rw [e]))
      have n3 : z ≠ "then" := fun e => q3 (decide_eq_true (by rw [e]))
      unfold opsT
      rw [List.lookup_cons, beq_eq_false_iff_ne.mpr n1, List.lookup_cons, beq_eq_false_iff_ne.mpr n2, List.lookup_cons, beq_eq_false_iff_ne.mpr n3]
      rfl
    have hf : fitsW okS z n = (okS z && decide (n ≤ 4)) := by unfold fitsW; rw [hno]
    rw [hf] at k
    refine ⟨_, rfl, .str z, rfl, .inl ⟨z, rfl, hz⟩, fun H1 e1 => ⟨_, rfl, ?_⟩⟩
    have k1 := k H1 e1
    show if nm (.str z) = true then _ else _
    rw [show nm (.str z) = okS z from rfl]
    cases ho : okS z with
    | false =>
      rw [ho] at k1
      exact iteF k1
    | true =>
      rw [ho, Bool.true_and] at k1
      refine iteT ⟨_, rfl, _, 5, rfl, rfl, ?_⟩
      rw [show decide (n ≤ 4) = decide (((n : Nat) : Int) < 5) from decide_eq_decide.mpr (by omega)] at k1
      exact k1
theorem sx_len (R : List Nat) : (ofL R).length = R.length := ofL_len R
theorem cut_gen (R : List Nat) (lo hi : Option Int) : cutS (ofL R) lo hi = ofL ((R.drop (HT.sIx R.length 0 lo)).take (HT.sIx R.length R.length hi - HT.sIx R.length 0 lo)) := by
  have e : (ofL R).cps.toList = R := tl_ofL R
  unfold cutS
  rw [e, ofL_len]
  rfl
theorem cut_to (A X : List Nat) {i : Int} (h : i = (A.length : Int)) : cutS (ofL (A ++ X)) none (some i) = ofL A := by
  subst h
  rw [cut_gen, HT.sIx_none, HT.sIx_nat, List.drop_zero, Nat.sub_zero, Nat.min_eq_left (by rw [List.length_append]; omega), List.take_left']
  rfl
theorem cut_fr (A X : List Nat) {i : Int} (h : i = (A.length : Int)) : cutS (ofL (A ++ X)) (some i) none = ofL X := by
  subst h
  rw [cut_gen, HT.sIx_none, HT.sIx_nat, Nat.min_eq_left (by rw [List.length_append]; omega), List.drop_left', List.length_append]
  · rw [show A.length + X.length - A.length = X.length by omega, List.take_length]
  · rfl
theorem cut_mid (A M X : List Nat) {i j : Int} (h : i = (A.length : Int)) (h2 : j = ((A.length + M.length : Nat) : Int)) : cutS (ofL (A ++ (M ++ X))) (some i) (some j) = ofL M := by
  subst h h2
  rw [cut_gen, HT.sIx_nat, HT.sIx_nat, Nat.min_eq_left (by rw [List.length_append, List.length_append]; omega), Nat.min_eq_left (by rw [List.length_append, List.length_append]; omega), List.drop_left' rfl, show A.length + M.length - A.length = M.length by omega, List.take_left' rfl]
theorem mark_ok : NoMark okS := ⟨fun l h => by
  cases ho : okS (ofL l) with
  | false => rfl
  | true =>
    have := List.all_eq_true.mp (okS_all ho).1 9 (by rw [tl_ofL]; exact h)
    exact absurd this (by decide +kernel), ops_mark⟩
theorem okS_pl : ∀ w, okS w = true → plainL (tl w) ∧ tl w ≠ [] := fun w h => ⟨okS_plain h, (okS_all h).2⟩
theorem ok_nil : okS (ofL []) = false := by decide +kernel
theorem tab_eq (a : List Nat) : decide (V.str (ofL a) = V.str "\t") = decide (a = [9]) := decide_eq_decide.mpr ⟨fun e => by
  have := congrArg tl (V.str.inj e)
  rw [tl_ofL] at this
  rw [this]
  decide +kernel, fun e => by rw [e]; congr 1⟩
/-- what the law's reader counts -/
def cntV (t : List Nat) : Int := match FC okS t with
  | some n => (n : Int)
  | none => -1
def spLcount : Sp := fun vs H Q _ => ∃ (z : Str), vs = [.str z] ∧ z.length ≤ 400 ∧ 9 ∉ tl z ∧ ∀ H', Ex H H' → Q (.int (cntV (tl z))) H'
theorem ok_lcount (T : Tx0 w K mg A) : FnOk P w K mg base CX0 4 A.lcount A.d_lcount p_lcount spLcount := by
  refine T.F_lcount.ok sc_lcount (fun vs H Q E h => ?_) (fun cdv Ar outer s H vs Q E hr h => ?_)
  · obtain ⟨z, rfl, _⟩ := h
    rfl
  · obtain ⟨z, rfl, hz, h9, k⟩ := h
    refine ⟨_, (pss_cons (ps_set (i := 1) sc_lcount.nd rfl (Or.inl rfl) (pv 0))
      (pss_cons (ps_set (i := 2) sc_lcount.nd rfl (Or.inl rfl) pe_int)
      (Evl.pss_cut (ps_for PassesOwn.never rfl (pi_range1 (by rfl) T.m_range (pa_cons (pe_callB call_len_str (by rfl) T.m_len PySem.boot_len (pa_cons (pv 0) pa_nil)) pa_nil)) (pg_name (i := 3) sc_lcount.nd rfl (Or.inl rfl)) (pss_cons (ps_set (i := 4) sc_lcount.nd rfl (Or.inl rfl) (pe_bm PySem.F.plainAttrs_str PySem.F.slot_str_find PySem.F.type_str_find mt_find (pv 1) (pa_cons pe_str pa_nil)))
        (pss_cons (ps_if (pt_cmpR op_lt (pv 4) pe_int (nomark _)) (pss_one ps_break) pss_nil)
        (pss_cons (ps_set (i := 5) sc_lcount.nd rfl (Or.inl rfl) (pe_bm PySem.F.plainAttrs_str PySem.F.slot_str_rfind PySem.F.type_str_rfind mt_rfind (pe_slice sl_str (pv 1) po_none (po_some (pv 4))) (pa_cons pe_str pa_nil)))
        (pss_cons (ps_if (pt_cmpR op_lt (pv 5) pe_int (nomark _)) (pss_one (ps_ret (pe_un un_neg pe_int))) pss_nil)
        (pss_cons (ps_set (i := 6) sc_lcount.nd rfl (Or.inl rfl) (pe_op op_add pe_int (pe_callB (call_max2 rfl) (by rfl) T.m_max (by decide +kernel) (pa_cons (pe_bm PySem.F.plainAttrs_str PySem.F.slot_str_rfind PySem.F.type_str_rfind mt_rfind (pe_slice sl_str (pv 1) po_none (po_some (pv 5))) (pa_cons pe_str pa_nil)) (pa_cons (pe_bm PySem.F.plainAttrs_str PySem.F.slot_str_rfind PySem.F.type_str_rfind mt_rfind (pe_slice sl_str (pv 1) po_none (po_some (pv 5))) (pa_cons pe_str pa_nil)) pa_nil)))))
        (pss_cons (ps_set (i := 7) sc_lcount.nd rfl (Or.inl rfl) (pe_lst pa_nil))
        (Evl.pss_cut (ps_if (pt_cmpR op_gt (pv 4) (pe_op op_add (pv 5) pe_int) (nomark _)) (pss_one (ps_set (i := 7) sc_lcount.nd rfl (Or.inl rfl) (pe_bm PySem.F.plainAttrs_str PySem.F.slot_str_split PySem.F.type_str_split mt_split (pe_slice sl_str (pv 1) (po_some (pe_op op_add (pv 5) pe_int)) (po_some (pv 4))) (pa_cons pe_str pa_nil)))) pss_nil)
        (pss_cons (ps_if (pt_not (pt_val (pe_call (ok_wfits T) (hr.mono (by decide)) (by rfl) T.g_wfits T.F_wfits.kp T.b_wfits .nil pass0 (pa_cons (pe_slice sl_str (pv 1) (po_some (pv 6)) (po_some (pv 5))) (pa_cons (pe_callB call_len_seq (by rfl) T.m_len PySem.boot_len (pa_cons (pv 7) pa_nil)) pa_nil))))) (pss_one (ps_ret (pe_un un_neg pe_int))) pss_nil)
        (pss_cons (ps_set (i := 2) sc_lcount.nd rfl (Or.inl rfl) (pe_op op_add (pv 2) pe_int))
        (pss_cons (ps_for PassesOwn.never rfl (pi_list (pv 7)) (pg_name (i := 8) sc_lcount.nd rfl (Or.inl rfl)) (pss_one (ps_if (pt_cmpR op_ne (pv 8) pe_str (nomark _)) (pss_cons (ps_set (i := 2) sc_lcount.nd rfl (Or.inl rfl) (pe_op op_add (pv 2) pe_int))
            (pss_one (ps_if (pt_not (pt_val (pe_call (ok_lname T) (hr.mono (by decide)) (by rfl) T.g_lname T.F_lname.kp T.b_lname .nil pass0 (pa_cons (pv 8) pa_nil)))) (pss_one (ps_ret (pe_un un_neg pe_int))) pss_nil))) pss_nil)))
        (pss_one (ps_set (i := 1) sc_lcount.nd rfl (Or.inl rfl) (pe_op op_add_str (pe_op op_add_str (pe_slice sl_str (pv 1) po_none (po_some (pv 6))) pe_str) (pe_slice sl_str (pv 1) (po_some (pe_op op_add (pv 4) pe_int)) po_none)))))))))))))))
      (pss_cons (ps_if (pt_cmpR op_eq (pv 1) pe_str (nomark _)) (pss_one (ps_ret (pv 2))) pss_nil)
      (pss_cons (ps_if (pt_val (pe_call (ok_lname T) (hr.mono (by decide)) (by rfl) T.g_lname T.F_lname.kp T.b_lname .nil pass0 (pa_cons (pv 1) pa_nil))) (pss_one (ps_ret pe_int)) pss_nil)
      (pss_one (ps_ret (pe_un un_neg pe_int)))))))), ?_⟩
    have hzl := len_tl z
    refine ⟨_, rfl, ?_⟩
    refine ⟨fun σ' H' => ∃ (R : List Nat) (T : Nat) (v3 v4 v5 v6 v7 v8 : Option V), σ' = [some (.str z), some (.str (ofL R)), some (.int ((T : Nat) : Int)), v3, v4, v5, v6, v7, v8] ∧ Ex H H' ∧ R.length ≤ 400 ∧ 41 ∉ R ∧ FC okS (tl z) = (FC okS R).map (· + T) ∧ (T = 0 ∨ 9 ∈ R), ?_, ?_⟩
    · refine ⟨_, rfl, z, rfl, sz_of (by omega), ?_⟩
      refine ⟨_, rfl, forR1 ⟨by omega, by omega⟩ (fun i σ' H' => ∃ (R : List Nat) (T : Nat) (v3 v4 v5 v6 v7 v8 : Option V), σ' = [some (.str z), some (.str (ofL R)), some (.int ((T : Nat) : Int)), v3, v4, v5, v6, v7, v8] ∧ Ex H H' ∧ R.length ≤ 400 ∧ R.count 41 + i ≤ z.length ∧ FC okS (tl z) = (FC okS R).map (· + T) ∧ (T = 0 ∨ 9 ∈ R)) ?_ ?_ ?_⟩
      · refine ⟨tl z, 0, _, _, _, _, _, _, by rw [ofL_tl]; rfl, Ex.refl _, by omega, by have := List.count_le_length (a := 41) (l := tl z); omega, ?_, .inl rfl⟩
        cases FC okS (tl z) <;> rfl
      · rintro i σ' H1 hi ⟨R, T, v3, v4, v5, v6, v7, v8, rfl, e1, hR, hcnt, hFC, h9R⟩
        have non_ : FC okS R = none → ∀ H', Ex H H' → Q (.int (-1)) H' := fun hn H' e' => by
          have : cntV (tl z) = -1 := by
            unfold cntV
            rw [hFC, hn]
            rfl
          rw [← this]
          exact k H' e'
        refine ⟨_, rfl, rfl, ofL R, ")", rfl, rfl, ?_⟩
        by_cases h41 : 41 ∈ R
        case neg =>
          rw [sgn41, find_no (by rw [tl_ofL]; exact h41)]
          refine ⟨_, rfl, _, _, rfl, rfl, _, rfl, iteT ?_⟩
          exact ⟨R, T, _, _, _, _, _, _, rfl, e1, hR, h41, hFC, h9R⟩
        obtain ⟨A0, post, hRe, hA⟩ := first_of h41
        rw [sgn41, find_at (by rw [tl_ofL]; exact hRe) hA]
        refine ⟨_, rfl, _, _, rfl, rfl, _, rfl, ite2 (fun q => absurd (of_decide_eq_true q) (by omega)) (fun _ => ?_)⟩
        have hRl : R.length = A0.length + (1 + post.length) := by rw [hRe, List.length_append, List.length_cons]; omega
        refine ⟨_, rfl, _, rfl, _, rfl, ofL R, rfl, sz_of (by rw [ofL_len]; omega), ?_⟩
        rw [show cutS (ofL R) none (some ((A0.length : Nat) : Int)) = ofL A0 by rw [hRe]; exact cut_to A0 _ rfl]
        refine ⟨rfl, ofL A0, "(", rfl, rfl, ?_⟩
        by_cases h40 : 40 ∈ A0
        case neg =>
          rw [sgn40, rfind_no (by rw [tl_ofL]; exact h40)]
          refine ⟨_, rfl, _, _, rfl, rfl, _, rfl, iteT ⟨1, rfl, non_ (by rw [hRe]; exact FC_shut hA h40) H1 e1⟩⟩
        obtain ⟨B0, inner, hAe, hin⟩ := last_of h40
        rw [sgn40, rfind_at (by rw [tl_ofL]; exact hAe) hin]
        refine ⟨_, rfl, _, _, rfl, rfl, _, rfl, ite2 (fun q => absurd (of_decide_eq_true q) (by omega)) (fun _ => ?_)⟩
        have hAl : A0.length = B0.length + (1 + inner.length) := by rw [hAe, List.length_append, List.length_cons]; omega
        have hB41 : 41 ∉ B0 := fun q => hA (by rw [hAe]; exact List.mem_append_left _ q)
        obtain ⟨pr, w, hBe, hw, hpr, hbeg⟩ := begun_at hB41
        have hbeg := hbeg (ofL B0) (tl_ofL B0)
        rw [sgn40] at hbeg
        have hBl : B0.length = pr.length + w.length := by rw [hBe, List.length_append]
        have hR2 : R = B0 ++ (40 :: inner ++ 41 :: post) := by rw [hRe, hAe, List.append_assoc]; try rfl
        refine ⟨_, rfl, _, rfl, _, rfl, ofL R, rfl, sz_of (by rw [ofL_len]; omega), ?_⟩
        rw [show cutS (ofL R) none (some ((B0.length : Nat) : Int)) = ofL B0 by rw [hR2]; exact cut_to B0 _ rfl]
        refine ⟨rfl, ofL B0, ⟨#[40]⟩, rfl, rfl, ?_⟩
        refine ⟨_, rfl, _, rfl, _, rfl, ofL R, rfl, sz_of (by rw [ofL_len]; omega), ?_⟩
        rw [show cutS (ofL R) none (some ((B0.length : Nat) : Int)) = ofL B0 by rw [hR2]; exact cut_to B0 _ rfl]
        refine ⟨rfl, ofL B0, ",", rfl, rfl, _, _, rfl, 1, _, rfl, rfl, ?_⟩
        show gName 6 (V.int (1 + (if Txt.rfind (ofL B0) "," > Txt.rfind (ofL B0) ⟨#[40]⟩ then Txt.rfind (ofL B0) "," else Txt.rfind (ofL B0) ⟨#[40]⟩))) _ _ _
        rw [show (1 : Int) + (if Txt.rfind (ofL B0) "," > Txt.rfind (ofL B0) ⟨#[40]⟩ then Txt.rfind (ofL B0) "," else Txt.rfind (ofL B0) ⟨#[40]⟩) = ((pr.length : Nat) : Int) by omega]
        refine ⟨Nat.zero_le _, fun L0 hL0 => ?_⟩
        have e2 := e1.trans (Ex.new (o := .lst []) hL0)
        have hL02 : upd H1 L0 (.lst []) L0 = some (.lst []) := upd_same
        generalize upd H1 L0 (.lst []) = H2 at e2 hL02 ⊢
        have hargs : argsL (splitL inner) = if inner = [] then [] else splitL inner := by
          unfold argsL
          by_cases q : inner = []
          · rw [if_pos (splitL_nil.mpr q), if_pos q]
          · rw [if_neg (fun z => q (splitL_nil.mp z)), if_neg q]
        have hpl : ∀ a ∈ splitL inner, plainL a := fun a ha c hc => by
          obtain ⟨m1, m2⟩ := splitL_mem inner a ha c hc
          refine ⟨fun q => hin (by rw [← q]; exact m1), fun q => hA (by rw [hAe, ← q]; exact List.mem_append_right _ (List.mem_cons_of_mem _ m1)), m2⟩
        have hred := FC_red (okw := okS) mark_ok ok_nil (pre := pr) (w := w) (post := post) (args := splitL inner) hpr hw (splitL_ne inner) hpl
        rw [splitL_join, show pr ++ (w ++ 40 :: (inner ++ 41 :: post)) = R by rw [hR2, hBe, List.append_assoc]; rfl] at hred
        have hla : (argsL (splitL inner)).length ≤ 401 := by
          have hsl : ∀ l : List Nat, (splitL l).length ≤ l.length + 1 := fun l => by
            induction l with
            | nil => exact Nat.le_refl _
            | cons c r ih =>
              unfold splitL
              split
              · rw [List.length_cons, List.length_cons]; omega
              · split
                · rw [List.length_singleton, List.length_cons]; omega
                · rename_i h t he
                  rw [he] at ih
                  rw [List.length_cons, List.length_cons]
                  rw [List.length_cons] at ih
                  omega
          have := hsl inner
          rw [hargs]
          split
          · exact Nat.zero_le _
          · omega
        refine ⟨fun σ' H' => ∃ Lg : Addr, σ' = [some (.str z), some (.str (ofL R)), some (.int ((T : Nat) : Int)), some (.int ((i : Nat) : Int)), some (.int ((A0.length : Nat) : Int)), some (.int ((B0.length : Nat) : Int)), some (.int ((pr.length : Nat) : Int)), some (.ref Lg), v8] ∧ Ex H H' ∧ H' Lg = some (.lst ((argsL (splitL inner)).map fun a => V.str (ofL a))), ?_, ?_⟩
        · refine ⟨_, rfl, _, rfl, _, 1, rfl, rfl, _, _, rfl, rfl, _, rfl, ite2 (fun q => ?_) (fun q => ?_)⟩
          · have q := of_decide_eq_true q
            have hne : inner ≠ [] := fun z => by rw [z] at hAl; simp at hAl; omega
            refine ⟨_, rfl, _, rfl, _, 1, rfl, rfl, _, rfl, _, rfl, _, rfl, ofL R, rfl, sz_of (by rw [ofL_len]; omega), ?_⟩
            rw [show cutS (ofL R) (some (((B0.length : Nat) : Int) + 1)) (some ((A0.length : Nat) : Int)) = ofL inner by
              rw [show R = (B0 ++ [40]) ++ (inner ++ 41 :: post) by rw [hR2]; simp]
              exact cut_mid (B0 ++ [40]) inner _ (by rw [List.length_append, List.length_singleton]; omega) (by rw [List.length_append, List.length_singleton]; omega)]
            refine ⟨rfl, ofL inner, ",", rfl, rfl, by decide +kernel, by rw [ofL_len]; exact sz_of (by omega), fun L hL => ⟨L, rfl, e2.trans (Ex.new hL), ?_⟩⟩
            rw [upd_same, split_comma, tl_ofL, hargs, if_neg hne, List.map_map]
            rfl
          · have q : ¬ ((B0.length : Nat) : Int) + 1 < ((A0.length : Nat) : Int) := fun z => q (decide_eq_true z)
            have hne : inner = [] := List.eq_nil_of_length_eq_zero (by omega)
            refine ⟨L0, rfl, e2, ?_⟩
            rw [hL02, hargs, if_pos hne]
            rfl
        clear hL02 hL0 e2
        rintro σ3 H3 ⟨Lg, rfl, e3, hLg⟩
        have non3 : FC okS R = none → ∀ H', Ex H3 H' → Q (.int (-1)) H' := fun hn H' e' => non_ hn H' (e3.trans e')
        have cw : cutS (ofL R) (some ((pr.length : Nat) : Int)) (some ((B0.length : Nat) : Int)) = ofL w := by
          rw [show R = pr ++ (w ++ (40 :: inner ++ 41 :: post)) by rw [hR2, hBe, List.append_assoc]]
          exact cut_mid pr w _ rfl (by rw [hBl])
        refine ⟨_, rfl, _, rfl, _, rfl, _, rfl, _, rfl, ofL R, rfl, sz_of (by rw [ofL_len]; omega), ?_⟩
        rw [cw]
        refine ⟨_, rfl, Lg, _, rfl, .inl (SqL.of hLg), ofL w, (argsL (splitL inner)).length, by rw [List.length_map]; rfl, by rw [ofL_len]; omega, fun H4 e4 => ⟨_, rfl, ?_⟩⟩
        cases hf : fitsW okS (ofL w) (argsL (splitL inner)).length with
        | false =>
          rw [hf, if_neg (fun q => Bool.false_ne_true q.2)] at hred
          exact iteT ⟨1, rfl, non3 hred H4 e4⟩
        | true =>
        rw [hf] at hred
        refine iteF ⟨_, rfl, _, 1, rfl, rfl, ?_⟩
        have e34 := e3.trans e4
        have hLg4 := e4 _ _ hLg
        generalize hag : argsL (splitL inner) = ag at hred hLg4 hla
        have hagp : ∀ a ∈ ag, a.length ≤ 400 := fun a ha => by
          have hm : a ∈ splitL inner := by
            rw [← hag, hargs] at ha
            split at ha
            · cases ha
            · exact ha
          have hle : ∀ l : List Nat, ∀ a ∈ splitL l, a.length ≤ l.length := fun l => by
            induction l with
            | nil => intro a ha; rw [List.mem_singleton.mp ha]; exact Nat.le_refl _
            | cons c r ih =>
              intro a ha
              unfold splitL at ha
              split at ha
              · rcases List.mem_cons.mp ha with rfl | ha
                · exact Nat.zero_le _
                · have := ih a ha
                  rw [List.length_cons]; omega
              · split at ha
                · rw [List.mem_singleton.mp ha, List.length_singleton, List.length_cons]; omega
                · rename_i h t he
                  rw [he] at ih
                  rcases List.mem_cons.mp ha with rfl | ha
                  · have := ih h List.mem_cons_self
                    rw [List.length_cons, List.length_cons]; omega
                  · have := ih a (List.mem_cons_of_mem _ ha)
                    rw [List.length_cons]; omega
          have := hle inner a hm
          omega
        refine ⟨_, rfl, Lg, rfl, ⟨_, SqL.of hLg4⟩, ?_⟩
        refine for_list (xs := ag.map fun a => V.str (ofL a)) (fun j σ' H' => ∃ v8 : Option V, σ' = [some (.str z), some (.str (ofL R)), some (.int (((T + 1 + newN (ag.take j)) : Nat) : Int)), some (.int ((i : Nat) : Int)), some (.int ((A0.length : Nat) : Int)), some (.int ((B0.length : Nat) : Int)), some (.int ((pr.length : Nat) : Int)), some (.ref Lg), v8] ∧ Ex H4 H' ∧ (ag.take j).all (goodA okS) = true) ⟨_, rfl, Ex.refl _, rfl⟩ (fun j σ' H' _ ⟨_, _, q, _⟩ => SqL.of (q _ _ hLg4)) ?_ ?_
        · rintro j y σ' H5 hy ⟨v8', rfl, e5, hgd⟩
          rw [List.getElem?_map] at hy
          obtain ⟨a, ha, rfl⟩ := Option.map_eq_some_iff.mp hy
          have htk : ag.take (j + 1) = ag.take j ++ [a] := by rw [List.take_add_one, ha]; rfl
          have hnn : newN (ag.take (j + 1)) = newN (ag.take j) + (if a = [9] then 0 else 1) := by
            unfold newN
            rw [htk, List.filter_append, List.length_append]
            congr 1
            rw [List.filter_cons, List.filter_nil]
            by_cases q : a = [9]
            · rw [if_pos q, if_neg (by rw [decide_eq_true_eq]; exact fun z => z q)]; rfl
            · rw [if_neg q, if_pos (decide_eq_true q)]; rfl
          have hal : (ag.take (j + 1)).all (goodA okS) = ((ag.take j).all (goodA okS) && goodA okS a) := by
            rw [htk, List.all_append]
            simp
          refine ⟨_, rfl, rfl, _, rfl, ?_⟩
          rw [tab_eq]
          by_cases q9 : a = [9]
          · rw [decide_eq_true q9]
            refine iteF ⟨some (.str (ofL a)), ?_, e5, ?_⟩
            · rw [hnn, if_pos q9, Nat.add_zero]
              rfl
            · rw [hal, hgd, show goodA okS a = true by unfold goodA; rw [decide_eq_true q9]; rfl]
              rfl
          · rw [decide_eq_false q9]
            refine iteT ⟨_, rfl, _, 1, rfl, rfl, ?_⟩
            refine ⟨_, rfl, .str (ofL a), rfl, .inl ⟨_, rfl, by rw [ofL_len]; have := hagp a (List.mem_of_getElem? ha); omega⟩, fun H6 e6 => ⟨_, rfl, ?_⟩⟩
            rw [show nm (.str (ofL a)) = okS (ofL a) from rfl]
            have hga : goodA okS a = okS (ofL a) := by unfold goodA; rw [decide_eq_false q9, Bool.false_or]
            cases ho : okS (ofL a) with
            | false =>
              have : ¬ (ag.all (goodA okS) = true ∧ true = true) := fun q => by
                have := List.all_eq_true.mp q.1 a (List.mem_of_getElem? ha)
                rw [hga, ho] at this
                cases this
              rw [if_neg this] at hred
              exact iteT ⟨1, rfl, non3 hred H6 ((e4.trans e5).trans e6)⟩
            | true =>
              refine iteF ⟨some (.str (ofL a)), ?_, e5.trans e6, ?_⟩
              · rw [hnn, if_neg q9]
                rfl
              · rw [hal, hgd, hga, ho]
                rfl
        · rintro σ4 H5 ⟨v8', rfl, e5, hgd⟩
          rw [List.length_map, List.take_length] at hgd
          have hRn : R = (pr ++ w ++ 40 :: inner ++ [41]) ++ post := by rw [hR2, hBe]; simp
          refine ⟨_, rfl, _, rfl, _, rfl, ofL R, rfl, sz_of (by rw [ofL_len]; omega), ?_⟩
          rw [show cutS (ofL R) none (some ((pr.length : Nat) : Int)) = ofL pr by
            rw [show R = pr ++ (w ++ (40 :: inner ++ 41 :: post)) by rw [hR2, hBe, List.append_assoc]]
            exact cut_to pr _ rfl]
          refine ⟨_, _, rfl, rfl, sz_of (by rw [ofL_len]; show pr.length + 1 ≤ 100000; omega), ?_⟩
          refine ⟨_, rfl, _, rfl, _, 1, rfl, rfl, _, rfl, ofL R, rfl, sz_of (by rw [ofL_len]; omega), ?_⟩
          rw [show cutS (ofL R) (some (((A0.length : Nat) : Int) + 1)) none = ofL post by
            conv => lhs; rw [hRn]
            exact cut_fr _ post (by simp only [List.length_append, List.length_cons, List.length_nil]; omega)]
          rw [hgd, if_pos ⟨rfl, rfl⟩] at hred
          refine ⟨_, _, rfl, rfl, sz_of ?_, ?_⟩
          · rw [len_app, ofL_len, ofL_len]
            show pr.length + 1 + post.length ≤ 100000
            omega
          · refine ⟨pr ++ 9 :: post, T + 1 + newN ag, some (.int ((i : Nat) : Int)), some (.int ((A0.length : Nat) : Int)), some (.int ((B0.length : Nat) : Int)), some (.int ((pr.length : Nat) : Int)), some (.ref Lg), v8', ?_, e34.trans e5, ?_, ?_, ?_, .inr (List.mem_append_right _ List.mem_cons_self)⟩
            · rw [show ofL pr ++ "\t" ++ ofL post = ofL (pr ++ 9 :: post) by
                rw [show ("\t" : Str) = ofL [9] by decide +kernel, ofL_app, ofL_app, List.append_assoc]
                rfl, List.length_map, List.take_length]
              rfl
            · rw [List.length_append, List.length_cons]; omega
            · have hc : R.count 41 = pr.count 41 + (post.count 41 + 1) := by
                have h0 : ∀ l : List Nat, 41 ∉ l → l.count 41 = 0 := fun l h => List.count_eq_zero.mpr h
                rw [hR2, hBe, List.count_append, List.count_append, List.count_append, List.count_cons_self, h0 w (fun q => hB41 (by rw [hBe]; exact List.mem_append_right _ q)), h0 (40 :: inner) (fun q => hA (by rw [hAe]; exact List.mem_append_right _ q))]
                omega
              rw [List.count_append, List.count_cons]
              rw [show (9 == 41) = false from rfl]
              simp only [Bool.false_eq_true, if_false]
              omega
            · rw [hFC, hred]
              cases FC okS (pr ++ 9 :: post) with
              | none => rfl
              | some m =>
                show some (m + (newN ag + 1) + T) = some (m + (T + 1 + newN ag))
                congr 1
                omega
      · rintro σ' H1 ⟨R, T, v3, v4, v5, v6, v7, v8, rfl, e1, hR, hcnt, hFC, h9R⟩
        refine ⟨R, T, _, _, _, _, _, _, rfl, e1, hR, fun hm => ?_, hFC, h9R⟩
        have := List.count_pos_iff.mpr hm
        omega
    rintro σ1 H1 ⟨R, T, v3, v4, v5, v6, v7, v8, rfl, e1, hR, h41, hFC, h9R⟩
    have hl := FC_last okS_pl h41
    refine ⟨_, rfl, rfl, _, rfl, ?_⟩
    rw [tab_eq]
    by_cases h9 : R = [9]
    · rw [if_pos h9] at hl
      rw [decide_eq_true h9]
      have : cntV (tl z) = ((T : Nat) : Int) := by
        unfold cntV
        rw [hFC, hl]
        show (((0 + T : Nat)) : Int) = _
        rw [Nat.zero_add]
      rw [this] at k
      exact iteT ⟨_, rfl, k H1 e1⟩
    · rw [if_neg h9] at hl
      rw [decide_eq_false h9]
      refine iteF ⟨_, rfl, .str (ofL R), rfl, .inl ⟨_, rfl, by rw [ofL_len]; omega⟩, fun H2 e2 => ⟨_, rfl, ?_⟩⟩
      rw [show nm (.str (ofL R)) = okS (ofL R) from rfl]
      have k2 := k H2 (e1.trans e2)
      cases ho : okS (ofL R) with
      | true =>
        rw [if_pos ho] at hl
        have hT : T = 0 := by
          rcases h9R with h | h
          · exact h
          · rw [mark_ok.no R h] at ho; cases ho
        have : cntV (tl z) = 1 := by
          unfold cntV
          rw [hFC, hl, hT]
          rfl
        rw [this] at k2
        exact iteT k2
      | false =>
        rw [if_neg (by rw [ho]; exact Bool.false_ne_true)] at hl
        have : cntV (tl z) = -1 := by
          unfold cntV
          rw [hFC, hl]
          rfl
        rw [this] at k2
        exact iteF ⟨1, rfl, k2⟩
end
end K20

set_option Elab.async false
set_option linter.all false
set_option maxRecDepth 100000
namespace K20
open PySem PySem.Spec PyProof.Rows L2 Evl TL UL StX
section
variable {P : Program} {w : World} {K : PySem.W.Frag} {mg : Str → Option Value} {base : Heap} {A : Adr}
theorem dp_ni {K : PySem.W.Frag} {H : Hp} : ∀ os : List Nat, DpAll K H (ni os) (ndI os)
  | [] => .nil
  | o :: r => .cons (.int _) (dp_ni r)
theorem dp_node {K : PySem.W.Frag} {H : Hp} {a : Addr} {nd : Nd} (h : NdAt H a nd) : Dp K H (.ref a) (nodeD nd) := by
  cases nd with
  | name w => exact .tup (SqT.of h) (.cons (.str _) (.cons (.str _) .nil))
  | call w os =>
    obtain ⟨t, h1, h2⟩ := h
    exact .tup (SqT.of h1) (.cons (.str _) (.cons (.str _) (.cons (.tup (SqT.of h2) (dp_ni os)) .nil)))
  | op w os => exact .tup (SqT.of h) (.cons (.str _) (dp_ni os))
theorem dp_nodes {K : PySem.W.Frag} {H : Hp} {as : List Addr} {ns : List Nd} (h : Al2 (NdAt H) as ns) : DpAll K H (as.map V.ref) (ns.map nodeD) := by
  induction h with
  | nil => exact .nil
  | cons h _ ih => exact .cons (dp_node h) ih
theorem ndI_lay : ∀ os : List Nat, PyData.canLayAll0 (ndI os) = true ∧ PyData.depthAll (ndI os) ≤ 1
  | [] => ⟨rfl, by simp [ndI, PyData.depthAll]⟩
  | o :: r => by
    obtain ⟨h1, h2⟩ := ndI_lay r
    refine ⟨?_, ?_⟩
    · show (PyData.canLay0 (.int _) && PyData.canLayAll0 (ndI r)) = true
      rw [h1]
      rfl
    · show PyData.depthAll (.int _ :: ndI r) ≤ 1
      simp only [PyData.depthAll, PyData.depth]
      omega
theorem goodNd_str {nd : Nd} (h : GoodNd okS nd) : PyData.strOk (wordOf nd) = true := by
  cases nd with
  | name w => exact okS_str h
  | call w os => exact okS_str h.1
  | op w os =>
    have h : opsT.lookup w = some (os.length : Int) := h
    rcases ops_cases h with ⟨rfl, _⟩ | ⟨rfl, _⟩ | ⟨rfl, _⟩
    · exact (by decide +kernel : PyData.strOk "part" = true)
    · exact (by decide +kernel : PyData.strOk "pick" = true)
    · exact (by decide +kernel : PyData.strOk "then" = true)
theorem node_lay {nd : Nd} (h : GoodNd okS nd) : PyData.canLay0 (nodeD nd) = true ∧ PyData.depth (nodeD nd) ≤ 4 := by
  have hs := goodNd_str h
  cases nd with
  | name w =>
    have hs : PyData.strOk w = true := hs
    refine ⟨?_, by simp [nodeD, PyData.depth, PyData.depthAll]⟩
    show (PyData.canLay0 (.str "name") && (PyData.canLay0 (.str w) && true)) = true
    rw [show PyData.canLay0 (.str w) = true from hs, show PyData.canLay0 (.str "name") = true by decide +kernel]
    rfl
  | call w os =>
    have hs : PyData.strOk w = true := hs
    obtain ⟨h1, h2⟩ := ndI_lay os
    refine ⟨?_, ?_⟩
    · show (PyData.canLay0 (.str "call") && (PyData.canLay0 (.str w) && (PyData.canLayAll0 (ndI os) && true))) = true
      rw [show PyData.canLay0 (.str w) = true from hs, show PyData.canLay0 (.str "call") = true by decide +kernel, h1]
      rfl
    · simp only [nodeD, PyData.depth, PyData.depthAll]
      omega
  | op w os =>
    have hs : PyData.strOk w = true := hs
    obtain ⟨h1, h2⟩ := ndI_lay os
    refine ⟨?_, ?_⟩
    · show (PyData.canLay0 (.str w) && PyData.canLayAll0 (ndI os)) = true
      rw [show PyData.canLay0 (.str w) = true from hs, h1]
      rfl
    · simp only [nodeD, PyData.depth, PyData.depthAll]
      omega
theorem nodes_lay : ∀ ns : List Nd, (∀ nd ∈ ns, GoodNd okS nd) → PyData.canLayAll0 (ns.map nodeD) = true ∧ PyData.depthAll (ns.map nodeD) ≤ 4
  | [], _ => ⟨rfl, by simp [PyData.depthAll]⟩
  | nd :: r, h => by
    obtain ⟨h1, h2⟩ := nodes_lay r fun d hd => h d (List.mem_cons_of_mem _ hd)
    obtain ⟨g1, g2⟩ := node_lay (h nd List.mem_cons_self)
    refine ⟨?_, ?_⟩
    · show (PyData.canLay0 (nodeD nd) && PyData.canLayAll0 (r.map nodeD)) = true
      rw [h1, g1]
      rfl
    · rw [List.map_cons]
      simp only [PyData.depthAll]
      omega
theorem shaped_nodes {ns : List Nd} (h : OkN ns) : SeqAt.shaped (.tuple (ns.map nodeD)) = true := by
  obtain ⟨h1, h2⟩ := nodes_lay ns h.g
  unfold SeqAt.shaped
  rw [show PyData.canLay0 (.tuple (ns.map nodeD)) = true by unfold PyData.canLay0; exact h1, Bool.true_and]
  refine decide_eq_true ?_
  simp only [PyData.depth]
  omega
theorem shaped_nodesL {ns : List Nd} (h : OkN ns) : SeqAt.shaped (.list (ns.map nodeD)) = true := by
  obtain ⟨h1, h2⟩ := nodes_lay ns h.g
  unfold SeqAt.shaped
  rw [show PyData.canLay0 (.list (ns.map nodeD)) = true by unfold PyData.canLay0; exact h1, Bool.true_and]
  refine decide_eq_true ?_
  simp only [PyData.depth]
  omega
theorem okN_w {ns : List Nd} (h : OkN ns) : ∀ nd ∈ ns, NdW nd := fun nd hnd => by
  have := h.g nd hnd
  cases nd with
  | name w => trivial
  | call w os => trivial
  | op w os => exact opw_ne (goodNd_wf this)
/-! ### expressions compared -/
def spEqE (C : Addr) : Sp := fun vs H Q _ => ∃ x ns z ms, vs = [.ref x, .ref z] ∧ ExAt C H x ns ∧ OkN ns ∧ ExAt C H z ms ∧ OkN ms ∧ Q (.bl (decide (ns = ms))) H
theorem ok_ex_eq (T : Tx0 w K mg A) : FnOk P w K mg base CX0 1 A.ex_eq A.d_ex_eq p_ex_eq (spEqE A.Expression) := by
  refine T.F_ex_eq.ok sc_ex_eq (fun vs H Q E h => ?_) (fun cdv Ar outer s H vs Q E hr h => ?_)
  · obtain ⟨x, ns, z, ms, rfl, _⟩ := h
    rfl
  · obtain ⟨x, ns, z, ms, rfl, hx, hN, hz, hM, k⟩ := h
    refine ⟨_, (pss_one (ps_ret (pe_and (pe_callB call_isi (by rfl) T.m_isinstance (by decide +kernel) (pa_cons (pv 1) (pa_cons (pe_glob (v := .ref A.Expression) (by rfl) T.g_Expression rfl) pa_nil))) (pe_one (pe_cmpR (op_eqD hr.units) (pe_fld (pv 0) rfl) (pe_fld (pv 1) rfl) (nomark _)))))), ?_⟩
    obtain ⟨dx, t, f, as, h1, h2, h3, h4⟩ := id hx
    obtain ⟨dx', t', f', as', g1, g2, g3, g4⟩ := id hz
    refine ⟨_, rfl, .ref z, _, _, _, _, rfl, .own A.Expression, tyx_ins g1 T.cl_Expression T.ty_Expression, UL.kit_own, _, rfl, iteT ?_⟩
    refine ⟨_, rfl, x, _, dx, _, _, rfl, h1, T.cl_Expression, T.na_Expression__nodes, ex_look _ _, _, rfl, z, _, dx', _, _, rfl, g1, T.cl_Expression, T.na_Expression__nodes, ex_look _ _, ?_⟩
    refine ⟨_, _, .tup (SqT.of h2) (dp_nodes h3), .tup (SqT.of g2) (dp_nodes g3), shaped_nodes hN, shaped_nodes hM, ?_⟩
    rw [PyData.eqv, eqv_nodes _ _ (okN_w hN) (okN_w hM)]
    exact k
end
end K20

set_option Elab.async false
set_option linter.all false
set_option maxRecDepth 100000
namespace K20
open PySem PySem.Spec PyProof.Rows L2 Evl TL UL StX
section
variable {P : Program} {w : World} {K : PySem.W.Frag} {mg : Str → Option Value} {base : Heap} {A : Adr}
/-! ### what may stand in a row -/
inductive Trd
  | no | odd | ex (ns : List Nd)
def isEx : Trd → Bool
  | .ex _ => true
  | _ => false
def isNo : Trd → Bool
  | .no => true
  | _ => false
def TrV (C : Addr) (H : Hp) : Trd → V → Prop
  | .no, v => v = .non
  | .odd, v => (∃ s, v = .str s) ∨ (∃ i, v = .int i) ∨ ∃ b, v = .bl b
  | .ex ns, v => ∃ x, v = .ref x ∧ ExAt C H x ns ∧ OkN ns
theorem TrV.mono {C : Addr} {H H' : Hp} {t : Trd} {v : V} (e : Ex H H') (h : TrV C H t v) : TrV C H' t v := by
  cases t with
  | no => exact h
  | odd => exact h
  | ex ns =>
    obtain ⟨x, h1, h2, h3⟩ := h
    exact ⟨x, h1, h2.mono e, h3⟩
/-- a kind as it may be given: a string, None, a number, True or False, a list of one string -/
def KdV (H : Hp) (v : V) : Prop := (∃ z : Str, v = .str z ∧ z.length ≤ 400) ∨ v = .non ∨ (∃ i, v = .int i) ∨ (∃ b, v = .bl b) ∨ ∃ c z, v = .ref c ∧ H c = some (.lst [.str z])
theorem KdV.mono {H H' : Hp} {v : V} (e : Ex H H') (h : KdV H v) : KdV H' v := by
  rcases h with h | h | h | h | ⟨c, z, h1, h2⟩
  · exact .inl h
  · exact .inr (.inl h)
  · exact .inr (.inr (.inl h))
  · exact .inr (.inr (.inr (.inl h)))
  · exact .inr (.inr (.inr (.inr ⟨c, z, h1, e _ _ h2⟩)))
def isStr : V → Bool
  | .str _ => true
  | _ => false
theorem KdV.ty {K : PySem.W.Frag} {H : Hp} {v : V} (h : KdV H v) : ∃ t, TyX K H v t ∧ PySem.W.kitOne K t (.type "str") = some (isStr v) := by
  rcases h with ⟨z, rfl, _⟩ | rfl | ⟨i, rfl⟩ | ⟨b, rfl⟩ | ⟨c, z, rfl, hc⟩
  · exact ⟨_, .base (.str z), kit_ty (r := true) (by decide +kernel)⟩
  · exact ⟨_, .base .non, kit_ty (r := false) (by decide +kernel)⟩
  · exact ⟨_, .base (.int i), kit_ty (r := false) (by decide +kernel)⟩
  · exact ⟨_, .base (.bl b), kit_ty (r := false) (by decide +kernel)⟩
  · exact ⟨_, .base (.lst hc), kit_ty (r := false) (by decide +kernel)⟩
theorem KdV.str {H : Hp} {v : V} (h : KdV H v) (s : isStr v = true) : ∃ z : Str, v = .str z ∧ z.length ≤ 400 := by
  rcases h with ⟨z, rfl, hz⟩ | rfl | ⟨i, rfl⟩ | ⟨b, rfl⟩ | ⟨c, z, rfl, hc⟩ <;> first | exact ⟨z, rfl, hz⟩ | cases s
theorem TrV.ty (T : Tx0 w K mg A) {H : Hp} {t : Trd} {v : V} (h : TrV A.Expression H t v) : ∃ te, TyX K H v te ∧ PySem.W.kitOne K te (.ref A.Expression) = some (isEx t) := by
  cases t with
  | no => obtain rfl : v = .non := h; exact ⟨_, .base .non, T.ks_non⟩
  | odd =>
    rcases h with ⟨s, rfl⟩ | ⟨i, rfl⟩ | ⟨b, rfl⟩
    · exact ⟨_, .base (.str s), T.ks_str⟩
    · exact ⟨_, .base (.int i), T.ks_int⟩
    · exact ⟨_, .base (.bl b), T.ks_bool⟩
  | ex ns =>
    obtain ⟨x, rfl, ⟨dx, t', f, as, h1, _⟩, _⟩ := h
    exact ⟨_, tyx_ins h1 T.cl_Expression T.ty_Expression, UL.kit_own⟩
def rowOk (k n : V) (t : Trd) : Bool := match k, n with
  | .str z, .str m => if inV (.str z) k_BINDING = true then okS m && isEx t else if z = "use" then decide (m = "") && isEx t else inV (.str z) k_BARE && decide (m = "") && isNo t
  | _, _ => false
theorem rowOk_n {k n : V} {t : Trd} (h : isStr n = false) : rowOk k n t = false := by
  cases k <;> cases n <;> first | rfl | cases h
theorem rowOk_k {k n : V} {t : Trd} (h : isStr k = false) : rowOk k n t = false := by
  cases k <;> first | rfl | cases h
def spIsRow (C : Addr) : Sp := fun vs H Q _ => ∃ k n v t, vs = [k, n, v] ∧ KdV H k ∧ KdV H n ∧ TrV C H t v ∧ ∀ H', Ex H H' → Q (.bl (rowOk k n t)) H'
theorem ok_is_row (T : Tx0 w K mg A) : FnOk P w K mg base CX0 2 A.is_row A.d_is_row p_is_row (spIsRow A.Expression) := by
  refine T.F_is_row.ok sc_is_row (fun vs H Q E h => ?_) (fun cdv Ar outer s H vs Q E hr h => ?_)
  · obtain ⟨k, n, v, t, rfl, _⟩ := h
    rfl
  · obtain ⟨kv, n, v, t, rfl, hk, hn, hv, q⟩ := h
    refine ⟨_, (pss_cons (ps_if (PW.pt (pw_or (pt_not (pt_val (pe_callB call_isi (by rfl) T.m_isinstance (by decide +kernel) (pa_cons (pv 0) (pa_cons (pe_bltn (v := .ty "str") (u := .type "str") (by rfl) T.m_str (by decide +kernel) rfl) pa_nil))))) (pw_or1 (pt_not (pt_val (pe_callB call_isi (by rfl) T.m_isinstance (by decide +kernel) (pa_cons (pv 1) (pa_cons (pe_bltn (v := .ty "str") (u := .type "str") (by rfl) T.m_str (by decide +kernel) rfl) pa_nil)))))))) (pss_one (ps_ret pe_bl)) pss_nil)
      (pss_cons (ps_if (pt_cmpR op_in_seq (pv 0) (pe_glob (v := .ref A.BINDING) (by rfl) T.c_BINDING rfl) (by rfl)) (pss_one (ps_ret (pe_and (pe_call (ok_is_name T) (hr.mono (by decide)) (by rfl) T.g_is_name T.F_is_name.kp T.b_is_name .nil pass0 (pa_cons (pv 1) pa_nil)) (pe_one (pe_callB call_isi (by rfl) T.m_isinstance (by decide +kernel) (pa_cons (pv 2) (pa_cons (pe_glob (v := .ref A.Expression) (by rfl) T.g_Expression rfl) pa_nil))))))) pss_nil)
      (pss_cons (ps_if (pt_cmpR op_eq (pv 0) pe_str (nomark _)) (pss_one (ps_ret (pe_and (pe_cmpR op_eq (pv 1) pe_str (nomark _)) (pe_one (pe_callB call_isi (by rfl) T.m_isinstance (by decide +kernel) (pa_cons (pv 2) (pa_cons (pe_glob (v := .ref A.Expression) (by rfl) T.g_Expression rfl) pa_nil))))))) pss_nil)
      (pss_one (ps_ret (pe_and (pe_cmpR op_in_seq (pv 0) (pe_glob (v := .ref A.BARE) (by rfl) T.c_BARE rfl) (by rfl)) (pe_and (pe_cmpR op_eq (pv 1) pe_str (nomark _)) (pe_one (pe_cmpR op_isN (pv 2) pe_non (nomark _)))))))))), ?_⟩
    obtain ⟨tk, ty1, kt1⟩ := hk.ty (K := K)
    refine ⟨_, rfl, kv, _, tk, _, _, rfl, .ty "str", ty1, kt1, _, rfl, ?_⟩
    cases s1 : isStr kv with
    | false =>
      have := q H (Ex.refl H)
      rw [rowOk_k s1] at this
      exact iteT this
    | true =>
      refine iteF ?_
      obtain ⟨tn, ty2, kt2⟩ := hn.ty (K := K)
      refine ⟨_, rfl, n, _, tn, _, _, rfl, .ty "str", ty2, kt2, _, rfl, ?_⟩
      cases s2 : isStr n with
      | false =>
        have := q H (Ex.refl H)
        rw [rowOk_n s2] at this
        exact iteT this
      | true =>
        refine iteF ?_
        obtain ⟨z, rfl, hz⟩ := hk.str s1
        obtain ⟨m, rfl, hm⟩ := hn.str s2
        refine ⟨_, rfl, A.BINDING, k_BINDING, rfl, .inr (T.q_BINDING _), rfl, by decide, _, rfl, ?_⟩
        show if inV (.str z) k_BINDING = true then _ else _
        by_cases hb : inV (.str z) k_BINDING = true
        · have e : rowOk (.str z) (.str m) t = (okS m && isEx t) := if_pos hb
          rw [e] at q
          rw [hb]
          refine iteT ⟨_, rfl, .str m, rfl, .inl ⟨_, rfl, Nat.le_trans hm (by decide)⟩, fun H1 e1 => ?_⟩
          rw [show nm (.str m) = okS m from rfl]
          cases ho : okS m with
          | false =>
            rw [ho] at q
            exact ⟨false, rfl, iteF (q H1 e1)⟩
          | true =>
            rw [ho] at q
            refine ⟨true, rfl, iteT ?_⟩
            obtain ⟨te, ty3, kt3⟩ := (hv.mono e1).ty T
            exact ⟨_, rfl, v, _, te, _, _, rfl, .own A.Expression, ty3, kt3, q H1 e1⟩
        · rw [Bool.eq_false_iff.mpr hb]
          refine iteF ?_
          obtain ⟨te, ty3, kt3⟩ := hv.ty T
          refine ⟨_, rfl, rfl, _, rfl, ite2 (fun hu => ?_) (fun hu => ?_)⟩
          · have hz' : z = "use" := V.str.inj (of_decide_eq_true hu)
            have e : rowOk (.str z) (.str m) t = (decide (m = "") && isEx t) := (if_neg hb).trans (if_pos hz')
            rw [e] at q
            refine ⟨_, rfl, rfl, _, rfl, ?_⟩
            rw [str_eqb]
            cases hd : decide (m = ("" : Str)) with
            | false =>
              rw [hd] at q
              exact iteF (q H (Ex.refl H))
            | true =>
              rw [hd] at q
              exact iteT ⟨_, rfl, v, _, te, _, _, rfl, .own A.Expression, ty3, kt3, q H (Ex.refl H)⟩
          · have hz' : z ≠ "use" := fun e => hu (decide_eq_true (congrArg V.str e))
            have e : rowOk (.str z) (.str m) t = (inV (.str z) k_BARE && decide (m = "") && isNo t) := (if_neg hb).trans (if_neg hz')
            rw [e] at q
            refine ⟨_, rfl, A.BARE, k_BARE, rfl, .inr (T.q_BARE _), rfl, by decide, _, rfl, ?_⟩
            cases hbr : inV (.str z) k_BARE with
            | false =>
              rw [hbr] at q
              exact iteF (q H (Ex.refl H))
            | true =>
              rw [hbr] at q
              refine iteT ⟨_, rfl, rfl, _, rfl, ?_⟩
              rw [str_eqb]
              cases hd : decide (m = ("" : Str)) with
              | false =>
                rw [hd] at q
                exact iteF (q H (Ex.refl H))
              | true =>
                rw [hd] at q
                refine iteT ⟨_, rfl, rfl, ?_⟩
                have e2 : decide (v = V.non) = isNo t := by
                  cases t with
                  | no => exact decide_eq_true hv
                  | odd => exact decide_eq_false fun z => by rcases hv with ⟨_, h⟩ | ⟨_, h⟩ | ⟨_, h⟩ <;> (rw [z] at h; cases h)
                  | ex ns => exact decide_eq_false fun z => by obtain ⟨_, h, _⟩ := hv; rw [z] at h; cases h
                rw [e2]
                exact q H (Ex.refl H)
/-! ### a row is made -/
/-- what an error tells of a kind: the kind, or a copy of the list -/
def CpK (H : Hp) (k u : V) : Prop := (flatV k = true ∧ u = k) ∨ ∃ c d z, k = .ref c ∧ u = .ref d ∧ H c = some (.lst [.str z]) ∧ H d = some (.lst [.str z])
def spRowInit (R C IR : Addr) : Sp := fun vs H Q E => ∃ x dx k n v t, vs = [.ref x, k, n, v] ∧ H x = some (.ins R dx []) ∧ KdV H k ∧ KdV H n ∧ TrV C H t v ∧
  (rowOk k n t = true → ∀ H', Ex (L2.del H x) H' → H' x = some (.ins R dx [("kind", k), ("name", n), ("expression", v)]) → Q .non H') ∧
  (rowOk k n t = false → ∀ d u H', Ex H H' → H' d = some (.xd [("what", u)]) → CpK H' k u → E (.ref IR) (some d) H')
theorem ok_row_init (T : Tx0 w K mg A) : FnOk P w K mg base (L2.CX P w) 6 A.row_init A.d_row_init p_row_init (spRowInit A.Row A.Expression A.InvalidRow) := by
  refine T.F_row_init.ok sc_row_init (fun vs H Q E h => ?_) (fun cdv Ar outer s H vs Q E hr h => ?_)
  · obtain ⟨x, dx, k, n, v, t, rfl, _⟩ := h
    rfl
  · obtain ⟨x, dx, kv, n, v, t, rfl, hx, hk, hn, hv, q, qe⟩ := h
    refine ⟨_, (pss_cons (ps_if (pt_not (pt_val (pe_call (ok_is_row T) (hr.mono (by decide)) (by rfl) T.g_is_row T.F_is_row.kp T.b_is_row .nil pass0 (pa_cons (pv 1) (pa_cons (pv 2) (pa_cons (pv 3) pa_nil)))))) (pss_one (ps_raise rfl (takes_of rfl rfl rfl rfl) (pmk_oex T.ex_InvalidRow.ox T.ex_InvalidRow.ii T.ti_lives_init (ok_lives_init T) (hr.mono (by decide)) T.b_lives_init .nil pass0 (by rfl) T.g_InvalidRow (pa_cons (pv 1) pa_nil)))) pss_nil)
      (pss_cons (ps_fld (pv 0) (pv 1) rfl)
      (pss_cons (ps_fld (pv 0) (pv 2) rfl)
      (pss_one (ps_fld (pv 0) (pv 3) rfl))))), ?_⟩
    refine ⟨_, rfl, _, rfl, _, rfl, kv, n, v, t, rfl, hk, hn, hv, fun H1 e1 => ?_⟩
    cases ho : rowOk kv n t with
    | true =>
      refine ⟨_, rfl, iteF ?_⟩
      have hx1 := e1 _ _ hx
      refine ⟨_, rfl, _, rfl, x, _, dx, _, rfl, hx1, T.cl_Row, T.na_Row_kind, by decide, ?_⟩
      refine ⟨_, rfl, _, rfl, x, _, dx, _, rfl, upd_same, T.cl_Row, T.na_Row_name, by show 1 < 1000; decide, ?_⟩
      refine ⟨_, rfl, _, rfl, x, _, dx, _, rfl, upd_same, T.cl_Row, T.na_Row_expression, by show 2 < 1000; decide, ?_⟩
      exact q ho _ (ex_del e1 fun b o n hb => by rw [upd_ne n, upd_ne n, upd_ne n]; exact hb) upd_same
    | false =>
      have hk1 := hk.mono e1
      refine ⟨_, rfl, iteT ⟨_, rfl, (by show 1 ≤ 1000; decide), ?_⟩⟩
      have fl : flatV kv = true → _ := fun hf => raise_what (K := K) (Q := E) T.ex_InvalidRow hf fun d H' e' hd => qe ho d kv H' (e1.trans e') hd (.inl ⟨hf, rfl⟩)
      rcases hk1 with ⟨z, rfl, _⟩ | rfl | ⟨i, rfl⟩ | ⟨b, rfl⟩ | ⟨c, z, rfl, hc⟩
      · exact fl rfl
      · exact fl rfl
      · exact fl rfl
      · exact fl rfl
      · refine raise_copy (t := false) (xs := [.str z]) T.ex_InvalidRow hc (by show 1 ≤ 10; decide) (fun y hy => .inl ?_) fun d b ys H' e' hd hb hal => qe ho d (.ref b) H' (e1.trans e') hd (.inr ⟨c, b, z, rfl, rfl, e' _ _ hc, ?_⟩)
        · rw [List.mem_singleton.mp hy]; rfl
        · have hl : ys = [.str z] := by
            cases hal with
            | cons a r =>
              cases r
              rcases a with ⟨_, rfl⟩ | ⟨_, _, h, _⟩
              · rfl
              · cases h
          rw [← hl]
          exact hb
end
end K20

set_option Elab.async false
set_option linter.all false
set_option maxRecDepth 100000
namespace K20
open PySem PySem.Spec PyProof.Rows L2 Evl TL UL StX
section
variable {P : Program} {w : World} {K : PySem.W.Frag} {mg : Str → Option Value} {base : Heap} {A : Adr}
/-! ### rows of nine kinds -/
inductive Kd
  | use | val | ref | set | blk | iff | lop | els | fin
deriving DecidableEq
def kS : Kd → Str
  | .use => "use"
  | .val => "val"
  | .ref => "ref"
  | .set => "set"
  | .blk => "block"
  | .iff => "if"
  | .lop => "loop"
  | .els => "else"
  | .fin => "end"
/-- rows that have an expression; rows that bind a name -/
def isX : Kd → Bool
  | .use => true
  | .val => true
  | .ref => true
  | .set => true
  | _ => false
def isB : Kd → Bool
  | .val => true
  | .ref => true
  | .set => true
  | _ => false
structure Rwd where
  k : Kd
  nm : Str
  ns : List Nd
deriving DecidableEq
def exT (ns : List Nd) : Str := ofL (tx ns (ns.length - 1))
/-- its line -/
def rT (r : Rwd) : Str := if isB r.k then kS r.k ++ " " ++ (r.nm ++ " = " ++ exT r.ns) else if isX r.k then kS r.k ++ " " ++ exT r.ns else kS r.k
structure WfRw (r : Rwd) : Prop where
  x : isX r.k = true → OkN r.ns
  nx : isX r.k = false → r.ns = []
  b : isB r.k = true → okS r.nm = true
  nb : isB r.k = false → r.nm = ""
theorem isB_X {k : Kd} (h : isB k = true) : isX k = true := by cases k <;> first | rfl | cases h
theorem ex_run {ns : List Nd} (h : OkN ns) : rrun okS ⟨[], [], false⟩ (cutGo [] (tl (exT ns))) = some ⟨ns, [], true⟩ ∧ (exT ns).length ≤ 280 := by
  obtain ⟨g, l⟩ := okN_good h
  unfold exT
  rw [tl_ofL, ofL_len]
  exact ⟨good_run g, l⟩
def ExpV (C : Addr) (H : Hp) (r : Rwd) (v : V) : Prop := if isX r.k then ∃ x, v = .ref x ∧ ExAt C H x r.ns else v = .non
theorem ExpV.mono {C : Addr} {H H' : Hp} {r : Rwd} {v : V} (e : Ex H H') (h : ExpV C H r v) : ExpV C H' r v := by
  unfold ExpV at h ⊢
  split
  · rw [if_pos (by assumption)] at h
    obtain ⟨x, h1, h2⟩ := h
    exact ⟨x, h1, h2.mono e⟩
  · rw [if_neg (by assumption)] at h
    exact h
def rowF (r : Rwd) (v : V) : List (Str × V) := [("kind", .str (kS r.k)), ("name", .str r.nm), ("expression", v)]
def RwAt (R C : Addr) (H : Hp) (a : Addr) (r : Rwd) : Prop := ∃ dx v, H a = some (.ins R dx (rowF r v)) ∧ ExpV C H r v
theorem RwAt.mono {R C : Addr} {H H' : Hp} {a : Addr} {r : Rwd} (e : Ex H H') (h : RwAt R C H a r) : RwAt R C H' a r := by
  obtain ⟨dx, v, h1, h2⟩ := h
  exact ⟨dx, v, e _ _ h1, h2.mono e⟩
theorem f_kind (r : Rwd) (v : V) : (rowF r v).lookup ("kind" : Str) = some (.str (kS r.k)) := rfl
theorem f_rname (r : Rwd) (v : V) : (rowF r v).lookup ("name" : Str) = some (.str r.nm) := rfl
theorem f_rexp (r : Rwd) (v : V) : (rowF r v).lookup ("expression" : Str) = some v := rfl
theorem k_binding (k : Kd) : inV (.str (kS k)) k_BINDING = isB k := by cases k <;> decide +kernel
theorem k_bare (k : Kd) : inV (.str (kS k)) k_BARE = !isX k := by cases k <;> decide +kernel
theorem kS_len (k : Kd) : (kS k).length ≤ 5 := by cases k <;> decide +kernel
theorem kS_plain (k : Kd) : 32 ∉ tl (kS k) ∧ 10 ∉ tl (kS k) := by cases k <;> decide +kernel
theorem kS_inj {k k' : Kd} (h : kS k = kS k') : k = k' := by
  revert h
  cases k <;> cases k' <;> first | (intro _; rfl) | (intro h; exact absurd h (by decide +kernel))
theorem okS_sp {z : Str} (h : okS z = true) : 32 ∉ tl z ∧ 10 ∉ tl z := by
  have ha := List.all_eq_true.mp (okS_all h).1
  exact ⟨fun m => absurd (ha _ m) (by decide +kernel), fun m => absurd (ha _ m) (by decide +kernel)⟩
theorem okS_ne {z : Str} (h : okS z = true) : z ≠ "" := fun e => by
  rw [e] at h
  exact absurd h (by decide +kernel)
theorem inV_str {z : Str} {l : List Str} (h : inV (.str z) (l.map V.str) = true) : z ∈ l := by
  unfold inV at h
  rw [List.any_eq_true] at h
  obtain ⟨y, hy, e⟩ := h
  obtain ⟨w, hw, rfl⟩ := List.mem_map.mp hy
  have e1 : w = z := by
    have : (w == z) = true := e
    simpa using this
  rw [← e1]
  exact hw
theorem rowOk_rwd {z m : Str} {t : Trd} (h : rowOk (.str z) (.str m) t = true) (hN : ∀ ns, t = .ex ns → OkN ns) : ∃ r : Rwd, WfRw r ∧ kS r.k = z ∧ r.nm = m ∧ (isX r.k = true → t = .ex r.ns) ∧ (isX r.k = false → t = .no) := by
  have ex : isEx t = true → ∃ ns, t = .ex ns := fun e => by cases t with
    | ex ns => exact ⟨ns, rfl⟩
    | no => cases e
    | odd => cases e
  have no : isNo t = true → t = .no := fun e => by cases t with
    | ex ns => cases e
    | no => rfl
    | odd => cases e
  have bx : ∀ k : Kd, isB k = true → okS m = true → isEx t = true → ∃ r : Rwd, WfRw r ∧ kS r.k = kS k ∧ r.nm = m ∧ (isX r.k = true → t = .ex r.ns) ∧ (isX r.k = false → t = .no) := fun k hb hm he => by
    obtain ⟨ns, rfl⟩ := ex he
    refine ⟨⟨k, m, ns⟩, ⟨fun _ => hN ns rfl, fun q => ?_, fun _ => hm, fun q => ?_⟩, rfl, rfl, fun _ => rfl, fun q => ?_⟩
    · rw [show isX k = true from isB_X hb] at q; cases q
    · rw [show isB k = true from hb] at q; cases q
    · rw [show isX k = true from isB_X hb] at q; cases q
  have nx : ∀ k : Kd, isX k = false → m = "" → isNo t = true → ∃ r : Rwd, WfRw r ∧ kS r.k = kS k ∧ r.nm = m ∧ (isX r.k = true → t = .ex r.ns) ∧ (isX r.k = false → t = .no) := fun k hb hm he => by
    have hB : isB k = false := by
      cases hB : isB k with
      | false => rfl
      | true => rw [isB_X hB] at hb; cases hb
    refine ⟨⟨k, m, []⟩, ⟨fun q => ?_, fun _ => rfl, fun q => ?_, fun _ => hm⟩, rfl, rfl, fun q => ?_, fun _ => no he⟩
    · rw [show isX k = false from hb] at q; cases q
    · rw [show isB k = false from hB] at q; cases q
    · rw [show isX k = false from hb] at q; cases q
  by_cases hb : inV (.str z) k_BINDING = true
  · have e : rowOk (.str z) (.str m) t = (okS m && isEx t) := if_pos hb
    rw [e, Bool.and_eq_true] at h
    have hm : z ∈ [("val" : Str), "ref", "set"] := inV_str hb
    rcases List.mem_cons.mp hm with rfl | hm
    · exact bx .val rfl h.1 h.2
    rcases List.mem_cons.mp hm with rfl | hm
    · exact bx .ref rfl h.1 h.2
    rw [List.mem_singleton.mp hm]
    exact bx .set rfl h.1 h.2
  · by_cases hu : z = "use"
    · have e : rowOk (.str z) (.str m) t = (decide (m = "") && isEx t) := (if_neg hb).trans (if_pos hu)
      rw [e, Bool.and_eq_true] at h
      obtain ⟨ns, rfl⟩ := ex h.2
      exact ⟨⟨.use, m, ns⟩, ⟨fun _ => hN ns rfl, (fun q => by cases q), (fun q => by cases q), fun _ => of_decide_eq_true h.1⟩, hu.symm, rfl, fun _ => rfl, (fun q => by cases q)⟩
    · have e : rowOk (.str z) (.str m) t = (inV (.str z) k_BARE && decide (m = "") && isNo t) := (if_neg hb).trans (if_neg hu)
      rw [e, Bool.and_eq_true, Bool.and_eq_true] at h
      have hm : z ∈ [("block" : Str), "if", "else", "loop", "end"] := inV_str h.1.1
      have hd := of_decide_eq_true h.1.2
      rcases List.mem_cons.mp hm with rfl | hm
      · exact nx .blk rfl hd h.2
      rcases List.mem_cons.mp hm with rfl | hm
      · exact nx .iff rfl hd h.2
      rcases List.mem_cons.mp hm with rfl | hm
      · exact nx .els rfl hd h.2
      rcases List.mem_cons.mp hm with rfl | hm
      · exact nx .lop rfl hd h.2
      rw [List.mem_singleton.mp hm]
      exact nx .fin rfl hd h.2
theorem rT_len {r : Rwd} (wf : WfRw r) : (rT r).length ≤ 300 := by
  have h1 := kS_len r.k
  unfold rT
  cases hB : isB r.k with
  | true =>
    have hX := isB_X hB
    have h2 := (ex_run (wf.x hX)).2
    have h3 := okS_len (wf.b hB)
    rw [if_pos rfl, len_app, len_app, len_app, len_app, show (" " : Str).length = 1 by decide +kernel, show (" = " : Str).length = 3 by decide +kernel]
    omega
  | false =>
    rw [if_neg (by decide)]
    cases hX : isX r.k with
    | true =>
      have h2 := (ex_run (wf.x hX)).2
      rw [if_pos rfl, len_app, len_app, show (" " : Str).length = 1 by decide +kernel]
      omega
    | false => rw [if_neg (by decide)]; omega
def spRowText (R C : Addr) : Sp := fun vs H Q _ => ∃ a r, vs = [.ref a] ∧ RwAt R C H a r ∧ WfRw r ∧ ∀ H', Ex H H' → Q (.str (rT r)) H'
theorem ok_row_text (T : Tx0 w K mg A) : FnOk P w K mg base CX0 10 A.row_text A.d_row_text p_row_text (spRowText A.Row A.Expression) := by
  refine T.F_row_text.ok sc_row_text (fun vs H Q E h => ?_) (fun cdv Ar outer s H vs Q E hr h => ?_)
  · obtain ⟨a, r, rfl, _⟩ := h
    rfl
  · obtain ⟨a, r, rfl, ha, wf, q⟩ := h
    refine ⟨_, (pss_cons (ps_if (pt_cmpR op_in_seq (pe_fld (pv 0) rfl) (pe_glob (v := .ref A.BARE) (by rfl) T.c_BARE rfl) (by rfl)) (pss_one (ps_ret (pe_fld (pv 0) rfl))) pss_nil)
      (pss_cons (ps_set (i := 1) sc_row_text.nd rfl (Or.inl rfl) (pe_meth0 (pe_fld (pv 0) rfl) T.cl_Expression T.e_ex_text (ok_ex_text T) (hr.mono (by decide)) T.b_ex_text .nil pass0))
      (pss_one (ps_ret (pe_ifExp (pt_cmpR op_in_seq (pe_fld (pv 0) rfl) (pe_glob (v := .ref A.BINDING) (by rfl) T.c_BINDING rfl) (by rfl)) (pe_joined (.cons (pe_fmt (pe_fld (pv 0) rfl)) (.cons pe_str (.cons (pe_fmt (pe_fld (pv 0) rfl)) (.cons pe_str (.cons (pe_fmt (pv 1)) .nil)))))) (pe_joined (.cons (pe_fmt (pe_fld (pv 0) rfl)) (.cons pe_str (.cons (pe_fmt (pv 1)) .nil))))))))), ?_⟩
    obtain ⟨dx, v, h1, hv⟩ := ha
    have hkl := kS_len r.k
    refine ⟨_, rfl, a, _, dx, _, _, rfl, h1, T.cl_Row, T.na_Row_kind, f_kind r v, A.BARE, k_BARE, rfl, .inr (T.q_BARE _), rfl, by decide, _, rfl, ?_⟩
    show if inV (.str (kS r.k)) k_BARE = true then _ else _
    rw [k_bare]
    cases hX : isX r.k with
    | true =>
      unfold ExpV at hv
      rw [if_pos hX] at hv
      obtain ⟨x, rfl, hx⟩ := hv
      obtain ⟨dx', t', f', as', hx1, _⟩ := id hx
      refine iteF ⟨_, rfl, a, _, dx, _, _, rfl, h1, T.cl_Row, T.na_Row_expression, f_rexp _ _, x, dx', _, rfl, hx1, rfl, x, r.ns, rfl, hx, wf.x hX, fun H' e' => ?_⟩
      have h1' := e' _ _ h1
      have hel := (ex_run (wf.x hX)).2
      have k2 := q H' e'
      have hl := rT_len wf
      refine ⟨_, rfl, a, _, dx, _, _, rfl, h1', T.cl_Row, T.na_Row_kind, f_kind _ _, A.BINDING, k_BINDING, rfl, .inr (T.q_BINDING _), rfl, by decide, _, rfl, ?_⟩
      show if inV (.str (kS r.k)) k_BINDING = true then _ else _
      rw [k_binding]
      have se : tl Str.empty = [] := by decide +kernel
      have hexl : (ofL (tx r.ns (r.ns.length - 1))).length = (exT r.ns).length := rfl
      have hsz : ∀ z : Str, z.length ≤ 300 → z.length ≤ sizeLine := fun z hz => sz_of (by omega)
      cases hB : isB r.k with
      | true =>
        have h3 := okS_len (wf.b hB)
        have hst : rT r = Str.empty ++ kS r.k ++ " " ++ r.nm ++ " = " ++ exT r.ns := by
          unfold rT
          rw [hB, if_pos rfl]
          exact ext_tl (by simp only [tl_append, se, List.nil_append, List.append_assoc])
        rw [hst] at k2 hl
        rw [len_app, len_app, len_app, len_app, len_app] at hl
        refine iteT ⟨_, rfl, a, _, dx, _, _, rfl, h1', T.cl_Row, T.na_Row_kind, f_kind _ _, .inl ⟨_, rfl, hsz _ (by omega), _, rfl, hsz _ (by rw [len_app]; omega), _, rfl, hsz _ (by rw [len_app, len_app]; omega), _, rfl, a, _, dx, _, _, rfl, h1', T.cl_Row, T.na_Row_name, f_rname _ _, .inl ⟨_, rfl, hsz _ (by omega), _, rfl, hsz _ (by rw [len_app, len_app, len_app]; omega), _, rfl, hsz _ (by rw [len_app, len_app, len_app, len_app]; omega), _, rfl, .inl ⟨_, rfl, hsz _ (by omega), _, rfl, hsz _ (by rw [len_app, len_app, len_app, len_app, len_app]; omega), k2⟩⟩⟩⟩
      | false =>
        have hst : rT r = Str.empty ++ kS r.k ++ " " ++ exT r.ns := by
          unfold rT
          rw [hB, hX, if_neg (by decide), if_pos rfl]
          exact ext_tl (by simp only [tl_append, se, List.nil_append, List.append_assoc])
        rw [hst] at k2 hl
        rw [len_app, len_app, len_app] at hl
        refine iteF ⟨_, rfl, a, _, dx, _, _, rfl, h1', T.cl_Row, T.na_Row_kind, f_kind _ _, .inl ⟨_, rfl, hsz _ (by omega), _, rfl, hsz _ (by rw [len_app]; omega), _, rfl, hsz _ (by rw [len_app, len_app]; omega), _, rfl, .inl ⟨_, rfl, hsz _ (by show (exT r.ns).length ≤ 300; omega), _, rfl, hsz _ (by rw [len_app, len_app, len_app]; omega), k2⟩⟩⟩
    | false =>
      refine iteT ⟨_, rfl, a, _, dx, _, _, rfl, h1, T.cl_Row, T.na_Row_kind, f_kind r v, ?_⟩
      have k2 := q H (Ex.refl H)
      have hB : isB r.k = false := by
        cases hB : isB r.k with
        | false => rfl
        | true => rw [isB_X hB] at hX; cases hX
      unfold rT at k2
      rw [hB, hX, if_neg (by decide), if_neg (by decide)] at k2
      exact k2
end
end K20

set_option Elab.async false
set_option linter.all false
set_option maxRecDepth 100000
namespace K20
open PySem PySem.Spec PyProof.Rows L2 Evl TL UL StX
section
variable {P : Program} {w : World} {K : PySem.W.Frag} {mg : Str → Option Value} {base : Heap} {A : Adr}
/-! ### rows compared -/
def spRowEq (R C : Addr) : Sp := fun vs H Q _ => ∃ a r y, vs = [.ref a, y] ∧ RwAt R C H a r ∧ WfRw r ∧ (((∃ s, y = .str s) ∧ Q (.bl false) H) ∨ ∃ b r', y = .ref b ∧ RwAt R C H b r' ∧ WfRw r' ∧ Q (.bl (decide (r = r'))) H)
theorem ok_row_eq (T : Tx0 w K mg A) : FnOk P w K mg base CX0 4 A.row_eq A.d_row_eq p_row_eq (spRowEq A.Row A.Expression) := by
  refine T.F_row_eq.ok sc_row_eq (fun vs H Q E h => ?_) (fun cdv Ar outer s H vs Q E hr h => ?_)
  · obtain ⟨a, r, y, rfl, _⟩ := h
    rfl
  · obtain ⟨a, r, y, rfl, ha, wf, hy⟩ := h
    refine ⟨_, (pss_one (ps_ret (pe_and (pe_callB call_isi (by rfl) T.m_isinstance (by decide +kernel) (pa_cons (pv 1) (pa_cons (pe_glob (v := .ref A.Row) (by rfl) T.g_Row rfl) pa_nil))) (pe_and (pe_cmpR op_eq (pe_fld (pv 0) rfl) (pe_fld (pv 1) rfl) (nomark _)) (pe_and (pe_cmpR op_eq (pe_fld (pv 0) rfl) (pe_fld (pv 1) rfl) (nomark _)) (pe_one (pe_cmpR (UL.op_ownEqN (ok_ex_eq T) (hr.mono (by decide)) T.e_ex_eq.at_ T.e_ex_eq.fn T.b_ex_eq pass0) (pe_fld (pv 0) rfl) (pe_fld (pv 1) rfl) (nomark _)))))))), ?_⟩
    rcases hy with ⟨⟨s, rfl⟩, k⟩ | ⟨b, r', rfl, hb, wf', k⟩
    · exact ⟨_, rfl, .str s, _, _, _, _, rfl, .own A.Row, .base (.str s), T.kr_str, _, rfl, iteF k⟩
    · obtain ⟨dx, v, h1, hv⟩ := ha
      obtain ⟨dy, u, g1, gv⟩ := hb
      refine ⟨_, rfl, .ref b, _, _, _, _, rfl, .own A.Row, tyx_ins g1 T.cl_Row T.ty_Row, UL.kit_own, _, rfl, iteT ?_⟩
      refine ⟨_, rfl, a, _, dx, _, _, rfl, h1, T.cl_Row, T.na_Row_kind, f_kind _ _, _, rfl, b, _, dy, _, _, rfl, g1, T.cl_Row, T.na_Row_kind, f_kind _ _, rfl, _, rfl, ?_⟩
      by_cases ek : r.k = r'.k
      case neg =>
        rw [decide_eq_false (fun z => ek (kS_inj (V.str.inj z)))]
        rw [decide_eq_false (fun z => ek (by rw [z]))] at k
        exact iteF k
      rw [decide_eq_true (by rw [ek])]
      refine iteT ⟨_, rfl, a, _, dx, _, _, rfl, h1, T.cl_Row, T.na_Row_name, f_rname _ _, _, rfl, b, _, dy, _, _, rfl, g1, T.cl_Row, T.na_Row_name, f_rname _ _, rfl, _, rfl, ?_⟩
      by_cases en : r.nm = r'.nm
      case neg =>
        rw [decide_eq_false (fun z => en (V.str.inj z))]
        rw [decide_eq_false (fun z => en (by rw [z]))] at k
        exact iteF k
      rw [decide_eq_true (by rw [en])]
      refine iteT ⟨_, rfl, a, _, dx, _, _, rfl, h1, T.cl_Row, T.na_Row_expression, f_rexp _ _, _, rfl, b, _, dy, _, _, rfl, g1, T.cl_Row, T.na_Row_expression, f_rexp _ _, ?_⟩
      obtain ⟨kd, nm1, ns⟩ := r
      obtain ⟨kd', nm2, ms⟩ := r'
      obtain rfl : kd = kd' := ek
      obtain rfl : nm1 = nm2 := en
      unfold ExpV at hv gv
      cases hX : isX kd with
      | false =>
        have hX' : isX (Rwd.mk kd nm1 ns).k = false := hX
        have e1 : ns = [] := wf.nx hX
        have e2 : ms = [] := wf'.nx hX
        rw [if_neg (by show ¬ isX kd = true; rw [hX]; decide)] at hv gv
        refine .inl ⟨hv, gv, ?_⟩
        rw [decide_eq_true (by rw [e1, e2])] at k
        exact k
      | true =>
        rw [if_pos (show isX kd = true from hX)] at hv gv
        obtain ⟨x, rfl, hx⟩ := hv
        obtain ⟨z, rfl, hz⟩ := gv
        obtain ⟨dx1, t1, f1, as1, x1, _⟩ := id hx
        obtain ⟨dz1, t2, f2, as2, z1, _⟩ := id hz
        refine .inr ⟨x, dx1, _, rfl, x1, .inl ⟨z, dz1, _, rfl, z1⟩, x, ns, z, ms, rfl, hx, wf.x hX, hz, wf'.x hX, ⟨_, rfl⟩, ?_⟩
        rw [show decide (ns = ms) = decide (Rwd.mk kd nm1 ns = Rwd.mk kd nm1 ms) from decide_eq_decide.mpr ⟨fun e => by rw [e], fun e => by injection e⟩]
        exact k
/-! ### the parts of a line -/
def p1 (z : Str) : Str := (Txt.partition z " ").1
def p3 (z : Str) : Str := (Txt.partition z " ").2.2
def q1 (z : Str) : Str := (Txt.partition z " = ").1
def q3 (z : Str) : Str := (Txt.partition z " = ").2.2
def ptN (z : Str) : Str := if inV (.str (p1 z)) k_BINDING = true then q1 (p3 z) else ""
def ptX (z : Str) : Str := if inV (.str (p1 z)) k_BINDING = true then q3 (p3 z) else p3 z
theorem p3_len (z : Str) : (p3 z).length ≤ z.length := by
  have sp : tl (" " : Str) = 32 :: [] := by decide +kernel
  unfold p3
  by_cases h : 32 ∈ tl z
  · obtain ⟨A, B, e, hA⟩ := first_of h
    have ez : z = ofL A ++ " " ++ ofL B := ext_tl (by rw [tl_append, tl_append, tl_ofL, tl_ofL, sp, e, List.append_assoc]; rfl)
    rw [ez, partition_app sp (by rw [tl_ofL]; exact hA), len_app]
    exact Nat.le_add_left _ _
  · rw [partition_none sp h]
    exact Nat.zero_le _
def spParts : Sp := fun vs H Q _ => ∃ z, vs = [.str z] ∧ z.length ≤ 400 ∧ ∀ p H', Ex H H' → H' p = some (.tup [.str (p1 z), .str (ptN z), .str (ptX z)]) → Q (.ref p) H'
theorem ok_parts_of (T : Tx0 w K mg A) : FnOk P w K mg base CX0 1 A.parts_of A.d_parts_of p_parts_of spParts := by
  refine T.F_parts_of.ok sc_parts_of (fun vs H Q E h => ?_) (fun cdv Ar outer s H vs Q E hr h => ?_)
  · obtain ⟨z, rfl, _⟩ := h
    rfl
  · obtain ⟨z, rfl, hl, q⟩ := h
    refine ⟨_, (pss_cons (ps_asg (pe_partition (pv 0) pe_str) (pg_tup (n := 3) rfl (pgs_cons (pg_name (i := 1) sc_parts_of.nd rfl (Or.inl rfl)) (pgs_cons (pg_name (i := 2) sc_parts_of.nd rfl (Or.inl rfl)) (pgs_cons (pg_name (i := 3) sc_parts_of.nd rfl (Or.inl rfl)) pgs_nil)))))
      (pss_cons (ps_if (pt_cmpR op_in_seq (pv 1) (pe_glob (v := .ref A.BINDING) (by rfl) T.c_BINDING rfl) (by rfl)) (pss_cons (ps_asg (pe_partition (pv 3) pe_str) (pg_tup (n := 3) rfl (pgs_cons (pg_name (i := 4) sc_parts_of.nd rfl (Or.inl rfl)) (pgs_cons (pg_name (i := 2) sc_parts_of.nd rfl (Or.inl rfl)) (pgs_cons (pg_name (i := 5) sc_parts_of.nd rfl (Or.inl rfl)) pgs_nil)))))
        (pss_one (ps_ret (pe_tup (pa_cons (pv 1) (pa_cons (pv 4) (pa_cons (pv 5) pa_nil))))))) pss_nil)
      (pss_one (ps_ret (pe_tup (pa_cons (pv 1) (pa_cons pe_str (pa_cons (pv 3) pa_nil)))))))), ?_⟩
    refine ⟨_, rfl, ⟨_, rfl⟩, _, _, rfl, rfl, by decide +kernel, sz_of (by omega), fun p hp => ?_⟩
    refine ⟨p, _, rfl, SqT.of upd_same, rfl, _, _, rfl, _, _, rfl, _, _, rfl, rfl, ?_⟩
    have ep := Ex.new (o := .tup [.str (p1 z), .str (Txt.partition z " ").2.1, .str (p3 z)]) hp
    have h3 := p3_len z
    generalize hH1 : upd H p (.tup [.str (p1 z), .str (Txt.partition z " ").2.1, .str (p3 z)]) = H1 at ep
    show (tSeq _ _) _ _ _
    refine ⟨_, rfl, A.BINDING, k_BINDING, rfl, .inr (T.q_BINDING _), rfl, by decide, _, rfl, ?_⟩
    show if inV (.str (p1 z)) k_BINDING = true then _ else _
    by_cases hb : inV (.str (p1 z)) k_BINDING = true
    · rw [hb]
      refine iteT ⟨_, rfl, ⟨_, rfl⟩, _, _, rfl, rfl, by decide +kernel, sz_of (by show (p3 z).length ≤ _; omega), fun p2 hp2 => ?_⟩
      refine ⟨p2, _, rfl, SqT.of upd_same, rfl, _, _, rfl, _, _, rfl, _, _, rfl, rfl, ?_⟩
      refine ⟨_, rfl, _, rfl, _, rfl, sz_of (by show 3 ≤ 100000; decide), fun t ht => q t _ ((Ex.trans ?_ (Ex.new hp2)).trans (Ex.new ht)) ?_⟩
      · exact hH1 ▸ ep
      · rw [upd_same]
        unfold ptN ptX
        rw [if_pos hb, if_pos hb]
        rfl
    · rw [Bool.eq_false_iff.mpr hb]
      refine iteF ⟨_, rfl, _, rfl, sz_of (by show 3 ≤ 100000; decide), fun t ht => q t _ (Ex.trans ?_ (Ex.new ht)) ?_⟩
      · exact hH1 ▸ ep
      · rw [upd_same]
        unfold ptN ptX
        rw [if_neg hb, if_neg hb]
        rfl
end
end K20

set_option Elab.async false
set_option linter.all false
set_option maxRecDepth 100000
namespace K20
open PySem PySem.Spec PyProof.Rows L2 Evl TL UL StX
section
variable {P : Program} {w : World} {K : PySem.W.Frag} {mg : Str → Option Value} {base : Heap} {A : Adr}
/-! ### errors made where another one is handled; a read whose errors bear no context -/
def spCopiedH : Sp := fun vs H Q _ => ∃ v, vs = [v, .int 4] ∧ flatV v = true ∧ Q v H
theorem ok_copiedH (T : Tx0 w K mg A) : L2H.FnH P w K mg base CX0 3 A.copied A.d_copied p_copied spCopiedH := by
  refine UL.FunD_okH T.F_copied sc_copied (fun vs H Q E h => ?_) (fun cdv Ar outer s H vs Q E pH hot hr h => ?_)
  · obtain ⟨v, rfl, _⟩ := h
    rfl
  · obtain ⟨v, rfl, hv, k⟩ := h
    refine ⟨_, (pss_cons (ps_if (pt_cmpR op_eq (pv 1) pe_int (nomark _)) (pss_one ps_never) pss_nil)
      (pss_cons (ps_if (pt_val (pe_callB call_isi (by rfl) T.m_isinstance (by decide +kernel) (pa_cons (pv 0) (pa_cons (pe_bltn (v := .ty "list") (u := .type "list") (by rfl) T.m_list (by decide +kernel) rfl) pa_nil)))) (pss_one ps_never) pss_nil)
      (pss_cons (ps_if (pt_val (pe_callB call_isi (by rfl) T.m_isinstance (by decide +kernel) (pa_cons (pv 0) (pa_cons (pe_bltn (v := .ty "tuple") (u := .type "tuple") (by rfl) T.m_tuple (by decide +kernel) rfl) pa_nil)))) (pss_one ps_never) pss_nil)
      (pss_cons (ps_if (pt_val (pe_callB call_isi (by rfl) T.m_isinstance (by decide +kernel) (pa_cons (pv 0) (pa_cons (pe_bltn (v := .ty "dict") (u := .type "dict") (by rfl) T.m_dict (by decide +kernel) rfl) pa_nil)))) (pss_one ps_never) pss_nil)
      (pss_one (ps_ret (pv 0))))))), ?_⟩
    refine ⟨_, rfl, rfl, _, rfl, iteF ?_⟩
    obtain ⟨t, ht, h1, h2, h3⟩ := flat_ty (K := K) (H := H) hv
    refine ⟨_, rfl, v, _, t, _, _, rfl, .ty "list", ht, h1, _, rfl, iteF ?_⟩
    refine ⟨_, rfl, v, _, t, _, _, rfl, .ty "tuple", ht, h2, _, rfl, iteF ?_⟩
    refine ⟨_, rfl, v, _, t, _, _, rfl, .ty "dict", ht, h3, _, rfl, iteF ?_⟩
    exact ⟨v, rfl, k⟩
def spWhatH (K : PySem.W.Frag) : Sp := fun vs H Q _ => ∃ (a C : Addr) (v : V), vs = [.ref a, v] ∧ H a = some (exo a C none) ∧ OexC K C ∧ PySem.W.findIn K (.ref C) "what" = some none ∧
  flatV v = true ∧ ∀ dx, H dx = none → dx ≠ a → Q .non (upd (upd H dx (exd dx [("what", v)])) a (exo a C (some dx)))
theorem raise_whatH {K : PySem.W.Frag} {C I : Addr} {H : Hp} {v : V} {Q : XK} (F : ExF K C I) (hv : flatV v = true) (k : ∀ d H', Ex H H' → H' d = some (.xd [("what", v)]) → Q (.ref C) (some d) H') :
    ∀ a, H a = none → spWhatH K [.ref a, v] (upd H a (exo a C none)) (fun u H2 => u = .non ∧ ∃ (d : Addr) (fs : List (Str × V)), H2 a = some (exo a C (some d)) ∧ H2 d = some (exd d fs) ∧ H d = none ∧ Q (.ref C) (some d) (upd (L2.del H2 a) d (.xd fs))) (fun _ _ _ => False) := fun a ha => by
  obtain ⟨a', C', v', e, h1, h2, h3, h4 | ⟨q, _, _, e2, _⟩⟩ := raise_what (Q := Q) F hv k a ha
  · exact ⟨a', C', v', e, h1, h2, h3, h4.1, h4.2⟩
  · injection e with _ e
    injection e with e _
    rw [e, e2] at hv
    cases hv
theorem ok_lives_initH (T : Tx0 w K mg A) : L2H.FnH P w K mg base CX0 4 A.lives_init A.d_lives_init p_lives_init (spWhatH K) := by
  refine UL.Fun_okH T.F_lives_init sc_lives_init (fun vs H Q E h => ?_) (fun cdv Ar outer s H vs Q E pH hot hr h => ?_)
  · obtain ⟨a, C, v, rfl, _⟩ := h
    rfl
  · obtain ⟨a, C, v, rfl, ha, hC, hw, hv, k⟩ := h
    obtain ⟨ds, hvc, hbc⟩ := T.F_copied.binds1 (ps := p_copied) 1 0 (by simp) rfl (fun T' kV doc pm an cdv ct us its h1 h2 => by
      match us, h1, its, h2 with
      | [u], _, [d], _ => exact ⟨_, rfl, rfl⟩)
    refine ⟨_, (pss_one (ps_ost (pv 0) (UL.pe_callHD (ok_copiedH T) (hr.mono (by decide)) hot (by rfl) T.g_copied T.F_copied.kp hbc hvc (pa_cons (pv 1) pa_nil)))), ?_⟩
    exact ⟨v, rfl, v, rfl, hv, _, rfl, a, C, rfl, hC, hw, .inl ⟨ha, fun dx hd hne => k dx hd hne⟩⟩
theorem ok_ex_readN (T : Tx0 w K mg A) : FnOk P w K mg base (L2N.CX P w) 7 A.ex_read A.d_ex_read p_ex_read (spRead A.Expression A.TooLarge A.InvalidExpression) := by
  refine UL.Fun_okN T.F_ex_read sc_ex_read (fun vs H Q E h => ?_) (fun cdv Ar outer s H vs Q E hr h => ?_)
  · obtain ⟨z, rfl, _⟩ := h
    rfl
  · obtain ⟨z, rfl, hz, k, k2⟩ := h
    refine ⟨_, (pss_cons (ps_set (i := 2) sc_ex_read.nd rfl (Or.inl rfl) (pe_call (ok_nodes_of T) (hr.mono (by decide)) (by rfl) T.g_nodes_of T.F_nodes_of.kp T.b_nodes_of .nil pass0 (pa_cons (pv 1) pa_nil)))
      (pss_cons (ps_if (pt_cmpR op_isN (pv 2) pe_non (nomark _)) (pss_one (L2N.ps_raise rfl (L2N.takes_of rfl rfl rfl rfl) (UL.pmk_oexN T.ex_InvalidExpression.ox T.ex_InvalidExpression.ii T.ti_lives_init (ok_lives_init T) (hr.mono (by decide)) T.b_lives_init .nil (by rfl) T.g_InvalidExpression (pa_cons (pv 1) pa_nil)))) pss_nil)
      (pss_cons (ps_if (pt_cmpR op_gt (pe_callB call_len_seq (by rfl) T.m_len PySem.boot_len (pa_cons (pv 2) pa_nil)) (ClX.pe_cval (pv 0)) (nomark _)) (pss_one (L2N.ps_raise rfl (L2N.takes_of rfl rfl rfl rfl) (UL.pmk_oexN T.ex_TooLarge.ox T.ex_TooLarge.ii T.ti_lives_init (ok_lives_init T) (hr.mono (by decide)) T.b_lives_init .nil (by rfl) T.g_TooLarge (pa_cons pe_str pa_nil)))) pss_nil)
      (pss_one (ps_ret (UL.pe_makeL (i := 0) T.mk_Expression (ok_ex_init T) (hr.mono (by decide)) rfl (Or.inl rfl) T.b_ex_init .nil pass0 (pa_cons (pv 2) pa_nil))))))), ?_⟩
    refine ⟨_, rfl, z, rfl, hz, fun ns hrun N as H1 e1 hNn hN hA => ?_, fun hno H1 e1 => ?_⟩
    · obtain ⟨k3, k4⟩ := k ns hrun
      have hwf := (rrun_wf (s := ⟨[], [], false⟩) ⟨(fun j nd h => by cases h), (fun y hy => by cases hy)⟩ hrun).wn
      have hlen := hA.len
      obtain ⟨u, hu⟩ := T.cv_Expression_MOST_NODES
      refine ⟨_, rfl, rfl, _, rfl, ?_⟩
      rw [decide_eq_false (show ¬ V.ref N = V.non by intro z; cases z)]
      refine iteF ⟨_, rfl, N, _, rfl, .inl (SqL.of hN), _, rfl, A.Expression, .type "type", .int 20, u, rfl, T.cr_Expression, hu, _, 20, rfl, rfl, _, rfl, ite2 (fun q => ?_) (fun q => ?_)⟩
      · have q := of_decide_eq_true q
        rw [List.length_map] at q
        exact ⟨(by show 1 ≤ 1000; decide), raise_what T.ex_TooLarge rfl fun d H' e' hd => k4 (by omega) d H' (e1.trans e') hd⟩
      · have q : ¬ 20 < ns.length := fun h => q (decide_eq_true (by rw [List.length_map]; omega))
        refine ⟨rfl, _, rfl, fun x dx hx hdx hne => ?_⟩
        have e2 := Ex.new (o := .own x) hdx
        have hx2 : upd H1 dx (.own x) x = none := by rw [upd_ne hne.symm]; exact hx
        have e3 := e2.trans (Ex.new (o := .ins A.Expression dx []) hx2)
        refine ⟨x, dx, N, as, ns, rfl, upd_same, e3 _ _ hN, hA.imp fun _ _ h => h.mono e3, hwf, by omega, fun H' kp hE => ⟨rfl, k3 (by omega) x H' (fun b o hb => kp b o (fun z => ?_) (e3 _ _ (e1 _ _ hb))) hE⟩⟩
        have q := e1 _ _ hb
        rw [z, hx] at q
        cases q
    · refine ⟨_, rfl, rfl, _, rfl, iteT ⟨_, rfl, (by show 1 ≤ 1000; decide), raise_what T.ex_InvalidExpression rfl fun d H' e' hd => k2 hno d H' (e1.trans e') hd⟩⟩
theorem okn_run {t : List Nat} {ns : List Nd} (h : rrun okS ⟨[], [], false⟩ (cutGo [] t) = some ⟨ns, [], true⟩) (hl : ns.length ≤ 20) : OkN ns := by
  have F := rrun_forest (s := ⟨[], [], false⟩) (s' := ⟨ns, [], true⟩) Forest.nil h
  have w1 := (rrun_wf (s := ⟨[], [], false⟩) ⟨(fun j nd h => by cases h), (fun y hy => by cases hy)⟩ h).wn
  have w2 := rrun_wk (s := ⟨[], [], false⟩) (fun nd h => by cases h) h
  have ne : ns ≠ [] := fun e => by
    have := forest_mem F (ns.length - 1) (by show ns.length - 1 ∈ [ns.length - 1]; exact List.mem_singleton.mpr rfl)
    rw [e] at this
    exact absurd this (Nat.not_lt_zero _)
  refine ⟨?_, fun nd hnd => ?_, ne, hl⟩
  · have e : stkOf ⟨ns, [], true⟩ = [ns.length - 1] := rfl
    rw [← e]
    exact F
  · obtain ⟨j, hj⟩ := List.getElem?_of_mem hnd
    have a := (w1 j nd hj).1
    have b := w2 nd hnd
    cases nd with
    | name w => exact b
    | call w os => exact ⟨b, a⟩
    | op w os => exact a
/-! ### a row is read -/
theorem p1_len (z : Str) : (p1 z).length ≤ z.length := by
  have sp : tl (" " : Str) = 32 :: [] := by decide +kernel
  unfold p1
  by_cases h : 32 ∈ tl z
  · obtain ⟨A, B, e, hA⟩ := first_of h
    have ez : z = ofL A ++ " " ++ ofL B := ext_tl (by rw [tl_append, tl_append, tl_ofL, tl_ofL, sp, e, List.append_assoc]; rfl)
    rw [ez, partition_app sp (by rw [tl_ofL]; exact hA), len_app, len_app]
    exact Nat.le_trans (Nat.le_add_right _ _) (Nat.le_add_right _ _)
  · rw [partition_none sp h]
    exact Nat.le_refl _
def kdOf (z : Str) : Kd := if z = "use" then .use else if z = "val" then .val else if z = "ref" then .ref else if z = "set" then .set else if z = "block" then .blk else if z = "if" then .iff else if z = "else" then .els else if z = "loop" then .lop else .fin
theorem kdOf_kS (k : Kd) : kdOf (kS k) = k := by cases k <;> decide +kernel
/-- the reader's end on a text -/
def exO (z : Str) : Option (List Nd) := match rrun okS ⟨[], [], false⟩ (cutGo [] (tl z)) with
  | some ⟨ns, [], true⟩ => some ns
  | _ => none
theorem exO_some {z : Str} {ns : List Nd} : exO z = some ns ↔ rrun okS ⟨[], [], false⟩ (cutGo [] (tl z)) = some ⟨ns, [], true⟩ := by
  unfold exO
  split
  · rename_i ms h
    rw [h]
    exact ⟨(fun e => by rw [Option.some.inj e]), fun e => congrArg some (congrArg UL.Rd.N (Option.some.inj e))⟩
  · rename_i h
    exact ⟨(fun e => by cases e), fun e => absurd e (h ns)⟩
theorem exO_none {z : Str} : exO z = none ↔ ∀ ns, rrun okS ⟨[], [], false⟩ (cutGo [] (tl z)) ≠ some ⟨ns, [], true⟩ := by
  constructor
  · intro h ns e
    rw [exO_some.mpr e] at h
    cases h
  · intro h
    cases e : exO z with
    | none => rfl
    | some ns => exact absurd (exO_some.mp e) (h ns)
/-- what a line is: a row, too large, or no row -/
inductive Ln
  | row (r : Rwd) | large | none
def headOk (z : Str) : Bool := decide (p1 z = "use") || (inV (.str (p1 z)) k_BINDING && okS (ptN z))
def lineO (z : Str) : Ln :=
  if inV (.str z) k_BARE = true then .row ⟨kdOf z, "", []⟩
  else if headOk z = true then
    match exO (ptX z) with
    | some ns => if ns.length ≤ 20 then .row ⟨kdOf (p1 z), ptN z, ns⟩ else .large
    | none => .none
  else .none
theorem bare_kd {z : Str} (h : inV (.str z) k_BARE = true) : ∃ k, z = kS k ∧ isX k = false := by
  have hm : z ∈ [("block" : Str), "if", "else", "loop", "end"] := inV_str h
  rcases List.mem_cons.mp hm with rfl | hm
  · exact ⟨.blk, rfl, rfl⟩
  rcases List.mem_cons.mp hm with rfl | hm
  · exact ⟨.iff, rfl, rfl⟩
  rcases List.mem_cons.mp hm with rfl | hm
  · exact ⟨.els, rfl, rfl⟩
  rcases List.mem_cons.mp hm with rfl | hm
  · exact ⟨.lop, rfl, rfl⟩
  rw [List.mem_singleton.mp hm]
  exact ⟨.fin, rfl, rfl⟩
theorem bind_kd {z : Str} (h : inV (.str z) k_BINDING = true) : ∃ k, z = kS k ∧ isB k = true := by
  have hm : z ∈ [("val" : Str), "ref", "set"] := inV_str h
  rcases List.mem_cons.mp hm with rfl | hm
  · exact ⟨.val, rfl, rfl⟩
  rcases List.mem_cons.mp hm with rfl | hm
  · exact ⟨.ref, rfl, rfl⟩
  rw [List.mem_singleton.mp hm]
  exact ⟨.set, rfl, rfl⟩
theorem ptX_len (z : Str) : (ptX z).length ≤ z.length ∧ (ptN z).length ≤ z.length := by
  have h1 := congrArg (fun s : Str => s.length) (StrLaws.partition_sum z " ")
  have h2 := congrArg (fun s : Str => s.length) (StrLaws.partition_sum (p3 z) " = ")
  simp only [len_app] at h1 h2
  have h3 : (p3 z).length ≤ z.length := p3_len z
  unfold ptX ptN q1 q3
  split
  · exact ⟨by omega, by omega⟩
  · exact ⟨h3, Nat.zero_le _⟩
theorem len0 : ("" : Str).length = 0 := by decide +kernel
theorem bare_ok {k : Kd} (h : isX k = false) : rowOk (.str (kS k)) (.str "") .no = true := by
  cases k <;> first | decide +kernel | cases h
theorem bare_wf {k : Kd} (h : isX k = false) : WfRw ⟨k, "", []⟩ := by
  refine ⟨fun q => ?_, fun _ => rfl, fun q => ?_, fun _ => rfl⟩
  · rw [show isX k = false from h] at q; cases q
  · have : isX k = true := isB_X q
    rw [h] at this; cases this
theorem line_bare {k : Kd} (h : isX k = false) : lineO (kS k) = .row ⟨k, "", []⟩ := by
  unfold lineO
  rw [if_pos (by rw [k_bare, h]; rfl), kdOf_kS]
theorem head_kd {z : Str} (h : headOk z = true) : ∃ k, p1 z = kS k ∧ isX k = true ∧ (isB k = true → okS (ptN z) = true) ∧ (isB k = false → ptN z = "") := by
  unfold headOk at h
  rw [Bool.or_eq_true, Bool.and_eq_true] at h
  by_cases hb : inV (.str (p1 z)) k_BINDING = true
  · obtain ⟨k, e, hB⟩ := bind_kd hb
    refine ⟨k, e, isB_X hB, fun _ => ?_, fun q => by rw [hB] at q; cases q⟩
    rcases h with h | h
    · rw [of_decide_eq_true h] at hb
      exact absurd hb (by decide +kernel)
    · exact h.2
  · rcases h with h | h
    · refine ⟨.use, of_decide_eq_true h, rfl, (fun q => by cases q), fun _ => ?_⟩
      unfold ptN
      rw [if_neg hb]
    · exact absurd h.1 hb
theorem line_ex {z : Str} {k : Kd} {ns : List Nd} (hb : ¬ inV (.str z) k_BARE = true) (h : headOk z = true) (e : p1 z = kS k) (hx : exO (ptX z) = some ns) : lineO z = if ns.length ≤ 20 then .row ⟨k, ptN z, ns⟩ else .large := by
  unfold lineO
  rw [if_neg hb, if_pos h, hx, e, kdOf_kS]
theorem line_no {z : Str} (hb : ¬ inV (.str z) k_BARE = true) (h : ¬ headOk z = true) : lineO z = .none := by
  unfold lineO
  rw [if_neg hb, if_neg h]
theorem line_nox {z : Str} (hb : ¬ inV (.str z) k_BARE = true) (hx : exO (ptX z) = none) : lineO z = .none := by
  by_cases h : headOk z = true
  · unfold lineO
    rw [if_neg hb, if_pos h, hx]
  · exact line_no hb h
theorem ex_ok {k : Kd} {m : Str} {ns : List Nd} (hx : isX k = true) (h1 : isB k = true → okS m = true) (h2 : isB k = false → m = "") : rowOk (.str (kS k)) (.str m) (.ex ns) = true := by
  cases k <;> first | cases hx | skip
  · rw [h2 rfl]
    rfl
  · show (okS m && true) = true
    rw [h1 rfl]; rfl
  · show (okS m && true) = true
    rw [h1 rfl]; rfl
  · show (okS m && true) = true
    rw [h1 rfl]; rfl
/-- the promise: what is asked where the row comes out as r -/
def spRowRead (R C IR TL : Addr) : Sp := fun vs H Q E => ∃ z, vs = [.str z] ∧ z.length ≤ 400 ∧
  match lineO z with
  | .row r => WfRw r → ∀ a H', Ex H H' → RwAt R C H' a r → Q (.ref a) H'
  | .large => ∀ d H', Ex H H' → H' d = some (.xd [("what", .str "nodes")]) → E (.ref TL) (some d) H'
  | .none => ∀ d H', Ex H H' → H' d = some (.xd [("what", .str z)]) → E (.ref IR) (some d) H'
theorem ok_row_read (T : Tx0 w K mg A) : FnOk P w K mg base (L2.CX P w) 9 A.row_read A.d_row_read p_row_read (spRowRead A.Row A.Expression A.InvalidRow A.TooLarge) := by
  refine T.F_row_read.okX sc_row_read (fun vs H Q E h => ?_) (fun cdv Ar outer s H vs Q E hr h => ?_)
  · obtain ⟨z, rfl, _⟩ := h
    rfl
  · obtain ⟨z, rfl, hl, q⟩ := h
    obtain ⟨ds, v0_row_init_1, b0_row_init_1⟩ := T.F_row_init.binds0 (ps := p_row_init) 2 (by simp) rfl (fun D doc pm an cdv ct us ks h1 h2 => by
      match us, h1, ks, h2 with
      | [_, _], _, [_, _], _ => exact ⟨_, _, _, _, _, _, rfl, rfl, _, _, _, _, _, _, rfl, rfl, rfl⟩)
    obtain ⟨mv, kb_row_init_1⟩ := T.F_row_init.kbinds0 (ps := p_row_init) 2 ["name", "expression"] [] (fun us _ ws => us ++ ws) (by simp) (fun q h => (nomatch h)) (fun a _ c => a.append c) (fun D doc pm an cdv ct us mv ws h1 h2 h3 => by
      match us, h1, mv, h2, ws, h3 with
      | [_, _], _, [], _, [_, _], _ => exact rfl)
    refine ⟨_, (pss_cons (ps_if (pt_cmpR op_in_seq (pv 0) (pe_glob (v := .ref A.BARE) (by rfl) T.c_BARE rfl) (by rfl)) (pss_one (ps_ret (pe_make T.mk_Row (ok_row_init T) (hr.mono (by decide)) (by rfl) T.g_Row b0_row_init_1 v0_row_init_1 passL (pa_cons (pv 0) pa_nil)))) pss_nil)
      (pss_cons (ps_asg (pe_call (ok_parts_of T) (hr.mono (by decide)) (by rfl) T.g_parts_of T.F_parts_of.kp T.b_parts_of .nil pass0 (pa_cons (pv 0) pa_nil)) (pg_tup (n := 3) rfl (pgs_cons (pg_name (i := 1) sc_row_read.nd rfl (Or.inl rfl)) (pgs_cons (pg_name (i := 2) sc_row_read.nd rfl (Or.inl rfl)) (pgs_cons (pg_name (i := 3) sc_row_read.nd rfl (Or.inl rfl)) pgs_nil)))))
      (Evl.pss_cut (ps_if (PW.pt (pw_and (pt_cmpR op_ne (pv 1) pe_str (nomark _)) (pw_and1 (pt_not (PW.pt (pw_and (pt_cmpR op_in_seq (pv 1) (pe_glob (v := .ref A.BINDING) (by rfl) T.c_BINDING rfl) (by rfl)) (pw_and1 (pt_val (pe_call (ok_is_name T) (hr.mono (by decide)) (by rfl) T.g_is_name T.F_is_name.kp T.b_is_name .nil pass0 (pa_cons (pv 2) pa_nil)))))))))) (pss_one (ps_raise rfl (takes_of rfl rfl rfl rfl) (pmk_oex T.ex_InvalidRow.ox T.ex_InvalidRow.ii T.ti_lives_init (ok_lives_init T) (hr.mono (by decide)) T.b_lives_init .nil pass0 (by rfl) T.g_InvalidRow (pa_cons (pv 0) pa_nil)))) pss_nil)
      (pss_cons (L2H.ps_try_onlyX rfl rfl ⟨rfl, by decide, Or.inl T.g_InvalidExpression⟩ (fun hd => L2H.passesAt_of rfl hd) (takes_of rfl rfl rfl rfl) (fun W pn xe tkN tk _ => (pss_one (ps_set (i := 4) sc_row_read.nd rfl (Or.inl rfl) (UL.pe_cmethT (E := WE W) (pe_glob (v := .ref A.Expression) (by rfl) T.g_Expression rfl) T.cr_Expression T.cm_ex_read (ok_ex_readN T) (hr.mono (by decide)) T.b_ex_read (fun σ => L2N.passAt tkN σ) (pa_cons (pv 3) pa_nil))))) (fun a oe cls d pn hz hf tk hot => (pss_one (L2H.ps_raiseHN hot tk (L2H.pmk5_oexH T.ex_InvalidRow.ox T.ex_InvalidRow.ii T.ti_lives_init (ok_lives_initH T) (L2H.roomH_mark (hr.mono (by decide)) _) hot T.b_lives_init pass0 (by rfl) T.g_InvalidRow (pa_cons (pv 0) pa_nil))))))
      (pss_one (ps_ret (pe_makeK (n := 1) T.mk_Row (ok_row_init T) (hr.mono (by decide)) (by rfl) T.g_Row kb_row_init_1 passL (pa_cons (pv 1) pa_nil) (pk_cons (pv 2) (pk_cons (pv 4) pk_nil))))))))), ?_⟩
    refine ⟨_, rfl, A.BARE, k_BARE, rfl, .inr (T.q_BARE _), rfl, by decide, _, rfl, ?_⟩
    show if inV (.str z) k_BARE = true then _ else _
    by_cases hb : inV (.str z) k_BARE = true
    · rw [hb]
      obtain ⟨k, rfl, hX⟩ := bare_kd hb
      rw [line_bare hX] at q
      have ok := bare_ok hX
      refine iteT ⟨_, rfl, fun a da ha hda ne => ⟨a, da, .str (kS k), .str "", .non, .no, rfl, upd_same, .inl ⟨_, rfl, hl⟩, .inl ⟨_, rfl, by rw [len0]; omega⟩, rfl, fun _ H' e' h' => ⟨rfl, q (bare_wf hX) a H' (made_ex ha hda e') ⟨da, .non, h', ?_⟩⟩, fun z => by rw [ok] at z; cases z⟩⟩
      unfold ExpV
      rw [if_neg (by show ¬ isX k = true; rw [hX]; decide)]
    · rw [Bool.eq_false_iff.mpr hb]
      refine iteF ⟨_, rfl, z, rfl, hl, fun p H1 e1 hp => ?_⟩
      refine ⟨p, _, rfl, SqT.of hp, rfl, _, _, rfl, _, _, rfl, _, _, rfl, rfl, ?_⟩
      obtain ⟨lX, lN⟩ := ptX_len z
      have bad : headOk z = false → ∀ H2, Ex H H2 → (tMkO A.InvalidRow (spWhat3 K) [] (tCons (tVar 0) tNil)) [some (.str z), some (.str (p1 z)), some (.str (ptN z)), some (.str (ptX z)), none] H2 fun cls d H' => E cls d H' := fun hh H2 e2 => by
        rw [line_no hb (by rw [hh]; decide)] at q
        exact ⟨_, rfl, (by show 1 ≤ 1000; decide), raise_what T.ex_InvalidRow rfl fun d H' e' hd => q d H' (e2.trans e') hd⟩
      refine ⟨fun σ2 H2 => headOk z = true ∧ σ2 = [some (.str z), some (.str (p1 z)), some (.str (ptN z)), some (.str (ptX z)), none] ∧ Ex H H2, ?_, ?_⟩
      · refine ⟨_, rfl, rfl, _, rfl, ?_⟩
        by_cases hu : p1 z = "use"
        · rw [decide_eq_true (congrArg V.str hu)]
          refine iteF ⟨?_, rfl, e1⟩
          unfold headOk
          rw [decide_eq_true hu, Bool.true_or]
        · rw [decide_eq_false (fun y => hu (V.str.inj y))]
          refine iteT ⟨_, rfl, A.BINDING, k_BINDING, rfl, .inr (T.q_BINDING _), rfl, by decide, _, rfl, ?_⟩
          show if inV (.str (p1 z)) k_BINDING = true then _ else _
          have hh : headOk z = (inV (.str (p1 z)) k_BINDING && okS (ptN z)) := by
            unfold headOk
            rw [decide_eq_false hu, Bool.false_or]
          cases hB : inV (.str (p1 z)) k_BINDING with
          | true =>
            rw [hB, Bool.true_and] at hh
            refine iteT ⟨_, rfl, .str (ptN z), rfl, .inl ⟨_, rfl, by omega⟩, fun H2 e2 => ?_⟩
            rw [show nm (.str (ptN z)) = okS (ptN z) from rfl, ← hh]
            cases ho : headOk z with
            | true => exact ⟨_, rfl, iteF ⟨rfl, rfl, e1.trans e2⟩⟩
            | false => exact ⟨_, rfl, iteT (bad ho H2 (e1.trans e2))⟩
          | false =>
            rw [hB, Bool.false_and] at hh
            exact iteF (iteT (bad hh H1 e1))
      rintro σ2 H2 ⟨hh, rfl, e2⟩
      obtain ⟨k, ek, hX, hn1, hn2⟩ := head_kd hh
      refine ⟨rfl, _, rfl, ptX z, rfl, by omega, fun ns hrun => ?_, fun hno d H3 e3 hd => ?_⟩
      · have hx := exO_some.mpr hrun
        have hln := line_ex hb hh ek hx
        refine ⟨fun hle x H3 e3 hE => ?_, fun hgt d H3 e3 hd => ?_⟩
        · rw [hln, if_pos hle] at q
          have okn := okn_run hrun hle
          have ok := ex_ok (ns := ns) hX hn1 hn2
          have e23 := e2.trans e3
          refine ⟨_, rfl, _, rfl, _, rfl, rfl, rfl, fun a da ha hda ne => ⟨a, da, .str (p1 z), .str (ptN z), .ref x, .ex ns, rfl, upd_same, .inl ⟨_, rfl, Nat.le_trans (p1_len z) hl⟩, .inl ⟨_, rfl, by omega⟩, ?_, fun _ H' e' h' => ⟨rfl, ?_⟩, fun y => ?_⟩⟩
          · exact ⟨x, rfl, hE.mono (made_in ha hda), okn⟩
          · have e4 := made_ex ha hda e'
            refine q ⟨fun _ => okn, (fun y => ?_), hn1, hn2⟩ a H' (e23.trans e4) ⟨da, .ref x, ?_, ?_⟩
            · rw [show isX k = true from hX] at y; cases y
            · rw [h', ek]
              rfl
            · unfold ExpV
              rw [if_pos (show isX k = true from hX)]
              exact ⟨x, rfl, hE.mono e4⟩
          · rw [ek, ok] at y; cases y
        · rw [hln, if_neg (by omega)] at q
          exact ⟨false, T.te_ti, (fun y => Bool.noConfusion y), fun _ => q d H3 (e2.trans e3) hd⟩
      · rw [line_nox hb (exO_none.mpr hno)] at q
        exact ⟨true, T.te_ii, (fun _ y hy => ⟨_, rfl, (by show 1 ≤ 1000; decide), raise_whatH T.ex_InvalidRow rfl fun d' H' e' hd' => q d' H' ((e2.trans e3).trans e') hd'⟩), fun y => Bool.noConfusion y⟩
end
end K20

set_option Elab.async false
set_option linter.all false
set_option maxRecDepth 100000
namespace K20
open PySem PySem.Spec PyProof.Rows L2 Evl TL UL StX
section
variable {P : Program} {w : World} {K : PySem.W.Frag} {mg : Str → Option Value} {base : Heap} {A : Adr}
/-! ### a line by its words -/
theorem joinC_sg {s : Nat} (h44 : s ≠ 44) : ∀ l : List (List Nat), (∀ t ∈ l, s ∉ t) → s ∉ joinC l
  | [], _ => by unfold joinC; simp
  | [t], h => by
    unfold joinC
    exact h t List.mem_cons_self
  | t :: u :: r, h => by
    have ih := joinC_sg h44 (u :: r) fun z hz => h z (List.mem_cons_of_mem _ hz)
    unfold joinC
    intro m
    rcases List.mem_append.mp m with m | m
    · exact h t List.mem_cons_self m
    · rcases List.mem_cons.mp m with m | m
      · exact h44 m
      · exact ih m
theorem txs_sg {s : Nat} (h40 : s ≠ 40 ∧ s ≠ 41 ∧ s ≠ 44) : ∀ (N : List Nd) (T : List (List Nat)), (∀ nd ∈ N, s ∉ tl (wordOf nd)) → (∀ t ∈ T, s ∉ t) → ∀ t ∈ N.foldl (fun T nd => T ++ [ndT (fun i => T.getD i []) nd]) T, s ∉ t
  | [], T, _, h => h
  | nd :: N, T, hn, h => by
    refine txs_sg h40 N _ (fun x hx => hn x (List.mem_cons_of_mem _ hx)) fun t ht => ?_
    rcases List.mem_append.mp ht with ht | ht
    · exact h t ht
    rw [List.mem_singleton.mp ht]
    have hg : ∀ i, s ∉ T.getD i [] := fun i => by
      rw [List.getD_eq_getElem?_getD]
      cases e : T[i]? with
      | none => exact List.not_mem_nil
      | some t => exact h t (List.mem_of_getElem? e)
    have hw := hn nd List.mem_cons_self
    have hj : ∀ os : List Nat, s ∉ joinC (os.map fun i => T.getD i []) := fun os => joinC_sg h40.2.2 _ fun t ht => by
      obtain ⟨i, _, rfl⟩ := List.mem_map.mp ht
      exact hg i
    have key : ∀ (w : Str) (os : List Nat), s ∉ tl w → s ∉ tl w ++ 40 :: joinC (os.map fun i => T.getD i []) ++ [41] := fun w os h1 m => by
      rcases List.mem_append.mp m with m | m
      · rcases List.mem_append.mp m with m | m
        · exact h1 m
        · rcases List.mem_cons.mp m with m | m
          · exact h40.1 m
          · exact hj os m
      · exact h40.2.1 (List.mem_singleton.mp m)
    cases nd with
    | name w => exact hw
    | call w os => exact key w os hw
    | op w os => exact key w os hw
theorem good_sp {nd : Nd} (h : GoodNd okS nd) : 32 ∉ tl (wordOf nd) := by
  cases nd with
  | name w => exact (okS_sp (show okS w = true from h)).1
  | call w os => exact (okS_sp h.1).1
  | op w os =>
    have h : opsT.lookup w = some (os.length : Int) := h
    show 32 ∉ tl w
    rcases ops_cases h with ⟨rfl, _⟩ | ⟨rfl, _⟩ | ⟨rfl, _⟩ <;> decide +kernel
theorem run_good {t : List Nat} {ns : List Nd} (h : rrun okS ⟨[], [], false⟩ (cutGo [] t) = some ⟨ns, [], true⟩) : ∀ nd ∈ ns, GoodNd okS nd := by
  have w1 := (rrun_wf (s := ⟨[], [], false⟩) ⟨(fun j nd h => by cases h), (fun y hy => by cases hy)⟩ h).wn
  have w2 := rrun_wk (s := ⟨[], [], false⟩) (fun nd h => by cases h) h
  intro nd hnd
  obtain ⟨j, hj⟩ := List.getElem?_of_mem hnd
  have a := (w1 j nd hj).1
  have b := w2 nd hnd
  cases nd with
  | name w => exact b
  | call w os => exact ⟨b, a⟩
  | op w os => exact a
theorem exO_sp {z : Str} {ns : List Nd} (h : exO z = some ns) : 32 ∉ tl z := by
  have hr := exO_some.mp h
  rw [← run_text hr]
  unfold tx
  rw [List.getD_eq_getElem?_getD]
  cases e : (txs ns)[ns.length - 1]? with
  | none => exact List.not_mem_nil
  | some t => exact txs_sg (s := 32) ⟨by decide, by decide, by decide⟩ ns [] (fun nd hnd => good_sp (run_good hr nd hnd)) (fun _ h => nomatch h) t (List.mem_of_getElem? e)
theorem exO_empty : exO "" = none := by
  cases e : exO "" with
  | none => rfl
  | some ns =>
    have := exO_some.mp e
    rw [show cutGo [] (tl ("" : Str)) = [] by rw [show tl ("" : Str) = [] by decide +kernel, cutGo_nil]; rfl] at this
    cases this
theorem tl_sp : tl (" " : Str) = 32 :: [] := by decide +kernel
theorem tl_eq : tl (" = " : Str) = 32 :: [61, 32] := by decide +kernel
/-- the words of a text -/
theorem words_of (z : Str) : ∃ ws : List Str, ws ≠ [] ∧ (∀ w ∈ ws, 32 ∉ tl w) ∧ Txt.join " " ws = z := by
  have go : ∀ n (z : Str), z.length ≤ n → ∃ ws : List Str, ws ≠ [] ∧ (∀ w ∈ ws, 32 ∉ tl w) ∧ Txt.join " " ws = z := by
    intro n
    induction n with
    | zero =>
      intro z hz
      refine ⟨[z], by simp, fun w hw => ?_, ?_⟩
      · rw [List.mem_singleton.mp hw]
        have : (tl z).length = 0 := by rw [← len_tl]; omega
        rw [List.length_eq_zero_iff.mp this]
        exact List.not_mem_nil
      · rw [join_eq]; rfl
    | succ n ih =>
      intro z hz
      by_cases h : 32 ∈ tl z
      · obtain ⟨A, B, e, hA⟩ := first_of h
        obtain ⟨ws, h1, h2, h3⟩ := ih (ofL B) (by
          have := congrArg List.length e
          rw [List.length_append, List.length_cons, ← len_tl] at this
          rw [ofL_len]
          omega)
        cases ws with
        | nil => exact absurd rfl h1
        | cons x r =>
          refine ⟨ofL A :: x :: r, by simp, fun w hw => ?_, ?_⟩
          · rcases List.mem_cons.mp hw with rfl | hw
            · rw [tl_ofL]; exact hA
            · exact h2 w hw
          · rw [join_eq] at h3 ⊢
            show ofL A ++ " " ++ Str.join " " (x :: r) = z
            rw [h3]
            exact ext_tl (by rw [tl_append, tl_append, tl_ofL, tl_ofL, tl_sp, e, List.append_assoc]; rfl)
      · refine ⟨[z], by simp, fun w hw => ?_, ?_⟩
        · rw [List.mem_singleton.mp hw]
          exact h
        · rw [join_eq]; rfl
  exact go z.length z (Nat.le_refl _)
theorem split_sp {z : Str} {ws : List Str} (h1 : ws ≠ []) (h2 : ∀ w ∈ ws, 32 ∉ tl w) (h3 : Txt.join " " ws = z) : Txt.split z " " = ws := by
  rw [← h3]
  exact split_join (y := " ") tl_sp (by decide +kernel) h1 h2
/-- what the words say of a line -/
def lineW (ws : List Str) : Ln := match ws with
  | [w] => if inV (.str w) k_BARE = true then .row ⟨kdOf w, "", []⟩ else .none
  | [w, x] => if w = "use" then (match exO x with
      | some ns => if ns.length ≤ 20 then .row ⟨.use, "", ns⟩ else .large
      | none => .none) else .none
  | [w, n, e, x] => if inV (.str w) k_BINDING = true ∧ e = "=" ∧ okS n = true then (match exO x with
      | some ns => if ns.length ≤ 20 then .row ⟨kdOf w, n, ns⟩ else .large
      | none => .none) else .none
  | _ => .none
theorem lineW_use (x : Str) : lineW ["use", x] = (match exO x with
      | some ns => if ns.length ≤ 20 then .row ⟨.use, "", ns⟩ else .large
      | none => .none) := by
  show (if ("use" : Str) = "use" then (match exO x with
      | some ns => if ns.length ≤ 20 then Ln.row ⟨.use, "", ns⟩ else .large
      | none => .none) else .none) = _
  rw [if_pos rfl]
theorem p_two {w y : Str} (h : 32 ∉ tl w) : p1 (w ++ " " ++ y) = w ∧ p3 (w ++ " " ++ y) = y := by
  unfold p1 p3
  rw [partition_app tl_sp h]
  exact ⟨rfl, rfl⟩
theorem p_one {w : Str} (h : 32 ∉ tl w) : p1 w = w ∧ p3 w = "" := by
  unfold p1 p3
  rw [partition_none tl_sp h]
  exact ⟨rfl, rfl⟩
theorem q_two {w y : Str} (h : 32 ∉ tl w) : q1 (w ++ " = " ++ y) = w ∧ q3 (w ++ " = " ++ y) = y := by
  unfold q1 q3
  rw [partition_app tl_eq h]
  exact ⟨rfl, rfl⟩
theorem not_bare {z : Str} (h : 32 ∈ tl z) : ¬ inV (.str z) k_BARE = true := fun hb => by
  obtain ⟨k, rfl, _⟩ := bare_kd hb
  exact (kS_plain k).1 h
theorem part_mid (x y : Str) : (Txt.partition x y).2.1 = y ∨ (Txt.partition x y).2.2 = Str.empty := by
  unfold Txt.partition
  split
  · exact .inl rfl
  · exact .inr rfl
theorem sp_in (a b : Str) : 32 ∈ tl (a ++ " " ++ b) := by
  rw [tl_append, tl_append, tl_sp]
  simp
theorem exO_in {z : Str} (h : 32 ∈ tl z) : exO z = none := by
  cases e : exO z with
  | none => rfl
  | some ns => exact absurd h (exO_sp e)
theorem use_no : ¬ inV (.str ("use" : Str)) k_BINDING = true := by decide +kernel
theorem bare_x {w : Str} (h : 32 ∉ tl w) : exO (ptX w) = none := by
  unfold ptX q3
  rw [(p_one h).2, partition_none tl_eq (by rw [show tl ("" : Str) = [] by decide +kernel]; exact List.not_mem_nil)]
  split <;> exact exO_empty
theorem line_words {z : Str} {ws : List Str} (h1 : ws ≠ []) (h2 : ∀ w ∈ ws, 32 ∉ tl w) (h3 : Txt.join " " ws = z) : lineO z = lineW ws := by
  match ws, h1 with
  | [w], _ =>
    have hz : w = z := by rw [← h3, join_eq]; rfl
    subst hz
    have hw := h2 w List.mem_cons_self
    show _ = if inV (.str w) k_BARE = true then _ else _
    by_cases hb : inV (.str w) k_BARE = true
    · rw [if_pos hb]
      unfold lineO
      rw [if_pos hb]
    · rw [if_neg hb]
      exact line_nox hb (bare_x hw)
  | w :: x :: r, _ =>
    have hw := h2 w List.mem_cons_self
    obtain ⟨y, hy⟩ : ∃ y, y = Txt.join " " (x :: r) := ⟨_, rfl⟩
    have hz : z = w ++ " " ++ y := by
      rw [← h3, hy, join_eq, join_eq]
      rfl
    obtain ⟨e1, e3⟩ := p_two (y := y) hw
    rw [← hz] at e1 e3
    have hb : ¬ inV (.str z) k_BARE = true := not_bare (by rw [hz]; exact sp_in _ _)
    have hr2 : ∀ v ∈ x :: r, 32 ∉ tl v := fun v hv => h2 v (List.mem_cons_of_mem _ hv)
    by_cases hu : w = "use"
    · have hX : ptX z = y := by
        unfold ptX
        rw [e1, hu, if_neg use_no, e3]
      have hN : ptN z = "" := by
        unfold ptN
        rw [e1, hu, if_neg use_no]
      have hh : headOk z = true := by
        unfold headOk
        rw [e1, decide_eq_true hu, Bool.true_or]
      match r, hy with
      | [], hy =>
        have hy : y = x := by rw [hy, join_eq]; rfl
        show _ = if w = "use" then _ else _
        rw [if_pos hu]
        cases hx : exO x with
        | none => exact line_nox hb (by rw [hX, hy, hx])
        | some ns => rw [line_ex hb hh (k := .use) (by rw [e1, hu]; rfl) (by rw [hX, hy, hx]), hN]
      | [u], hy => exact line_nox hb (by rw [hX, hy, join_eq]; exact exO_in (sp_in _ _))
      | [u, v], hy =>
        rw [line_nox hb (by rw [hX, hy, join_eq]; exact exO_in (sp_in _ _))]
        show _ = if inV (.str w) k_BINDING = true ∧ u = "=" ∧ okS x = true then _ else _
        rw [if_neg fun q => use_no (hu ▸ q.1)]
      | u :: v :: q :: s, hy => exact line_nox hb (by rw [hX, hy, join_eq]; exact exO_in (sp_in _ _))
    · by_cases hB : inV (.str w) k_BINDING = true
      · have hX : ptX z = q3 y := by
          unfold ptX
          rw [e1, if_pos hB, e3]
        have hN : ptN z = q1 y := by
          unfold ptN
          rw [e1, if_pos hB, e3]
        have hh : headOk z = okS (q1 y) := by
          unfold headOk
          rw [e1, decide_eq_false hu, hB, hN]
          rfl
        have no : (∀ x', x :: r = [x, "=", x'] → okS x = true → False) → lineO z = .none := fun g => by
          cases hx : exO (ptX z) with
          | none => exact line_nox hb hx
          | some ns =>
            refine line_no hb fun ho => ?_
            rw [hh] at ho
            rw [hX] at hx
            have hne : (Txt.partition y " = ").2.1 = " = " := (part_mid y " = ").resolve_right fun e => by
              have e' : q3 y = "" := e
              rw [e', exO_empty] at hx
              cases hx
            have hs : q1 y ++ " = " ++ q3 y = y := by
              have := StrLaws.partition_sum y " = "
              rw [hne] at this
              exact this
            have hj : Txt.join " " [q1 y, "=", q3 y] = y := by
              refine Eq.trans ?_ hs
              rw [join_eq]
              refine ext_tl ?_
              show tl (q1 y ++ " " ++ ("=" ++ " " ++ q3 y)) = _
              simp only [tl_append, tl_sp, tl_eq, show tl ("=" : Str) = [61] by decide +kernel]
              simp
            have k3 : ∀ v ∈ [q1 y, "=", q3 y], 32 ∉ tl v := fun v hv => by
              simp only [List.mem_cons, List.not_mem_nil, or_false] at hv
              rcases hv with rfl | rfl | rfl
              · exact (okS_sp ho).1
              · decide +kernel
              · exact exO_sp hx
            have u1 := split_sp (by simp) k3 hj
            have u2 := split_sp (by simp) hr2 hy.symm
            rw [u1] at u2
            injection u2 with a1 a2
            refine g (q3 y) ?_ (a1 ▸ ho)
            rw [← a2]
        match r, hy, no, hr2 with
        | [], hy, no, _ =>
          rw [no fun x' e => by injection e with _ e; cases e]
          show _ = if w = "use" then _ else _
          rw [if_neg hu]
        | [u], hy, no, _ => exact no fun x' e => by injection e with _ e; injection e with _ e; cases e
        | [u, v], hy, no, hr2 =>
          show _ = if inV (.str w) k_BINDING = true ∧ u = "=" ∧ okS x = true then _ else _
          by_cases g : u = "=" ∧ okS x = true
          · obtain ⟨rfl, hx⟩ := g
            rw [if_pos ⟨hB, rfl, hx⟩]
            have hy2 : y = x ++ " = " ++ v := by
              rw [hy, join_eq]
              refine ext_tl ?_
              show tl (x ++ " " ++ ("=" ++ " " ++ v)) = _
              simp only [tl_append, tl_sp, tl_eq, show tl ("=" : Str) = [61] by decide +kernel]
              simp
            obtain ⟨f1, f3⟩ := q_two (y := v) (hr2 x List.mem_cons_self)
            rw [← hy2] at f1 f3
            cases hxx : exO v with
            | none => exact line_nox hb (by rw [hX, f3, hxx])
            | some ns =>
              obtain ⟨k, ek, _⟩ := bind_kd hB
              rw [line_ex hb (by rw [hh, f1, hx]) (k := k) (by rw [e1, ek]) (by rw [hX, f3, hxx]), hN, f1, ek, kdOf_kS]
          · rw [if_neg fun q => g q.2]
            exact no fun x' e ho => by
              injection e with _ e
              injection e with e _
              exact g ⟨e, ho⟩
        | u :: v :: q :: s, hy, no, _ => exact no fun x' e => by injection e with _ e; injection e with _ e; cases e
      · have hno : lineO z = .none := line_no hb fun hh => by
          unfold headOk at hh
          rw [e1, decide_eq_false hu, Bool.eq_false_iff.mpr hB] at hh
          cases hh
        rw [hno]
        match r with
        | [] =>
          show _ = if w = "use" then _ else _
          rw [if_neg hu]
        | [u] => rfl
        | [u, v] =>
          show _ = if inV (.str w) k_BINDING = true ∧ u = "=" ∧ okS x = true then _ else _
          rw [if_neg fun q => hB q.1]
        | u :: v :: q :: s => rfl
theorem part_len (y : Str) : ∀ parts : List Str, (∀ w ∈ parts, w.length ≤ (Str.join y parts).length) ∧ parts.length ≤ (Str.join y parts).length * 1 + (if y.length = 0 then parts.length else 1)
  | [] => ⟨fun _ h => (nomatch h), Nat.zero_le _⟩
  | [p] => ⟨fun w hw => by rw [List.mem_singleton.mp hw]; exact Nat.le_refl _, by
    show 1 ≤ _
    split
    · show 1 ≤ _ + 1
      omega
    · omega⟩
  | p :: q :: r => by
    obtain ⟨h1, h2⟩ := part_len y (q :: r)
    have e : (Str.join y (p :: q :: r)).length = p.length + y.length + (Str.join y (q :: r)).length := by
      show (p ++ y ++ Str.join y (q :: r)).length = _
      rw [len_app, len_app]
    refine ⟨fun w hw => ?_, ?_⟩
    · rcases List.mem_cons.mp hw with rfl | hw
      · omega
      · have := h1 w hw
        omega
    · rw [e, List.length_cons]
      split at h2
      · rename_i hy
        rw [if_pos hy, List.length_cons]
        omega
      · rename_i hy
        rw [if_neg hy]
        omega
theorem words_ok (line : Str) : (∀ w ∈ Txt.split line " ", w.length ≤ line.length) ∧ (Txt.split line " ").length ≤ line.length + 1 := by
  obtain ⟨h1, h2⟩ := part_len " " (Txt.split line " ")
  rw [StrLaws.join_split] at h1 h2
  exact ⟨h1, by have : ¬ (" " : Str).length = 0 := by decide
                rw [if_neg this] at h2
                omega⟩
/-! ### the law's own reading -/
abbrev l2 (a b : Str) : List Str := [a, b]
abbrev r3 (a b c : Str) : List Str := [a, b, c]
def xT (r : Rwd) : Str := if isX r.k = true then exT r.ns else ""
def dueL (z : Str) : Ln → List Str
  | .row r => [kS r.k, r.nm, xT r]
  | .large => ["large", "nodes", ""]
  | .none => ["none", z, ""]
def spRrow : Sp := fun vs H Q _ => ∃ z, vs = [.str z] ∧ z.length ≤ 400 ∧ 9 ∉ tl z ∧ ∀ a H', Ex H H' → H' a = some (.lst ((dueL z (lineO z)).map V.str)) → Q (.ref a) H'
theorem cnt_none {t : Str} (h9 : 9 ∉ tl t) (h : exO t = none) : cntV (tl t) = -1 := by
  unfold cntV
  cases e : FC okS (tl t) with
  | none => rfl
  | some n =>
    obtain ⟨ns, hr, _⟩ := (read_FC (okw := okS) h9).2 n e
    rw [exO_some.mpr hr] at h
    cases h
theorem cnt_some {t : Str} {ns : List Nd} (h9 : 9 ∉ tl t) (h : exO t = some ns) : cntV (tl t) = (ns.length : Int) := by
  unfold cntV
  rw [(read_FC (okw := okS) h9).1 ns (exO_some.mp h)]
theorem exO_text {t : Str} {ns : List Nd} (h : exO t = some ns) : exT ns = t := by
  unfold exT
  rw [run_text (exO_some.mp h), ofL_tl]
theorem mem_join {c : Nat} {w : Str} : ∀ {ws : List Str}, w ∈ ws → c ∈ tl w → c ∈ tl (Str.join " " ws)
  | [x], hw, hc => by
    rw [List.mem_singleton.mp hw] at hc
    exact hc
  | x :: y :: r, hw, hc => by
    show c ∈ tl (x ++ " " ++ Str.join " " (y :: r))
    rw [tl_append, tl_append]
    rcases List.mem_cons.mp hw with rfl | hw
    · exact List.mem_append_left _ (List.mem_append_left _ hc)
    · exact List.mem_append_right _ (mem_join hw hc)
theorem ok_lrrow (T : Tx0 w K mg A) : FnOk P w K mg base CX0 5 A.lrrow A.d_lrrow p_lrrow spRrow := by
  refine T.F_lrrow.ok sc_lrrow (fun vs H Q E h => ?_) (fun cdv Ar outer s H vs Q E hr h => ?_)
  · obtain ⟨z, rfl, _⟩ := h
    rfl
  · obtain ⟨z, rfl, hl, h9, q⟩ := h
    refine ⟨_, (pss_cons (ps_set (i := 1) sc_lrrow.nd rfl (Or.inl rfl) (pe_bm PySem.F.plainAttrs_str PySem.F.slot_str_split PySem.F.type_str_split mt_split (pv 0) (pa_cons pe_str pa_nil)))
      (Evl.pss_cut (ps_if (PW.pt (pw_and (pt_cmpR op_eq (pe_callB call_len_seq (by rfl) T.m_len PySem.boot_len (pa_cons (pv 1) pa_nil)) pe_int (nomark _)) (pw_and1 (pt_cmpR op_in_seq (pe_ix ix_list (pv 1) pe_int (fun _ _ => rfl)) (pe_lst (pa_cons pe_str (pa_cons pe_str (pa_cons pe_str (pa_cons pe_str (pa_cons pe_str pa_nil)))))) (by rfl))))) (pss_one (ps_ret (pe_lst (pa_cons (pe_ix ix_list (pv 1) pe_int (fun _ _ => rfl)) (pa_cons pe_str (pa_cons pe_str pa_nil)))))) pss_nil)
      (pss_cons (ps_set (i := 2) sc_lrrow.nd rfl (Or.inl rfl) (pe_call (ok_lcount T) (hr.mono (by decide)) (by rfl) T.g_lcount T.F_lcount.kp T.b_lcount .nil pass0 (pa_cons (pe_ix ix_list (pv 1) (pe_op op_sub (pe_callB call_len_seq (by rfl) T.m_len PySem.boot_len (pa_cons (pv 1) pa_nil)) pe_int) (fun _ _ => rfl)) pa_nil)))
      (pss_cons (ps_set (i := 3) sc_lrrow.nd rfl (Or.inl rfl) (pe_lst (pa_cons pe_str (pa_cons pe_str (pa_cons pe_str pa_nil)))))
      (Evl.pss_cut (ps_if (PW.pt (pw_and (pt_cmpR op_eq (pe_callB call_len_seq (by rfl) T.m_len PySem.boot_len (pa_cons (pv 1) pa_nil)) pe_int (nomark _)) (pw_and1 (pt_cmpR op_eq (pe_ix ix_list (pv 1) pe_int (fun _ _ => rfl)) pe_str (nomark _))))) (pss_one (ps_set (i := 3) sc_lrrow.nd rfl (Or.inl rfl) (pe_lst (pa_cons pe_str (pa_cons pe_str (pa_cons (pe_ix ix_list (pv 1) pe_int (fun _ _ => rfl)) pa_nil)))))) pss_nil)
      (Evl.pss_cut (ps_if (PW.pt (pw_and (pt_cmpR op_eq (pe_callB call_len_seq (by rfl) T.m_len PySem.boot_len (pa_cons (pv 1) pa_nil)) pe_int (nomark _)) (pw_and (pt_cmpR op_in_seq (pe_ix ix_list (pv 1) pe_int (fun _ _ => rfl)) (pe_lst (pa_cons pe_str (pa_cons pe_str (pa_cons pe_str pa_nil)))) (by rfl)) (pw_and (pt_cmpR op_eq (pe_ix ix_list (pv 1) pe_int (fun _ _ => rfl)) pe_str (nomark _)) (pw_and1 (pt_val (pe_call (ok_lname T) (hr.mono (by decide)) (by rfl) T.g_lname T.F_lname.kp T.b_lname .nil pass0 (pa_cons (pe_ix ix_list (pv 1) pe_int (fun _ _ => rfl)) pa_nil)))))))) (pss_one (ps_set (i := 3) sc_lrrow.nd rfl (Or.inl rfl) (pe_lst (pa_cons (pe_ix ix_list (pv 1) pe_int (fun _ _ => rfl)) (pa_cons (pe_ix ix_list (pv 1) pe_int (fun _ _ => rfl)) (pa_cons (pe_ix ix_list (pv 1) pe_int (fun _ _ => rfl)) pa_nil)))))) pss_nil)
      (pss_cons (ps_if (PW.pt (pw_or (pt_cmpR op_eq (pe_ix ix_list (pv 3) pe_int (fun _ _ => rfl)) pe_str (nomark _)) (pw_or1 (pt_cmpR op_lt (pv 2) pe_int (nomark _))))) (pss_one (ps_ret (pe_lst (pa_cons pe_str (pa_cons (pv 0) (pa_cons pe_str pa_nil)))))) pss_nil)
      (pss_cons (ps_if (pt_cmpR op_gt (pv 2) pe_int (nomark _)) (pss_one (ps_ret (pe_lst (pa_cons pe_str (pa_cons pe_str (pa_cons pe_str pa_nil)))))) pss_nil)
      (pss_one (ps_ret (pv 3))))))))))), ?_⟩
    obtain ⟨ws, w1, w2, w3⟩ := words_of z
    have hsp := split_sp w1 w2 w3
    rw [line_words w1 w2 w3] at q
    have wl := (words_ok z).1
    rw [hsp] at wl
    have hz1 : z.length + 2 ≤ sizeLine := sz_of (by omega)
    refine ⟨_, rfl, rfl, _, _, rfl, rfl, by decide, hz1, fun p hp => ?_⟩
    rw [hsp]
    have e1 := Ex.new (o := .lst (ws.map V.str)) hp
    have hp1 : upd H p (.lst (ws.map V.str)) p = some (.lst (ws.map V.str)) := upd_same
    generalize upd H p (.lst (ws.map V.str)) = H1 at e1 hp1 ⊢
    obtain ⟨L, hL⟩ : ∃ L, ws[ws.length - 1]? = some L := ⟨_, List.getElem?_eq_getElem (show ws.length - 1 < ws.length by have := List.length_pos_iff.mpr w1; omega)⟩
    have Lm := List.mem_of_getElem? hL
    have L9 : 9 ∉ tl L := fun m => h9 (by rw [← w3, join_eq]; exact mem_join Lm m)
    have Ll : L.length ≤ 400 := Nat.le_trans (wl L Lm) hl
    have fin3 : ∀ (H2 : Hp) (a b c : Str), Ex H H2 → dueL z (lineW ws) = [a, b, c] → ∀ x, H2 x = none → Q (.ref x) (upd H2 x (.lst [.str a, .str b, .str c])) := fun H2 a b c e2 hd x hx => by
      have eN := Ex.new (o := .lst [.str a, .str b, .str c]) hx
      refine q x _ (e2.trans eN) ?_
      rw [upd_same, hd]
      rfl
    refine ⟨fun σ2 H2 => (∀ w, ws = [w] → ¬ inV (.str w) k_BARE = true) ∧ σ2 = [some (.str z), some (.ref p), none, none] ∧ Ex H1 H2, ?_, ?_⟩
    · refine ⟨_, rfl, p, _, rfl, .inl (SqL.of hp1), rfl, _, rfl, ite2 (fun h => ?_) (fun h => ?_)⟩
      · have hl1 : ws.length = 1 := by
          have := V.int.inj (of_decide_eq_true h)
          rw [List.length_map] at this
          omega
        obtain ⟨w, rfl⟩ := List.length_eq_one_iff.mp hl1
        refine ⟨_, rfl, p, _, 0, .str w, rfl, rfl, SqL.of hp1, atI_nat (j := 0) rfl, ?_⟩
        refine ⟨sz_of (by show 5 ≤ 100000; decide), fun q5 hq5 => ?_⟩
        have e5 := Ex.new (o := .lst k_BARE) hq5
        refine ⟨q5, k_BARE, rfl, .inl (SqL.of upd_same), rfl, by decide, _, rfl, ?_⟩
        show if inV (.str w) k_BARE = true then _ else _
        by_cases hb : inV (.str w) k_BARE = true
        · rw [hb]
          obtain ⟨k, rfl, hX⟩ := bare_kd hb
          refine iteT ⟨_, rfl, p, _, 0, .str (kS k), rfl, rfl, SqL.of (e5 _ _ hp1), atI_nat (j := 0) rfl, sz_of (by show 3 ≤ 100000; decide), fun x hx => fin3 _ (kS k) "" "" (e1.trans e5) ?_ x hx⟩
          show dueL z (if inV (.str (kS k)) k_BARE = true then _ else _) = _
          rw [if_pos hb, kdOf_kS]
          show [kS k, "", if isX k = true then _ else _] = _
          rw [if_neg (by rw [hX]; decide)]
        · rw [Bool.eq_false_iff.mpr hb]
          refine iteF ⟨fun v e => ?_, rfl, e5⟩
          injection e with e _
          rw [← e]
          exact hb
      · refine iteF ⟨fun w e => ?_, rfl, Ex.refl _⟩
        rw [e] at h
        exact absurd rfl h
    rintro σ2 H2 ⟨nb, rfl, e2⟩
    have hp2 := e2 _ _ hp1
    refine ⟨_, rfl, _, rfl, p, _, rfl, .inl (SqL.of hp2), _, 1, rfl, rfl, p, _, _, .str L, rfl, rfl, SqL.of hp2, ?_, L, rfl, Ll, L9, fun H3 e3 => ?_⟩
    · rw [List.length_map, show ((ws.length : Nat) : Int) - 1 = ((ws.length - 1 : Nat) : Int) by have := List.length_pos_iff.mpr w1; omega]
      exact atI_nat (by rw [List.getElem?_map, hL]; rfl)
    have hp3 := e3 _ _ hp2
    have e13 := (e1.trans e2).trans e3
    refine ⟨sz_of (by show 3 ≤ 100000; decide), fun r0 hr0 => ?_⟩
    have e4 := Ex.new (o := .lst [.str "", .str "", .str ""]) hr0
    have hp4 := e4 _ _ hp3
    have hr4 : upd H3 r0 (.lst [.str "", .str "", .str ""]) r0 = some (.lst [.str "", .str "", .str ""]) := upd_same
    have e14 := e13.trans e4
    generalize upd H3 r0 (.lst [.str "", .str "", .str ""]) = H4 at e4 hp4 hr4 e14 ⊢
    have two : ∀ {n : Nat}, decide (V.int ((ws.map V.str).length : Int) = V.int (n : Int)) = true → ws.length = n := fun {n} h => by
      have := V.int.inj (of_decide_eq_true h)
      rw [List.length_map] at this
      omega
    refine ⟨fun σ2 H5 => ∃ (r : Addr) (row : List Str), σ2 = [some (.str z), some (.ref p), some (.int (cntV (tl L))), some (.ref r)] ∧ Ex H4 H5 ∧ H5 r = some (.lst (row.map V.str)) ∧ ((∃ x : Str, ws = l2 "use" x ∧ row = r3 "use" "" x) ∨ ((∀ x : Str, ws ≠ l2 "use" x) ∧ row = r3 "" "" "")), ?_, ?_⟩
    · refine ⟨_, rfl, p, _, rfl, .inl (SqL.of hp4), rfl, _, rfl, ite2 (fun h => ?_) (fun h => ?_)⟩
      · have hl2 := two (n := 2) h
        match ws, hl2, hp4 with
        | [w, x], _, hp4 =>
          refine ⟨_, rfl, p, _, 0, .str w, rfl, rfl, SqL.of hp4, atI_nat (j := 0) rfl, rfl, _, rfl, ite2 (fun g => ?_) (fun g => ?_)⟩
          · have g : w = "use" := V.str.inj (of_decide_eq_true g)
            subst g
            exact ⟨_, rfl, p, _, 1, .str x, rfl, rfl, SqL.of hp4, atI_nat (j := 1) rfl, sz_of (by show 3 ≤ 100000; decide), fun r hr => ⟨r, r3 "use" "" x, rfl, Ex.new hr, upd_same, .inl ⟨x, rfl, rfl⟩⟩⟩
          · refine ⟨r0, r3 "" "" "", rfl, Ex.refl _, hr4, .inr ⟨fun y e => ?_, rfl⟩⟩
            injection e with e _
            exact g (decide_eq_true (congrArg V.str e))
      · refine iteF ⟨r0, r3 "" "" "", rfl, Ex.refl _, hr4, .inr ⟨fun y e => ?_, rfl⟩⟩
        rw [e] at h
        exact absurd rfl h
    rintro σ2 H5 ⟨r1, row1, rfl, e5, hr5, hc5⟩
    have hp5 := e5 _ _ hp4
    refine ⟨fun σ2 H6 => ∃ (r : Addr) (row : List Str), σ2 = [some (.str z), some (.ref p), some (.int (cntV (tl L))), some (.ref r)] ∧ Ex H5 H6 ∧ H6 r = some (.lst (row.map V.str)) ∧ ((∃ x : Str, ws = l2 "use" x ∧ row = r3 "use" "" x) ∨ (∃ w n x : Str, ws = [w, n, "=", x] ∧ inV (.str w) k_BINDING = true ∧ okS n = true ∧ row = [w, n, x]) ∨ (lineW ws = .none ∧ row = r3 "" "" "")), ?_, ?_⟩
    · refine ⟨_, rfl, p, _, rfl, .inl (SqL.of hp5), rfl, _, rfl, ite2 (fun h => ?_) (fun h => ?_)⟩
      · have hl4 := two (n := 4) h
        match ws, hl4, hp5, hc5 with
        | [w, n, e, x], _, hp5, hc5 =>
          have hr0 : row1 = r3 "" "" "" := by
            rcases hc5 with ⟨y, hy, _⟩ | ⟨_, hy⟩
            · have := congrArg List.length hy
              cases this
            · exact hy
          have stay : ¬ (inV (.str w) k_BINDING = true ∧ e = "=" ∧ okS n = true) → ∀ H6, Ex H5 H6 → ∃ (r : Addr) (row : List Str), [some (V.str z), some (.ref p), some (.int (cntV (tl L))), some (.ref r1)] = [some (.str z), some (.ref p), some (.int (cntV (tl L))), some (.ref r)] ∧ Ex H5 H6 ∧ H6 r = some (.lst (row.map V.str)) ∧ ((∃ x' : Str, [w, n, e, x] = l2 "use" x' ∧ row = r3 "use" "" x') ∨ (∃ w' n' x' : Str, [w, n, e, x] = [w', n', "=", x'] ∧ inV (.str w') k_BINDING = true ∧ okS n' = true ∧ row = [w', n', x']) ∨ (lineW [w, n, e, x] = .none ∧ row = r3 "" "" "")) := fun g H6 e6 => by
            refine ⟨r1, row1, rfl, e6, e6 _ _ hr5, .inr (.inr ⟨?_, hr0⟩)⟩
            show (if inV (.str w) k_BINDING = true ∧ e = "=" ∧ okS n = true then _ else _) = _
            rw [if_neg g]
          refine ⟨_, rfl, p, _, 0, .str w, rfl, rfl, SqL.of hp5, atI_nat (j := 0) rfl, ?_⟩
          refine ⟨sz_of (by show 3 ≤ 100000; decide), fun q5 hq5 => ?_⟩
          have e6 := Ex.new (o := .lst k_BINDING) hq5
          have hp6 := e6 _ _ hp5
          refine ⟨q5, k_BINDING, rfl, .inl (SqL.of upd_same), rfl, by decide, _, rfl, ?_⟩
          show if inV (.str w) k_BINDING = true then _ else _
          by_cases hB : inV (.str w) k_BINDING = true
          · rw [hB]
            refine iteT ⟨_, rfl, p, _, 2, .str e, rfl, rfl, SqL.of hp6, atI_nat (j := 2) rfl, rfl, _, rfl, ite2 (fun g => ?_) (fun g => ?_)⟩
            · have g : e = "=" := V.str.inj (of_decide_eq_true g)
              subst g
              have nl : n.length ≤ 400 := Nat.le_trans (wl n (by simp)) hl
              refine ⟨_, rfl, p, _, 1, .str n, rfl, rfl, SqL.of hp6, atI_nat (j := 1) rfl, .str n, rfl, .inl ⟨_, rfl, by omega⟩, fun H7 e7 => ?_⟩
              rw [show nm (.str n) = okS n from rfl]
              have hp7 := e7 _ _ hp6
              cases ho : okS n with
              | true =>
                refine ⟨_, rfl, iteT ⟨_, rfl, p, _, 0, .str w, rfl, rfl, SqL.of hp7, atI_nat (j := 0) rfl, _, rfl, p, _, 1, .str n, rfl, rfl, SqL.of hp7, atI_nat (j := 1) rfl, _, rfl, p, _, 3, .str x, rfl, rfl, SqL.of hp7, atI_nat (j := 3) rfl, sz_of (by show 3 ≤ 100000; decide), fun r hr => ?_⟩⟩
                exact ⟨r, [w, n, x], rfl, (e6.trans e7).trans (Ex.new hr), upd_same, .inr (.inl ⟨w, n, x, rfl, hB, ho, rfl⟩)⟩
              | false => exact ⟨_, rfl, iteF (stay (fun y => by rw [ho] at y; cases y.2.2) H7 (e6.trans e7))⟩
            · exact iteF (stay (fun y => g (decide_eq_true (congrArg V.str y.2.1))) _ e6)
          · rw [Bool.eq_false_iff.mpr hB]
            exact iteF (stay (fun y => hB y.1) _ e6)
      · refine iteF ⟨r1, row1, rfl, Ex.refl _, hr5, ?_⟩
        rcases hc5 with hu | ⟨hu, hy⟩
        · exact .inl hu
        · refine .inr (.inr ⟨?_, hy⟩)
          match ws, nb, hu, h with
          | [], _, _, _ => rfl
          | [w], nb, _, _ => exact if_neg (nb w rfl)
          | [w, x], _, hu, _ => exact if_neg fun e => hu x (by rw [e])
          | [w, x, y], _, _, _ => rfl
          | [w, x, y, u], _, _, h => exact absurd rfl h
          | w :: x :: y :: u :: v :: r, _, _, _ => rfl
    rintro σ2 H6 ⟨r2, row2, rfl, e6, hr6, hc6⟩
    have e16 := (e14.trans e5).trans e6
    have at0 : ∀ a b c : Str, row2 = r3 a b c → atI (row2.map V.str) 0 = some (.str a) := fun a b c e => by rw [e]; exact atI_nat (j := 0) rfl
    have form : (∃ (kd : Kd) (n : Str), row2 = r3 (kS kd) n L ∧ isX kd = true ∧ lineW ws = (match exO L with
        | some ns => if ns.length ≤ 20 then .row ⟨kd, n, ns⟩ else .large
        | none => .none)) ∨ (lineW ws = .none ∧ row2 = r3 "" "" "") := by
      rcases hc6 with ⟨x, rfl, rfl⟩ | ⟨w, n, x, rfl, hB, ho, rfl⟩ | hc
      · cases hL
        refine .inl ⟨.use, "", rfl, rfl, ?_⟩
        exact lineW_use L
      · cases hL
        obtain ⟨k, rfl, hk⟩ := bind_kd hB
        refine .inl ⟨k, n, rfl, isB_X hk, ?_⟩
        show (if inV (.str (kS k)) k_BINDING = true ∧ _ ∧ _ then _ else _) = _
        rw [if_pos ⟨hB, rfl, ho⟩, kdOf_kS]
      · exact .inr hc
    rcases form with ⟨kd, n, hrow, hX, hln⟩ | ⟨hln, hrow⟩
    · have kne : ¬ V.str (kS kd) = V.str "" := fun e => by
        have e := V.str.inj e
        revert e
        cases kd <;> decide +kernel
      refine ⟨_, rfl, r2, _, 0, .str (kS kd), rfl, rfl, SqL.of hr6, at0 _ _ _ hrow, rfl, _, rfl, ?_⟩
      rw [decide_eq_false kne]
      refine iteF ⟨_, rfl, _, 0, rfl, rfl, _, rfl, ?_⟩
      cases hx : exO L with
      | none =>
        rw [cnt_none L9 hx, decide_eq_true (show (-1 : Int) < 0 by decide)]
        rw [hx] at hln
        exact iteT ⟨_, rfl, sz_of (by show 3 ≤ 100000; decide), fun x hx => fin3 H6 "none" z "" e16 (by rw [hln]; rfl) x hx⟩
      | some ns =>
        rw [cnt_some L9 hx, decide_eq_false (show ¬ (ns.length : Int) < 0 by omega)]
        rw [hx] at hln
        refine iteF ⟨_, rfl, _, 20, rfl, rfl, _, rfl, ite2 (fun h => ?_) (fun h => ?_)⟩
        · have h := of_decide_eq_true h
          exact ⟨sz_of (by show 3 ≤ 100000; decide), fun x hx => fin3 H6 "large" "nodes" "" e16 (by rw [hln]; show dueL z (if ns.length ≤ 20 then _ else _) = _; rw [if_neg (by omega)]; rfl) x hx⟩
        · have h : ¬ 20 < (ns.length : Int) := fun y => h (decide_eq_true y)
          refine ⟨_, rfl, q r2 H6 e16 ?_⟩
          rw [hr6, hln, hrow]
          show _ = some (HO.lst ((dueL z (if ns.length ≤ 20 then _ else _)).map V.str))
          rw [if_pos (by omega)]
          show _ = some (HO.lst (([kS kd, n, if isX kd = true then exT ns else ""] : List Str).map V.str))
          rw [if_pos hX, exO_text hx]
    · refine ⟨_, rfl, r2, _, 0, .str "", rfl, rfl, SqL.of hr6, at0 _ _ _ hrow, rfl, _, rfl, ?_⟩
      rw [decide_eq_true rfl]
      exact iteT (iteT ⟨_, rfl, sz_of (by show 3 ≤ 100000; decide), fun x hx => fin3 H6 "none" z "" e16 (by rw [hln]; rfl) x hx⟩)
end
end K20

set_option Elab.async false
set_option linter.all false
set_option maxRecDepth 100000
namespace K20
open PySem PySem.Spec PyProof.Rows L2 Evl TL UL StX
section
variable {P : Program} {w : World} {K : PySem.W.Frag} {mg : Str → Option Value} {base : Heap} {A : Adr}
/-! ### a row's text, a row made, a row as it is due -/
def dueV (r : Rwd) : List V := [.str (kS r.k), .str r.nm, .str (xT r)]
theorem exT_ne {ns : List Nd} (h : OkN ns) : exT ns ≠ "" := fun e => by
  have := exO_some.mpr (ex_run h).1
  rw [e, exO_empty] at this
  cases this
def spRtext : Sp := fun vs H Q _ => ∃ a r, vs = [.ref a] ∧ H a = some (.lst (dueV r)) ∧ WfRw r ∧ Q (.str (rT r)) H
theorem ok_lrtext (T : Tx0 w K mg A) : FnOk P w K mg base CX0 1 A.lrtext A.d_lrtext p_lrtext spRtext := by
  refine T.F_lrtext.ok sc_lrtext (fun vs H Q E h => ?_) (fun cdv Ar outer s H vs Q E hr h => ?_)
  · obtain ⟨a, r, rfl, _⟩ := h
    rfl
  · obtain ⟨a, r, rfl, ha, wf, q⟩ := h
    refine ⟨_, (pss_cons (ps_if (pt_cmpR op_eq (pe_ix ix_list (pv 0) pe_int (fun _ _ => rfl)) pe_str (nomark _)) (pss_one (ps_ret (pe_ix ix_list (pv 0) pe_int (fun _ _ => rfl)))) pss_nil)
      (pss_cons (ps_if (pt_cmpR op_eq (pe_ix ix_list (pv 0) pe_int (fun _ _ => rfl)) pe_str (nomark _)) (pss_one (ps_ret (pe_op op_add_str pe_str (pe_ix ix_list (pv 0) pe_int (fun _ _ => rfl))))) pss_nil)
      (pss_one (ps_ret (pe_op op_add_str (pe_op op_add_str (pe_op op_add_str (pe_op op_add_str (pe_ix ix_list (pv 0) pe_int (fun _ _ => rfl)) pe_str) (pe_ix ix_list (pv 0) pe_int (fun _ _ => rfl))) pe_str) (pe_ix ix_list (pv 0) pe_int (fun _ _ => rfl))))))), ?_⟩
    have hl := rT_len wf
    have at2 : atI (dueV r) 2 = some (.str (xT r)) := atI_nat (j := 2) rfl
    have at1 : atI (dueV r) 1 = some (.str r.nm) := atI_nat (j := 1) rfl
    have at0 : atI (dueV r) 0 = some (.str (kS r.k)) := atI_nat (j := 0) rfl
    refine ⟨_, rfl, a, _, 2, .str (xT r), rfl, rfl, SqL.of ha, at2, rfl, _, rfl, ?_⟩
    rw [str_eqb]
    cases hX : isX r.k with
    | false =>
      have hx : xT r = "" := by
        unfold xT
        rw [hX]
        rfl
      have hB : isB r.k = false := by
        cases hB : isB r.k with
        | false => rfl
        | true => rw [isB_X hB] at hX; cases hX
      rw [decide_eq_true hx]
      unfold rT at q
      rw [hB, hX, if_neg (by decide), if_neg (by decide)] at q
      exact iteT ⟨_, rfl, a, _, 0, .str (kS r.k), rfl, rfl, SqL.of ha, at0, q⟩
    | true =>
      have hx : xT r = exT r.ns := by
        unfold xT
        rw [hX]
        rfl
      rw [decide_eq_false (by rw [hx]; exact exT_ne (wf.x hX))]
      refine iteF ⟨_, rfl, a, _, 0, .str (kS r.k), rfl, rfl, SqL.of ha, at0, rfl, _, rfl, ?_⟩
      rw [str_eqb]
      have u4 : ("use " : Str).length = 4 := by decide +kernel
      have u1 : (" " : Str).length = 1 := by decide +kernel
      have u3 : (" = " : Str).length = 3 := by decide +kernel
      cases hB : isB r.k with
      | false =>
        have hu : r.k = .use := by
          revert hB hX
          cases r.k <;> decide
        rw [show decide (kS r.k = "use") = true from decide_eq_true (by rw [hu]; rfl)]
        unfold rT at q hl
        rw [hB, hX, if_neg (by decide), if_pos rfl, hu] at q hl
        rw [len_app, len_app] at hl
        refine iteT ⟨_, rfl, a, _, 2, .str (xT r), rfl, rfl, SqL.of ha, at2, _, _, rfl, rfl, sz_of (by rw [hx, u4]; omega), ?_⟩
        rw [hx, show ("use " : Str) ++ exT r.ns = kS .use ++ " " ++ exT r.ns from ext_tl (by rw [tl_append, tl_append, tl_append, show tl ("use " : Str) = tl (kS .use) ++ tl (" " : Str) by decide +kernel])]
        exact q
      | true =>
        have hne : r.k ≠ .use := fun z => by rw [z] at hB; cases hB
        rw [show decide (kS r.k = "use") = false from decide_eq_false (fun y => hne (kS_inj (k' := .use) y))]
        unfold rT at q hl
        rw [hB, if_pos rfl] at q hl
        rw [len_app, len_app, len_app, len_app, u1, u3] at hl
        refine iteF ⟨_, rfl, a, _, 0, .str (kS r.k), rfl, rfl, SqL.of ha, at0, _, _, rfl, rfl, sz_of (by rw [u1]; omega), _, rfl, a, _, 1, .str r.nm, rfl, rfl, SqL.of ha, at1, _, _, rfl, rfl, sz_of (by rw [len_app, u1]; omega), _, _, rfl, rfl, sz_of (by rw [len_app, len_app, u1, u3]; omega), _, rfl, a, _, 2, .str (xT r), rfl, rfl, SqL.of ha, at2, _, _, rfl, rfl, sz_of (by rw [len_app, len_app, len_app, u1, u3, hx]; omega), ?_⟩
        rw [hx, show kS r.k ++ " " ++ r.nm ++ " = " ++ exT r.ns = kS r.k ++ " " ++ (r.nm ++ " = " ++ exT r.ns) from ext_tl (by simp only [tl_append, List.append_assoc])]
        exact q
def LbV (v : V) : Prop := (∃ z : Str, v = .str z ∧ z.length ≤ 400 ∧ PyData.strOk z = true) ∨ v = .non ∨ ∃ i, v = .int i
theorem LbV.kd {H : Hp} {v : V} (h : LbV v) : KdV H v := by
  rcases h with ⟨z, h1, h2, _⟩ | h | h
  · exact .inl ⟨z, h1, h2⟩
  · exact .inr (.inl h)
  · exact .inr (.inr (.inl h))
theorem sE : SeqAt.shaped (.str "") = true := by decide +kernel
theorem LbV.dp {K : PySem.W.Frag} {v : V} (h : LbV v) : ∃ d, (∀ H, Dp K H v d) ∧ SeqAt.shaped d = true ∧ PyData.eqv d (.str "") = decide (v = .str "") := by
  rcases h with ⟨z, rfl, _, hs⟩ | rfl | ⟨i, rfl⟩
  · refine ⟨.str z, fun H => .str z, ?_, ?_⟩
    · unfold SeqAt.shaped
      rw [show PyData.canLay0 (.str z) = true by simp only [PyData.canLay0]; exact hs, Bool.true_and]
      exact decide_eq_true (by simp only [PyData.depth]; omega)
    · rw [str_eqb]
      exact eqv_str z ""
  · exact ⟨.none, fun H => .non, by decide +kernel, rfl⟩
  · exact ⟨.int i, fun H => .int i, rfl, rfl⟩
def spMade (R C IR : Addr) : Sp := fun vs H Q E => ∃ k n v b t, vs = [k, n, v, .bl b] ∧ KdV H k ∧ LbV n ∧ TrV C H t v ∧
  (rowOk k n t = true → ∀ a dx H', Ex H H' → H' a = some (.ins R dx [("kind", k), ("name", n), ("expression", v)]) → Q (.ref a) H') ∧
  (rowOk k n t = false → ∀ d u H', Ex H H' → H' d = some (.xd [("what", u)]) → CpK H' k u → E (.ref IR) (some d) H')
theorem ok_lmade (T : Tx0 w K mg A) : FnOk P w K mg base (L2.CX P w) 8 A.lmade A.d_lmade p_lmade (spMade A.Row A.Expression A.InvalidRow) := by
  refine T.F_lmade.okX sc_lmade (fun vs H Q E h => ?_) (fun cdv Ar outer s H vs Q E hr h => ?_)
  · obtain ⟨k, n, v, b, t, rfl, _⟩ := h
    rfl
  · obtain ⟨k, n, v, b, t, rfl, hk, hn, hv, q, qe⟩ := h
    obtain ⟨ds, v0_row_init_1, b0_row_init_1⟩ := T.F_row_init.binds0 (ps := p_row_init) 2 (by simp) rfl (fun D doc pm an cdv ct us ks h1 h2 => by
      match us, h1, ks, h2 with
      | [_, _], _, [_, _], _ => exact ⟨_, _, _, _, _, _, rfl, rfl, _, _, _, _, _, _, rfl, rfl, rfl⟩)
    obtain ⟨mv, kb_row_init_1_expression_name⟩ := T.F_row_init.kbinds0 (ps := p_row_init) 2 ["expression", "name"] [] (fun us _ ws => us ++ (ws.drop 1 ++ ws.take 1)) (by simp) (fun q h => (nomatch h)) (fun a _ c => a.append ((c.drop 1).append (c.take 1))) (fun D doc pm an cdv ct us mv ws h1 h2 h3 => by
      match us, h1, mv, h2, ws, h3 with
      | [_, _], _, [], _, [_, _], _ => exact rfl)
    obtain ⟨mv1, kb_row_init_1_expression⟩ := T.F_row_init.kbinds0 (ps := p_row_init) 2 ["expression"] [("name", .str "")] (fun us mv ws => us ++ (mv ++ ws)) (by simp) (fun q h => by rw [List.mem_singleton.mp h]; exact List.mem_cons_self) (fun a b c => a.append (b.append c)) (fun D doc pm an cdv ct us mv ws h1 h2 h3 => by
      match us, h1, mv, h2, ws, h3 with
      | [_, _], _, [_], _, [_], _ => exact ⟨_, _, _, _, _, _, rfl, rfl, rfl⟩)
    obtain ⟨mv2, kb_row_init_1_name⟩ := T.F_row_init.kbinds0 (ps := p_row_init) 2 ["name"] [("expression", .non)] (fun us mv ws => us ++ (ws ++ mv)) (by simp) (fun q h => by rw [List.mem_singleton.mp h]; exact List.mem_cons_of_mem _ List.mem_cons_self) (fun a b c => a.append (c.append b)) (fun D doc pm an cdv ct us mv ws h1 h2 h3 => by
      match us, h1, mv, h2, ws, h3 with
      | [_, _], _, [_], _, [_], _ => exact ⟨_, _, _, _, _, _, rfl, rfl, rfl⟩)
    refine ⟨_, (pss_cons (ps_if (PW.pt (pw_and (pt_val (pv 3)) (pw_and (pt_cmpR (op_eqD hr.units) (pv 1) pe_str (nomark _)) (pw_and1 (pt_cmpR op_isN (pv 2) pe_non (nomark _)))))) (pss_one (ps_ret (pe_make T.mk_Row (ok_row_init T) (hr.mono (by decide)) (by rfl) T.g_Row b0_row_init_1 v0_row_init_1 (UL.passX (takes_of rfl rfl rfl rfl)) (pa_cons (pv 0) pa_nil)))) pss_nil)
      (pss_cons (ps_if (PW.pt (pw_and (pt_val (pv 3)) (pw_and1 (pt_cmpR (op_eqD hr.units) (pv 1) pe_str (nomark _))))) (pss_one (ps_ret (pe_makeK (n := 1) T.mk_Row (ok_row_init T) (hr.mono (by decide)) (by rfl) T.g_Row kb_row_init_1_expression (UL.passX (takes_of rfl rfl rfl rfl)) (pa_cons (pv 0) pa_nil) (pk_cons (pv 2) pk_nil)))) pss_nil)
      (pss_cons (ps_if (PW.pt (pw_and (pt_val (pv 3)) (pw_and1 (pt_cmpR op_isN (pv 2) pe_non (nomark _))))) (pss_one (ps_ret (pe_makeK (n := 1) T.mk_Row (ok_row_init T) (hr.mono (by decide)) (by rfl) T.g_Row kb_row_init_1_name (UL.passX (takes_of rfl rfl rfl rfl)) (pa_cons (pv 0) pa_nil) (pk_cons (pv 1) pk_nil)))) pss_nil)
      (pss_one (ps_ret (pe_makeK (n := 1) T.mk_Row (ok_row_init T) (hr.mono (by decide)) (by rfl) T.g_Row kb_row_init_1_expression_name (UL.passX (takes_of rfl rfl rfl rfl)) (pa_cons (pv 0) pa_nil) (pk_cons (pv 2) (pk_cons (pv 1) pk_nil)))))))), ?_⟩
    obtain ⟨d, hd, sd, hde⟩ := hn.dp (K := K)
    have go : ∀ (x dx : Addr), H x = none → H dx = none → dx ≠ x → spRowInit A.Row A.Expression A.InvalidRow [.ref x, k, n, v] (upd (upd H dx (.own x)) x (.ins A.Row dx [])) (fun u H2 => u = .non ∧ Q (.ref x) H2) E := fun x dx hx hdx hne =>
      ⟨x, dx, k, n, v, t, rfl, upd_same, hk.mono (made_in hx hdx), hn.kd, hv.mono (made_in hx hdx), fun ho H' e' h' => ⟨rfl, q ho x dx H' (made_ex hx hdx e') h'⟩, fun ho d u H' e' hd hc => qe ho d u H' ((made_in hx hdx).trans e') hd hc⟩
    cases b with
    | false =>
      refine ⟨_, rfl, false, rfl, iteF (iteF ?_)⟩
      refine ⟨_, rfl, false, rfl, iteF (iteF ?_)⟩
      refine ⟨_, rfl, false, rfl, iteF (iteF ?_)⟩
      exact ⟨_, rfl, _, rfl, _, rfl, rfl, rfl, go⟩
    | true =>
      refine ⟨_, rfl, true, rfl, iteT ⟨_, rfl, d, _, hd H, .str "", sd, sE, _, rfl, ?_⟩⟩
      rw [hde]
      by_cases hn0 : n = .str ""
      · rw [decide_eq_true hn0]
        subst hn0
        refine iteT ⟨_, rfl, rfl, _, rfl, ?_⟩
        by_cases hv0 : v = .non
        · rw [decide_eq_true hv0]
          subst hv0
          exact iteT ⟨_, rfl, go⟩
        · rw [decide_eq_false hv0]
          refine iteF ⟨_, rfl, true, rfl, iteT ⟨_, rfl, d, _, hd H, .str "", sd, sE, _, rfl, ?_⟩⟩
          rw [hde]
          exact iteT ⟨_, rfl, _, rfl, rfl, rfl, go⟩
      · rw [decide_eq_false hn0]
        refine iteF (iteF ⟨_, rfl, true, rfl, iteT ⟨_, rfl, d, _, hd H, .str "", sd, sE, _, rfl, ?_⟩⟩)
        rw [hde, decide_eq_false hn0]
        refine iteF ⟨_, rfl, true, rfl, iteT ⟨_, rfl, rfl, _, rfl, ?_⟩⟩
        by_cases hv0 : v = .non
        · rw [decide_eq_true hv0]
          subst hv0
          exact iteT ⟨_, rfl, _, rfl, rfl, rfl, go⟩
        · rw [decide_eq_false hv0]
          exact iteF ⟨_, rfl, _, rfl, _, rfl, rfl, rfl, go⟩
def spLis (R C : Addr) : Sp := fun vs H Q _ => ∃ a l r, vs = [.ref a, .ref l] ∧ RwAt R C H a r ∧ WfRw r ∧ H l = some (.lst (dueV r)) ∧ ∀ H', Ex H H' → Q (.bl true) H'
theorem ok_lis (T : Tx0 w K mg A) : FnOk P w K mg base CX0 12 A.lis A.d_lis p_lis (spLis A.Row A.Expression) := by
  refine T.F_lis.ok sc_lis (fun vs H Q E h => ?_) (fun cdv Ar outer s H vs Q E hr h => ?_)
  · obtain ⟨a, l, r, rfl, _⟩ := h
    rfl
  · obtain ⟨a, l, r, rfl, ha, wf, hl, q⟩ := h
    refine ⟨_, (pss_cons (ps_if (PW.pt (pw_or (pt_not (pt_val (pe_callB call_isi (by rfl) T.m_isinstance (by decide +kernel) (pa_cons (pv 0) (pa_cons (pe_glob (v := .ref A.Row) (by rfl) T.g_Row rfl) pa_nil))))) (pw_or (pt_cmpR op_ne (pe_fld (pv 0) rfl) (pe_ix ix_list (pv 1) pe_int (fun _ _ => rfl)) (nomark _)) (pw_or (pt_cmpR op_ne (pe_fld (pv 0) rfl) (pe_ix ix_list (pv 1) pe_int (fun _ _ => rfl)) (nomark _)) (pw_or1 (pt_not (pt_val (pe_callB call_isi (by rfl) T.m_isinstance (by decide +kernel) (pa_cons (pe_fld (pv 0) rfl) (pa_cons (pe_bltn (v := .ty "str") (u := .type "str") (by rfl) T.m_str (by decide +kernel) rfl) pa_nil)))))))))) (pss_one (ps_ret pe_bl)) pss_nil)
      (pss_cons (ps_if (PW.pt (pw_or (PW.pt (pw_and (pt_cmpR op_eq (pe_ix ix_list (pv 1) pe_int (fun _ _ => rfl)) pe_str (nomark _)) (pw_and1 (pt_cmpR op_notN (pe_fld (pv 0) rfl) pe_non (nomark _))))) (pw_or1 (pt_cmpR op_ne (pe_meth0 (pv 0) T.cl_Row T.e_row_text (ok_row_text T) (hr.mono (by decide)) T.b_row_text .nil pass0) (pe_call (ok_lrtext T) (hr.mono (by decide)) (by rfl) T.g_lrtext T.F_lrtext.kp T.b_lrtext .nil pass0 (pa_cons (pv 1) pa_nil)) (nomark _))))) (pss_one (ps_ret pe_bl)) pss_nil)
      (pss_one (ps_ret (pe_or (pe_cmpR op_eq (pe_ix ix_list (pv 1) pe_int (fun _ _ => rfl)) pe_str (nomark _)) (pe_one (pe_and (pe_callB call_isi (by rfl) T.m_isinstance (by decide +kernel) (pa_cons (pe_fld (pv 0) rfl) (pa_cons (pe_glob (v := .ref A.Expression) (by rfl) T.g_Expression rfl) pa_nil))) (pe_one (pe_cmpR op_eq (pe_meth0 (pe_fld (pv 0) rfl) T.cl_Expression T.e_ex_text (ok_ex_text T) (hr.mono (by decide)) T.b_ex_text .nil pass0) (pe_ix ix_list (pv 1) pe_int (fun _ _ => rfl)) (nomark _)))))))))), ?_⟩
    obtain ⟨dx, v, h1, hv⟩ := id ha
    have at2 : atI (dueV r) 2 = some (.str (xT r)) := atI_nat (j := 2) rfl
    have at1 : atI (dueV r) 1 = some (.str r.nm) := atI_nat (j := 1) rfl
    have at0 : atI (dueV r) 0 = some (.str (kS r.k)) := atI_nat (j := 0) rfl
    refine ⟨_, rfl, .ref a, _, _, _, _, rfl, .own A.Row, tyx_ins h1 T.cl_Row T.ty_Row, UL.kit_own, _, rfl, iteF ?_⟩
    refine ⟨_, rfl, a, _, dx, _, _, rfl, h1, T.cl_Row, T.na_Row_kind, f_kind _ _, _, rfl, l, _, 0, .str (kS r.k), rfl, rfl, SqL.of hl, at0, rfl, _, rfl, ?_⟩
    rw [decide_eq_true rfl]
    refine iteF ⟨_, rfl, a, _, dx, _, _, rfl, h1, T.cl_Row, T.na_Row_name, f_rname _ _, _, rfl, l, _, 1, .str r.nm, rfl, rfl, SqL.of hl, at1, rfl, _, rfl, ?_⟩
    rw [decide_eq_true rfl]
    refine iteF ⟨_, rfl, a, _, dx, _, _, rfl, h1, T.cl_Row, T.na_Row_name, f_rname _ _, .str r.nm, _, _, _, true, rfl, .ty "str", .base (.str _), kit_ty (r := true) (by decide +kernel), _, rfl, iteF ?_⟩
    refine ⟨_, rfl, l, _, 2, .str (xT r), rfl, rfl, SqL.of hl, at2, rfl, _, rfl, ?_⟩
    rw [str_eqb]
    cases hX : isX r.k with
    | false =>
      have hx : xT r = "" := by
        unfold xT
        rw [hX]
        rfl
      unfold ExpV at hv
      rw [if_neg (by rw [hX]; decide)] at hv
      subst hv
      rw [decide_eq_true hx]
      refine iteT ⟨_, rfl, a, _, dx, _, _, rfl, h1, T.cl_Row, T.na_Row_expression, f_rexp _ _, rfl, _, rfl, iteF ?_⟩
      refine ⟨_, rfl, a, dx, _, rfl, h1, rfl, a, r, rfl, ha, wf, fun H1 e1 => ⟨_, rfl, l, r, rfl, e1 _ _ hl, wf, rfl, _, rfl, ?_⟩⟩
      rw [decide_eq_true rfl]
      refine iteF ⟨_, rfl, l, _, 2, .str (xT r), rfl, rfl, SqL.of (e1 _ _ hl), at2, rfl, _, rfl, ?_⟩
      rw [str_eqb, decide_eq_true hx]
      exact iteT (q H1 e1)
    | true =>
      have hx : xT r = exT r.ns := by
        unfold xT
        rw [hX]
        rfl
      unfold ExpV at hv
      rw [if_pos hX] at hv
      obtain ⟨x, rfl, hex⟩ := hv
      obtain ⟨dx', t', f', as', hx1, _⟩ := id hex
      rw [decide_eq_false (by rw [hx]; exact exT_ne (wf.x hX))]
      refine iteF ?_
      refine iteF ⟨_, rfl, a, dx, _, rfl, h1, rfl, a, r, rfl, ha, wf, fun H1 e1 => ⟨_, rfl, l, r, rfl, e1 _ _ hl, wf, rfl, _, rfl, ?_⟩⟩
      rw [decide_eq_true rfl]
      have h11 := e1 _ _ h1
      have hx11 := e1 _ _ hx1
      refine iteF ⟨_, rfl, l, _, 2, .str (xT r), rfl, rfl, SqL.of (e1 _ _ hl), at2, rfl, _, rfl, ?_⟩
      rw [str_eqb, decide_eq_false (by rw [hx]; exact exT_ne (wf.x hX))]
      refine iteF ⟨_, rfl, a, _, dx, _, _, rfl, h11, T.cl_Row, T.na_Row_expression, f_rexp _ _, .ref x, _, _, _, true, rfl, .own A.Expression, tyx_ins hx11 T.cl_Expression T.ty_Expression, UL.kit_own, _, rfl, iteT ?_⟩
      refine ⟨_, rfl, a, _, dx, _, _, rfl, h11, T.cl_Row, T.na_Row_expression, f_rexp _ _, x, dx', _, rfl, hx11, rfl, x, r.ns, rfl, hex.mono e1, wf.x hX, fun H2 e2 => ?_⟩
      refine ⟨_, rfl, l, _, 2, .str (xT r), rfl, rfl, SqL.of (e2 _ _ (e1 _ _ hl)), at2, rfl, ?_⟩
      rw [hx]
      rw [show decide (V.str (ofL (tx r.ns (r.ns.length - 1))) = V.str (exT r.ns)) = true from decide_eq_true rfl]
      exact q H2 (e1.trans e2)
end
end K20

set_option Elab.async false
set_option linter.all false
set_option maxRecDepth 100000
namespace K20
open PySem PySem.Spec PyProof.Rows L2 Evl TL UL StX
section
variable {P : Program} {w : World} {K : PySem.W.Frag} {mg : Str → Option Value} {base : Heap} {A : Adr}
/-! ### drawn texts -/
def TxC (z : Str) : Prop := ∀ c ∈ tl z, c < 0x110000 ∧ c ≠ 9
theorem TxC.app {a b : Str} (ha : TxC a) (hb : TxC b) : TxC (a ++ b) := fun c hc => by
  rw [tl_append] at hc
  rcases List.mem_append.mp hc with h | h
  · exact ha c h
  · exact hb c h
theorem TxC.mul {z : Str} (h : TxC z) (n : Int) : TxC (Txt.mul z n) := fun c hc => by
  rw [tl_mul] at hc
  obtain ⟨l, hl, hc⟩ := List.mem_flatten.mp hc
  rw [List.eq_of_mem_replicate hl] at hc
  exact h c hc
theorem mul_len (z : Str) {n : Int} {m : Nat} (h0 : 0 ≤ n) (h : n ≤ (m : Int)) : (Txt.mul z n).length ≤ m * z.length := by
  rw [len_tl, tl_mul, List.length_flatten, List.map_replicate, List.sum_replicate_nat, ← len_tl]
  exact Nat.mul_le_mul_right _ (by omega)
theorem TxC.ok {w : Str} (h : okS w = true) : TxC w := fun c hc => by
  have ha := okS_allC h c hc
  refine ⟨alnum_lt c ha, fun e => ?_⟩
  rw [e] at ha
  exact absurd ha (by decide +kernel)
theorem joinL_mem (S : List Nat) : ∀ (ps : List (List Nat)) (c : Nat), c ∈ joinL S ps → c ∈ S ∨ ∃ p ∈ ps, c ∈ p
  | [], c, h => nomatch h
  | [p], c, h => .inr ⟨p, List.mem_cons_self, h⟩
  | p :: q :: r, c, h => by
    rcases List.mem_append.mp h with h | h
    · exact .inr ⟨p, List.mem_cons_self, h⟩
    · rcases List.mem_append.mp h with h | h
      · exact .inl h
      · rcases joinL_mem S (q :: r) c h with h | ⟨x, hx, h⟩
        · exact .inl h
        · exact .inr ⟨x, List.mem_cons_of_mem _ hx, h⟩
theorem joinL_le (S : List Nat) {m : Nat} : ∀ (ps : List (List Nat)), (∀ p ∈ ps, p.length ≤ m) → (joinL S ps).length ≤ ps.length * (m + S.length)
  | [], _ => Nat.zero_le _
  | [p], h => by
    have := h p List.mem_cons_self
    show p.length ≤ 1 * (m + S.length)
    omega
  | p :: q :: r, h => by
    have h1 := h p List.mem_cons_self
    have h2 := joinL_le S (q :: r) fun x hx => h x (List.mem_cons_of_mem _ hx)
    show (p ++ (S ++ joinL S (q :: r))).length ≤ ((q :: r).length + 1) * (m + S.length)
    rw [List.length_append, List.length_append, Nat.add_mul]
    omega
theorem TxC.join {y : Str} {ps : List Str} (hy : TxC y) (hp : ∀ p ∈ ps, TxC p) : TxC (Txt.join y ps) := fun c hc => by
  rw [join_eq, tl_join] at hc
  rcases joinL_mem _ _ c hc with h | ⟨l, hl, h⟩
  · exact hy c h
  · obtain ⟨p, hm, rfl⟩ := List.mem_map.mp hl
    exact hp p hm c h
theorem join_le {y : Str} {ps : List Str} {m : Nat} (hp : ∀ p ∈ ps, p.length ≤ m) : (Txt.join y ps).length ≤ ps.length * (m + y.length) := by
  rw [len_tl, join_eq, tl_join]
  have := joinL_le (tl y) (m := m) (ps.map tl) fun l hl => by
    obtain ⟨p, hm, rfl⟩ := List.mem_map.mp hl
    rw [← len_tl]
    exact hp p hm
  rw [List.length_map, ← len_tl] at this
  exact this
theorem sum_le_len {m : Nat} : ∀ {ps : List Str}, (∀ p ∈ ps, p.length ≤ m) → (ps.map fun x => x.length).sum ≤ ps.length * m
  | [], _ => Nat.zero_le _
  | p :: r, h => by
    have h1 := h p List.mem_cons_self
    have h2 := sum_le_len (ps := r) fun x hx => h x (List.mem_cons_of_mem _ hx)
    rw [List.map_cons, List.sum_cons, List.length_cons, Nat.add_mul]
    omega
theorem lc_strs (Pz : Str → Prop) {n : Int} {j : Nat} {te : TE} {vs : List Nat} {σ : L2.St} {H1 : Hp} {D : Addr} {Qd : Hp → Prop} (hn : 0 ≤ n ∧ n ≤ 16) (hD : H1 D = none) (hw : ∀ x, wipe ((wipe σ vs).set j (some x)) vs = wipe σ vs)
    (he : ∀ (i : Nat) H', (i : Int) < n → Ex H1 H' → ∀ Q : VK, (∀ z H2, Pz z → Ex H' H2 → Q (.str z) H2) → te ((wipe σ vs).set j (some (.int (i : Int)))) H' Q)
    (hd : ∀ H' (os : List Str), Ex H1 H' → H' D = some (.lst (os.map V.str)) → (os.length : Int) = n → (∀ z ∈ os, Pz z) → Qd H') :
    ∃ W : Nat → Nat → Hp → Prop, (∃ m, W 0 m (upd H1 D (.lst []))) ∧ ∀ i m H, W i m H →
      ((Itr 0 n.toNat).stop i H ∧ Qd H) ∨ ((Itr 0 n.toNat).go i H ∧ ∃ Nx : Hp → Prop, (∀ H', Nx H' → ∃ m', m' < m ∧ W (i + 1) m' H') ∧ ∀ x H', (Itr 0 n.toNat).yld i H x H' → gName j x (wipe σ vs) H' fun σ2 H2 => wipe σ2 vs = wipe σ vs ∧ tYes σ2 H2 fun b H3 =>
        if b = true then te σ2 H3 fun y H4 => ∃ acc, H4 D = some (.lst acc) ∧ acc.length < sizeLine ∧ Nx (upd H4 D (.lst (acc ++ [y]))) else Nx H3) := by
  refine lc_range (lo := 0) (n := n.toNat) (fun i H' => ∃ os : List Str, Ex H1 H' ∧ H' D = some (.lst (os.map V.str)) ∧ os.length = i ∧ ∀ z ∈ os, Pz z) ⟨[], Ex.new hD, upd_same, rfl, fun z h => (nomatch h)⟩ ?_ ?_
  · rintro i H' hi ⟨os, e1, hL, hl, ho⟩
    have e0 : (0 : Int) + (i : Int) = (i : Int) := Int.zero_add _
    show wipe ((wipe σ vs).set j (some (.int ((0 : Int) + (i : Int))))) vs = wipe σ vs ∧ _
    refine ⟨hw _, ?_⟩
    show te ((wipe σ vs).set j (some (.int ((0 : Int) + (i : Int))))) _ _
    rw [e0]
    refine he i H' (by omega) e1 _ fun z H2 hz e2 => ⟨os.map V.str, e2 _ _ hL, by rw [List.length_map]; exact sz_lt (by omega), os ++ [z], (e1.trans e2).mut hD, ?_, by rw [List.length_append, hl]; rfl, fun y hy => ?_⟩
    · rw [upd_same, List.map_append]
      rfl
    · rcases List.mem_append.mp hy with h | h
      · exact ho y h
      · rw [List.mem_singleton.mp h]; exact hz
  · rintro H' ⟨os, e1, hL, hl, ho⟩
    exact hd H' os e1 hL (by omega) ho
/-! ### a text spoilt at one place -/
theorem cut_len (z : Str) (lo hi : Option Int) : (cutS z lo hi).length = min (HT.sIx z.length z.length hi - HT.sIx z.length 0 lo) (z.length - HT.sIx z.length 0 lo) := by
  rw [← ofL_tl z, cut_gen, ofL_len, ofL_len, List.length_take, List.length_drop]
theorem TxC.cut {z : Str} (h : TxC z) (lo hi : Option Int) : TxC (cutS z lo hi) := fun c hc => by
  rw [← ofL_tl z, cut_gen, tl_ofL] at hc
  exact h c (List.mem_of_mem_drop (List.mem_of_mem_take hc))
theorem TxC.strOk {z : Str} (h : TxC z) : PyData.strOk z = true := by
  unfold PyData.strOk
  rw [← Array.all_toList, List.all_eq_true]
  exact fun c hc => decide_eq_true (h c hc).1
theorem cutT_len (z : Str) {i : Int} {n : Nat} (h : i = (n : Int)) : (cutS z none (some i)).length = min n z.length := by
  subst h
  rw [cut_len, HT.sIx_none, HT.sIx_nat]
  omega
theorem cutF_len (z : Str) {i : Int} {n : Nat} (h : i = (n : Int)) : (cutS z (some i) none).length = z.length - min n z.length := by
  subst h
  rw [cut_len, HT.sIx_none, HT.sIx_nat]
  omega
theorem cutM_len (z : Str) {i j : Int} {a b : Nat} (h : i = (a : Int)) (h2 : j = (b : Int)) : (cutS z (some i) (some j)).length = min b z.length - min a z.length := by
  subst h h2
  rw [cut_len, HT.sIx_nat, HT.sIx_nat]
  omega
/-! ### drawn rows -/
theorem good_al {nd : Nd} (h : GoodNd okS nd) : ∀ c ∈ tl (wordOf nd), alnum c = true := by
  cases nd with
  | name w => exact okS_allC (show okS w = true from h)
  | call w os => exact okS_allC h.1
  | op w os =>
    have h : opsT.lookup w = some (os.length : Int) := h
    show ∀ c ∈ tl w, alnum c = true
    rcases ops_cases h with ⟨rfl, _⟩ | ⟨rfl, _⟩ | ⟨rfl, _⟩ <;> decide +kernel
theorem exT_tx {ns : List Nd} (h : OkN ns) : TxC (exT ns) := fun c hc => by
  have P : ∀ c, alnum c = true → c < 0x110000 ∧ c ≠ 9 := fun c ha => ⟨alnum_lt c ha, fun e => by rw [e] at ha; exact absurd ha (by decide +kernel)⟩
  cases hq : decide (c < 0x110000 ∧ c ≠ 9) with
  | true => exact of_decide_eq_true hq
  | false =>
    have hq := of_decide_eq_false hq
    unfold exT at hc
    rw [tl_ofL] at hc
    unfold tx at hc
    rw [List.getD_eq_getElem?_getD] at hc
    cases e : (txs ns)[ns.length - 1]? with
    | none =>
      rw [e] at hc
      cases hc
    | some t =>
      rw [e] at hc
      exact absurd hc (txs_sg (s := c) ⟨fun z => hq (by subst z; decide), fun z => hq (by subst z; decide), fun z => hq (by subst z; decide)⟩ ns [] (fun nd hnd hm => hq (P c (good_al (h.g nd hnd) c hm))) (fun _ h => nomatch h) t (List.mem_of_getElem? e))
theorem rT_tx {r : Rwd} (wf : WfRw r) : TxC (rT r) := by
  have c1 : TxC " " := by unfold TxC; decide +kernel
  have c2 : TxC " = " := by unfold TxC; decide +kernel
  have ck : TxC (kS r.k) := by
    unfold TxC
    cases r.k <;> decide +kernel
  unfold rT
  cases hB : isB r.k with
  | true =>
    rw [if_pos rfl]
    exact (ck.app c1).app (((TxC.ok (wf.b hB)).app c2).app (exT_tx (wf.x (isB_X hB))))
  | false =>
    rw [if_neg (by decide)]
    cases hX : isX r.k with
    | true =>
      rw [if_pos rfl]
      exact (ck.app c1).app (exT_tx (wf.x hX))
    | false =>
      rw [if_neg (by decide)]
      exact ck
theorem good_exT {z : Str} {ns : List Nd} (g : GoodE okS (tl z) 0 ns) : exT ns = z := by
  unfold exT
  rw [good_text g, ofL_tl]
theorem fit_good {rs : List Rw} (h : Fit rs) : ∀ r ∈ newR :: copyR :: rs, good r := fun r hr => by
  rcases List.mem_cons.mp hr with rfl | hr
  · exact good_new
  · rcases List.mem_cons.mp hr with rfl | hr
    · exact good_copy
    · exact h.gd r hr
def k9 : List Str := ["use", "val", "ref", "set", "block", "if", "else", "loop", "end"]
theorem k9_kS : ∀ w ∈ k9, ∃ k, w = kS k := fun w hw => by
  unfold k9 at hw
  simp only [List.mem_cons, List.not_mem_nil, or_false] at hw
  rcases hw with rfl | rfl | rfl | rfl | rfl | rfl | rfl | rfl | rfl
  · exact ⟨.use, rfl⟩
  · exact ⟨.val, rfl⟩
  · exact ⟨.ref, rfl⟩
  · exact ⟨.set, rfl⟩
  · exact ⟨.blk, rfl⟩
  · exact ⟨.iff, rfl⟩
  · exact ⟨.els, rfl⟩
  · exact ⟨.lop, rfl⟩
  · exact ⟨.fin, rfl⟩
def spDrow : Sp := fun vs H Q _ => ∃ (d N F : Addr) (most : Int) (ws : List Str) (fs : List Addr) (rs : List Rw), vs = [.ref d, .ref N, .ref F, .int most] ∧ H d = some (DrO d) ∧ H N = some (.lst (ws.map V.str)) ∧ (∀ w ∈ ws, okS w = true) ∧ ws.length ≤ 100 ∧ RowsAt H F fs (newR :: copyR :: rs) ∧ Fit rs ∧ 1 ≤ most ∧ most ≤ 7 ∧
  ∀ p r H', Ex H H' → H' p = some (.lst (dueV r)) → WfRw r → (rT r).length ≤ 115 → Q (.ref p) H'
theorem ok_ldrow (T : Tx0 w K mg A) : FnOk P w K mg base CX0 3 A.ldrow A.d_ldrow p_ldrow spDrow := by
  refine T.F_ldrow.ok sc_ldrow (fun vs H Q E h => ?_) (fun cdv Ar outer s H vs Q E hr h => ?_)
  · obtain ⟨d, N, F, most, ws, fs, rs, rfl, _⟩ := h
    rfl
  · obtain ⟨d, N, F, most, ws, fs, rs, rfl, hd, hN, hws, hwl, hF, hfit, hm0, hm1, q⟩ := h
    refine ⟨_, (pss_cons (ps_set (i := 4) sc_ldrow.nd rfl (Or.inl rfl) (pe_ix ix_list (pe_lst (pa_cons pe_str (pa_cons pe_str (pa_cons pe_str (pa_cons pe_str (pa_cons pe_str (pa_cons pe_str (pa_cons pe_str (pa_cons pe_str (pa_cons pe_str pa_nil)))))))))) (pe_call (ok_take T) (hr.mono (by decide)) (by rfl) T.g_take T.F_take.kp T.b_take .nil pass0 (pa_cons (pv 0) (pa_cons pe_int pa_nil))) (fun _ _ => rfl)))
      (pss_cons (ps_if (pt_cmpR op_in_seq (pv 4) (pe_lst (pa_cons pe_str (pa_cons pe_str (pa_cons pe_str (pa_cons pe_str (pa_cons pe_str pa_nil)))))) (by rfl)) (pss_one (ps_ret (pe_lst (pa_cons (pv 4) (pa_cons pe_str (pa_cons pe_str pa_nil)))))) pss_nil)
      (pss_cons (ps_set (i := 5) sc_ldrow.nd rfl (Or.inl rfl) (pe_ix ix_list (pe_call (ok_expression T) (hr.mono (by decide)) (by rfl) T.g_expression T.F_expression.kp T.b_expression .nil pass0 (pa_cons (pv 0) (pa_cons (pv 1) (pa_cons (pv 2) (pa_cons (pv 3) pa_nil))))) pe_int (fun _ _ => rfl)))
      (pss_cons (ps_if (pt_cmpR op_eq (pv 4) pe_str (nomark _)) (pss_one (ps_ret (pe_lst (pa_cons (pv 4) (pa_cons pe_str (pa_cons (pv 5) pa_nil)))))) pss_nil)
      (pss_one (ps_ret (pe_lst (pa_cons (pv 4) (pa_cons (pe_call (ok_name T) (hr.mono (by decide)) (by rfl) T.g_name T.F_name.kp T.b_name .nil pass0 (pa_cons (pv 0) (pa_cons (pe_op op_add pe_int (pe_call (ok_take T) (hr.mono (by decide)) (by rfl) T.g_take T.F_take.kp T.b_take .nil pass0 (pa_cons (pv 0) (pa_cons pe_int pa_nil)))) pa_nil))) (pa_cons (pv 5) pa_nil)))))))))), ?_⟩
    refine ⟨sz_of (by show 9 ≤ 100000; decide), fun p9 hp9 => ⟨_, rfl, d, _, rfl, (Ex.new hp9) _ _ hd, by decide, fun m m0 m1 => ?_⟩⟩
    obtain ⟨w, hat, hw⟩ := at_strs (xs := k9) m0 m1
    obtain ⟨k, rfl⟩ := k9_kS w hw
    refine ⟨p9, _, m, .str (kS k), rfl, rfl, SqL.of upd_same, hat, ?_⟩
    have e1 := Ex.new (o := .lst (k9.map V.str)) hp9
    have hd1 := e1 _ _ hd
    generalize hH1 : upd H p9 (.lst (k9.map V.str)) = H1 at e1 hd1
    have e1' : upd H p9 (.lst [.str "use", .str "val", .str "ref", .str "set", .str "block", .str "if", .str "else", .str "loop", .str "end"]) = H1 := hH1
    rw [e1']
    refine ⟨_, rfl, sz_of (by show 5 ≤ 100000; decide), fun q5 hq5 => ⟨q5, k_BARE, rfl, .inl (SqL.of upd_same), rfl, by decide, _, rfl, ?_⟩⟩
    show if inV (.str (kS k)) k_BARE = true then _ else _
    have e2 := e1.trans (Ex.new (o := .lst k_BARE) hq5)
    have e2' : Ex H (upd H1 q5 (.lst [.str "block", .str "if", .str "else", .str "loop", .str "end"])) := e2
    generalize upd H1 q5 (.lst [.str "block", .str "if", .str "else", .str "loop", .str "end"]) = H2 at e2' ⊢
    have kl := kS_len k
    rw [k_bare]
    cases hX : isX k with
    | false =>
      refine iteT ⟨_, rfl, sz_of (by show 3 ≤ 100000; decide), fun x hx => q x ⟨k, "", []⟩ _ (e2'.trans (Ex.new hx)) ?_ (bare_wf hX) ?_⟩
      · rw [upd_same]
        unfold dueV xT
        rw [if_neg (by show ¬ isX k = true; rw [hX]; decide)]
      · rw [show rT ⟨k, "", []⟩ = kS k by
          unfold rT
          rw [if_neg (by show ¬ isB k = true; intro z; rw [isB_X z] at hX; cases hX), if_neg (by show ¬ isX k = true; rw [hX]; decide)]]
        omega
    | true =>
      have hF2 : RowsAt H2 F fs (newR :: copyR :: rs) := ⟨e2' _ _ hF.1, rows_mono e2' hF.2⟩
      refine iteF ⟨_, rfl, _, rfl, _, rfl, _, rfl, d, N, F, most, ws, fs, rs, rfl, e2' _ _ hd, e2' _ _ hN, hws, hwl, hF2, fit_good hfit, hm0, by omega, fun p N' as z ns H3 e3 hp hN' hA g hz hns hcl f1 f2 f3 => ?_⟩
      have okn := okN_of g (by omega)
      have ez := good_exT g
      have e3' := e2'.trans e3
      have hl : (exT ns).length ≤ 98 := by rw [ez]; omega
      refine ⟨p, _, 1, .str z, rfl, rfl, SqL.of hp, atI_nat (j := 1) rfl, ?_⟩
      rw [← ez]
      refine ⟨_, rfl, rfl, _, rfl, ?_⟩
      rw [str_eqb]
      have u1 : (" " : Str).length = 1 := by decide +kernel
      have u3 : (" = " : Str).length = 3 := by decide +kernel
      have xe : ∀ nm : Str, xT ⟨k, nm, ns⟩ = exT ns := fun nm => by
        unfold xT
        rw [if_pos (show isX k = true from hX)]
      cases hB : isB k with
      | false =>
        have hu : k = .use := by
          revert hB hX
          cases k <;> decide
        rw [decide_eq_true (by rw [hu]; rfl)]
        refine iteT ⟨_, rfl, _, rfl, sz_of (by show 3 ≤ 100000; decide), fun x hx => q x ⟨k, "", ns⟩ _ (e3'.trans (Ex.new hx)) ?_ ?_ ?_⟩
        · rw [upd_same]
          unfold dueV
          rw [xe]
        · exact ⟨fun _ => okn, (fun y => by rw [show isX k = true from hX] at y; cases y), (fun y => by rw [show isB k = false from hB] at y; cases y), fun _ => rfl⟩
        · unfold rT
          rw [if_neg (by show ¬ isB k = true; rw [hB]; decide), if_pos (show isX k = true from hX), len_app, len_app, u1]
          show (kS k).length + 1 + (exT ns).length ≤ 115
          omega
      | true =>
        have hne : k ≠ .use := fun y => by rw [y] at hB; cases hB
        rw [show decide (kS k = "use") = false from decide_eq_false fun y => hne (kS_inj (k' := .use) y)]
        refine iteF ⟨_, rfl, _, rfl, _, rfl, d, _, rfl, e3' _ _ hd, by decide, fun n n0 n1 => ⟨30, n, rfl, rfl, d, 30 + n, rfl, e3' _ _ hd, by omega, by omega, fun nm1 H4 hok _ e4 => ⟨_, rfl, sz_of (by show 3 ≤ 100000; decide), fun x hx => q x ⟨k, nm1, ns⟩ _ ((e3'.trans e4).trans (Ex.new hx)) ?_ ?_ ?_⟩⟩⟩
        · rw [upd_same]
          unfold dueV
          rw [xe]
        · exact ⟨fun _ => okn, (fun y => by rw [show isX k = true from hX] at y; cases y), (fun _ => hok), fun y => by rw [show isB k = true from hB] at y; cases y⟩
        · have := okS_len hok
          unfold rT
          rw [if_pos (show isB k = true from hB), len_app, len_app, len_app, len_app, u1, u3]
          show (kS k).length + 1 + (nm1.length + 3 + (exT ns).length) ≤ 115
          omega
def sgnS : Str := "  (),A0afnt_-.=;/[]{}~!\n"
theorem sgn_ok : ∀ c ∈ tl sgnS, c < 0x110000 ∧ c ≠ 9 := by decide +kernel
theorem at_cp {l : List Nat} {m : Int} (m0 : 0 ≤ m) (m1 : m < (l.length : Int)) : ∃ c, atI l m = some c ∧ c ∈ l := by
  obtain ⟨n, rfl⟩ := Int.eq_ofNat_of_zero_le m0
  have h : n < l.length := by omega
  exact ⟨l[n], atI_nat (List.getElem?_eq_getElem h), List.getElem_mem h⟩
theorem cutV_upto (xs : List V) (n : Nat) : cutV xs none (some (n : Int)) = xs.take n := by
  unfold cutV
  rw [HT.sIx_none, HT.sIx_nat, List.drop_zero, Nat.sub_zero]
  by_cases h : n ≤ xs.length
  · rw [Nat.min_eq_left h]
  · rw [Nat.min_eq_right (by omega), List.take_of_length_le (by omega), List.take_of_length_le (by omega)]
theorem jn_len : ∀ {ws : List Str}, ws ≠ [] → (Txt.join " " ws).length + 1 = (ws.map fun x => x.length).sum + ws.length
  | [], h => absurd rfl h
  | [x], _ => by
    rw [join_eq]
    show x.length + 1 = (x.length + 0) + 1
    omega
  | x :: y :: r, _ => by
    have ih := jn_len (ws := y :: r) (by simp)
    rw [join_eq] at ih ⊢
    show (x ++ " " ++ Str.join " " (y :: r)).length + 1 = _
    rw [len_app, len_app, List.map_cons, List.sum_cons, List.length_cons, show (" " : Str).length = 1 by decide +kernel]
    omega
def spSpoiltR : Sp := fun vs H Q _ => ∃ (d : Addr) (z : Str), vs = [.ref d, .str z] ∧ H d = some (DrO d) ∧ z.length ≤ 115 ∧ TxC z ∧ ∀ y H', Ex H H' → y.length ≤ 240 → TxC y → Q (.str y) H'
theorem ok_spoilt (T : Tx0 w K mg A) : FnOk P w K mg base CX0 2 A.spoilt A.d_spoilt p_spoilt spSpoiltR := by
  refine T.F_spoilt.ok sc_spoilt (fun vs H Q E h => ?_) (fun cdv Ar outer s H vs Q E hr h => ?_)
  · obtain ⟨d, z, rfl, _⟩ := h
    rfl
  · obtain ⟨d, z, rfl, hd, hl, hz, k⟩ := h
    refine ⟨_, (pss_cons (ps_set (i := 2) sc_spoilt.nd rfl (Or.inl rfl) (pe_call (ok_take T) (hr.mono (by decide)) (by rfl) T.g_take T.F_take.kp T.b_take .nil pass0 (pa_cons (pv 0) (pa_cons pe_int pa_nil))))
      (pss_cons (ps_set (i := 3) sc_spoilt.nd rfl (Or.inl rfl) (pe_call (ok_take T) (hr.mono (by decide)) (by rfl) T.g_take T.F_take.kp T.b_take .nil pass0 (pa_cons (pv 0) (pa_cons (pe_op op_add (pe_callB call_len_str (by rfl) T.m_len PySem.boot_len (pa_cons (pv 1) pa_nil)) pe_int) pa_nil))))
      (pss_cons (ps_set (i := 4) sc_spoilt.nd rfl (Or.inl rfl) (pe_ix ix_str pe_str (pe_call (ok_take T) (hr.mono (by decide)) (by rfl) T.g_take T.F_take.kp T.b_take .nil pass0 (pa_cons (pv 0) (pa_cons pe_int pa_nil))) (fun _ _ => rfl)))
      (pss_cons (ps_set (i := 5) sc_spoilt.nd rfl (Or.inl rfl) (pe_bm PySem.F.plainAttrs_str PySem.F.slot_str_split PySem.F.type_str_split mt_split (pv 1) (pa_cons pe_str pa_nil)))
      (pss_cons (ps_if (pt_cmpR op_eq (pv 2) pe_int (nomark _)) (pss_one (ps_ret (pe_op op_add_str (pe_slice sl_str (pv 1) po_none (po_some (pv 3))) (pe_slice sl_str (pv 1) (po_some (pe_op op_add (pv 3) pe_int)) po_none)))) pss_nil)
      (pss_cons (ps_if (pt_cmpR op_eq (pv 2) pe_int (nomark _)) (pss_one (ps_ret (pe_op op_add_str (pe_slice sl_str (pv 1) po_none (po_some (pe_op op_add (pv 3) pe_int))) (pe_slice sl_str (pv 1) (po_some (pv 3)) po_none)))) pss_nil)
      (pss_cons (ps_if (pt_cmpR op_eq (pv 2) pe_int (nomark _)) (pss_one (ps_ret (pe_op op_add_str (pe_op op_add_str (pe_slice sl_str (pv 1) po_none (po_some (pv 3))) (pv 4)) (pe_slice sl_str (pv 1) (po_some (pe_op op_add (pv 3) pe_int)) po_none)))) pss_nil)
      (pss_cons (ps_if (pt_cmpR op_eq (pv 2) pe_int (nomark _)) (pss_one (ps_ret (pe_op op_add_str (pe_op op_add_str (pe_slice sl_str (pv 1) po_none (po_some (pv 3))) (pv 4)) (pe_slice sl_str (pv 1) (po_some (pv 3)) po_none)))) pss_nil)
      (pss_cons (ps_if (pt_cmpR op_eq (pv 2) pe_int (nomark _)) (pss_one (ps_ret (pe_op op_add_str (pe_op op_add_str (pv 1) pe_str) (pe_ix ix_list (pv 5) (pe_op op_mod (pe_callTy call_int1 (by rfl) T.m_int (by decide +kernel) (pa_cons (pv 3) pa_nil)) (pe_callB call_len_seq (by rfl) T.m_len PySem.boot_len (pa_cons (pv 5) pa_nil))) (fun _ _ => rfl))))) pss_nil)
      (pss_cons (ps_if (pt_cmpR op_eq (pv 2) pe_int (nomark _)) (pss_one (ps_ret (pe_bm PySem.F.plainAttrs_str PySem.F.slot_str_join PySem.F.type_str_join mt_join pe_str (pa_cons (pe_slice sl_list (pv 5) (po_some pe_int) po_none) pa_nil)))) pss_nil)
      (pss_cons (ps_if (pt_cmpR op_eq (pv 2) pe_int (nomark _)) (pss_one (ps_ret (pe_bm PySem.F.plainAttrs_str PySem.F.slot_str_join PySem.F.type_str_join mt_join pe_str (pa_cons (pe_op op_cat (pe_slice sl_list (pv 5) (po_some pe_int) po_none) (pe_slice sl_list (pv 5) po_none (po_some pe_int))) pa_nil)))) pss_nil)
      (pss_one (ps_ret (pv 1)))))))))))))), ?_⟩
    refine ⟨_, rfl, d, _, rfl, hd, by decide, fun c c0 c1 => ?_⟩
    refine ⟨_, rfl, _, rfl, z, rfl, sz_of (by omega), _, _, rfl, rfl, d, _, rfl, hd, by omega, fun a a0 a1 => ?_⟩
    obtain ⟨n, rfl⟩ := Int.eq_ofNat_of_zero_le a0
    refine ⟨_, rfl, d, _, rfl, hd, by decide, fun m m0 m1 => ?_⟩
    obtain ⟨x, hx, hxm⟩ := at_cp (l := tl sgnS) m0 m1
    have tx' : TxC (⟨#[x]⟩ : Str) := fun c hc => by
      have : c = x := List.mem_singleton.mp hc
      rw [this]; exact sgn_ok x hxm
    refine ⟨sgnS, m, x, rfl, rfl, by decide +kernel, hx, ?_⟩
    obtain ⟨ws, w1, w2, w3⟩ := words_of z
    have hsp := split_sp w1 w2 w3
    have wl := (words_ok z).1
    have wn := (words_ok z).2
    rw [hsp] at wl wn
    have wt : ∀ w ∈ ws, TxC w := fun w hw c hc => hz c (by rw [← w3, join_eq]; exact mem_join hw hc)
    refine ⟨_, rfl, rfl, _, _, rfl, rfl, by decide, sz_of (by omega), fun p hp => ?_⟩
    rw [hsp]
    have e1 := Ex.new (o := .lst (ws.map V.str)) hp
    have hp1 : upd H p (.lst (ws.map V.str)) p = some (.lst (ws.map V.str)) := upd_same
    generalize upd H p (.lst (ws.map V.str)) = H1 at e1 hp1 ⊢
    have n1 : ((n : Nat) : Int) + 1 = ((n + 1 : Nat) : Int) := rfl
    have t0 := cutT_len z (rfl : ((n : Nat) : Int) = (n : Int))
    have t1 := cutT_len z n1
    have f0 := cutF_len z (rfl : ((n : Nat) : Int) = (n : Int))
    have f1 := cutF_len z n1
    have lx : (⟨#[x]⟩ : Str).length = 1 := rfl
    have u1 : (" " : Str).length = 1 := by decide +kernel
    have c1' : TxC " " := by unfold TxC; decide +kernel
    refine ⟨_, rfl, rfl, _, rfl, ite2 (fun _ => ?_) (fun _ => ?_)⟩
    · refine ⟨_, rfl, _, rfl, _, rfl, z, rfl, sz_of (by omega), _, rfl, _, rfl, _, _, rfl, rfl, _, rfl, z, rfl, sz_of (by omega), _, _, rfl, rfl, sz_of (by rw [t0, f1]; omega), ?_⟩
      exact k _ H1 e1 (by rw [len_app, t0, f1]; omega) ((hz.cut _ _).app (hz.cut _ _))
    refine ⟨_, rfl, rfl, _, rfl, ite2 (fun _ => ?_) (fun _ => ?_)⟩
    · refine ⟨_, rfl, _, rfl, _, _, rfl, rfl, _, rfl, z, rfl, sz_of (by omega), _, rfl, _, rfl, _, rfl, z, rfl, sz_of (by omega), _, _, rfl, rfl, sz_of (by rw [t1, f0]; omega), ?_⟩
      exact k _ H1 e1 (by rw [len_app, t1, f0]; omega) ((hz.cut _ _).app (hz.cut _ _))
    refine ⟨_, rfl, rfl, _, rfl, ite2 (fun _ => ?_) (fun _ => ?_)⟩
    · refine ⟨_, rfl, _, rfl, _, rfl, z, rfl, sz_of (by omega), _, rfl, _, _, rfl, rfl, sz_of (by rw [t0, lx]; omega), _, rfl, _, rfl, _, _, rfl, rfl, _, rfl, z, rfl, sz_of (by omega), _, _, rfl, rfl, sz_of (by rw [len_app, t0, f1, lx]; omega), ?_⟩
      exact k _ H1 e1 (by rw [len_app, len_app, t0, f1, lx]; omega) (((hz.cut _ _).app tx').app (hz.cut _ _))
    refine ⟨_, rfl, rfl, _, rfl, ite2 (fun _ => ?_) (fun _ => ?_)⟩
    · refine ⟨_, rfl, _, rfl, _, rfl, z, rfl, sz_of (by omega), _, rfl, _, _, rfl, rfl, sz_of (by rw [t0, lx]; omega), _, rfl, _, rfl, _, rfl, z, rfl, sz_of (by omega), _, _, rfl, rfl, sz_of (by rw [len_app, t0, f0, lx]; omega), ?_⟩
      exact k _ H1 e1 (by rw [len_app, len_app, t0, f0, lx]; omega) (((hz.cut _ _).app tx').app (hz.cut _ _))
    have wpos := List.length_pos_iff.mpr w1
    refine ⟨_, rfl, rfl, _, rfl, ite2 (fun _ => ?_) (fun _ => ?_)⟩
    · obtain ⟨w, hat, hw⟩ := at_strs (xs := ws) (n := (n : Int) % ((ws.length : Nat) : Int)) (Int.emod_nonneg _ (by omega)) (Int.emod_lt_of_pos _ (by omega))
      have hwl := wl w hw
      refine ⟨_, rfl, _, _, rfl, rfl, sz_of (by omega), _, rfl, _, rfl, .inl ⟨_, rfl, _, rfl, p, _, rfl, .inl (SqL.of hp1), _, _, rfl, rfl, (by rw [List.length_map]; omega), p, _, _, .str w, rfl, rfl, SqL.of hp1, ?_, _, _, rfl, rfl, sz_of (by rw [len_app, u1]; omega), ?_⟩⟩
      · rw [List.length_map]
        exact hat
      · exact k _ H1 e1 (by rw [len_app, len_app, u1]; omega) ((hz.app c1').app (wt w hw))
    obtain ⟨w, r, rfl⟩ : ∃ w r, ws = w :: r := by
      cases ws with
      | nil => exact absurd rfl w1
      | cons w r => exact ⟨w, r, rfl⟩
    have jz := jn_len (ws := w :: r) (by simp)
    rw [w3, List.map_cons, List.sum_cons, List.length_cons] at jz
    have jr : (Txt.join " " r).length ≤ z.length := by
      cases r with
      | nil => rw [show (Txt.join " " []).length = 0 by rw [join_eq]; rfl]; omega
      | cons x y =>
        have := jn_len (ws := x :: y) (by simp)
        omega
    have jq : (Txt.join " " (r ++ [w])).length ≤ z.length := by
      have := jn_len (ws := r ++ [w]) (by simp)
      rw [List.map_append, List.sum_append, List.length_append, List.length_singleton, List.map_singleton, List.sum_singleton] at this
      omega
    have sr : ∀ ps : List Str, (∀ x ∈ ps, x ∈ w :: r) → ps.length ≤ 200 → (ps.map fun x => x.length).sum + ps.length * (" " : Str).length ≤ 16777216 := fun ps hp hl' => by
      have := sum_le_len (m := 115) (ps := ps) fun x hx => Nat.le_trans (wl x (hp x hx)) hl
      rw [u1]
      have : ps.length * 115 ≤ 200 * 115 := Nat.mul_le_mul_right _ hl'
      omega
    rw [List.length_cons] at wn
    have hcd : cutV ((w :: r).map V.str) (some 1) none = r.map V.str := by
      rw [show (some 1 : Option Int) = some ((1 : Nat) : Int) from rfl, cut_from]
      rfl
    have hct : cutV ((w :: r).map V.str) none (some 1) = [V.str w] := by
      rw [show (some 1 : Option Int) = some ((1 : Nat) : Int) from rfl, cutV_upto]
      rfl
    refine ⟨_, rfl, rfl, _, rfl, ite2 (fun _ => ?_) (fun _ => ?_)⟩
    · refine ⟨rfl, _, rfl, 1, rfl, p, _, rfl, SqL.of hp1, fun s2 hs2 => ?_⟩
      rw [hcd]
      refine ⟨" ", s2, r, rfl, rfl, .inl (SqL.of upd_same), sr r (fun x hx => List.mem_cons_of_mem _ hx) (by omega), ?_⟩
      exact k _ _ (e1.trans (Ex.new hs2)) (by omega) (TxC.join c1' fun x hx => wt x (List.mem_cons_of_mem _ hx))
    refine ⟨_, rfl, rfl, _, rfl, ite2 (fun _ => ?_) (fun _ => ?_)⟩
    · refine ⟨rfl, _, rfl, 1, rfl, p, _, rfl, SqL.of hp1, fun s2 hs2 => ?_⟩
      rw [hcd]
      have e2 := Ex.new (o := .lst (r.map V.str)) hs2
      refine ⟨_, rfl, 1, rfl, p, _, rfl, SqL.of (e2 _ _ hp1), fun s3 hs3 => ?_⟩
      rw [hct]
      have e3 := Ex.new (o := .lst [V.str w]) hs3
      refine ⟨s2, s3, _, _, rfl, rfl, e3 _ _ upd_same, upd_same, sz_of (by rw [List.length_map, List.length_singleton]; omega), fun s4 hs4 => ?_⟩
      refine ⟨" ", s4, r ++ [w], rfl, rfl, .inl (SqL.of (by rw [upd_same, List.map_append]; rfl)), sr (r ++ [w]) (fun x hx => ?_) (by rw [List.length_append, List.length_singleton]; omega), ?_⟩
      · rcases List.mem_append.mp hx with hx | hx
        · exact List.mem_cons_of_mem _ hx
        · rw [List.mem_singleton.mp hx]
          exact List.mem_cons_self
      · refine k _ _ (((e1.trans e2).trans e3).trans (Ex.new hs4)) (by omega) (TxC.join c1' fun x hx => wt x ?_)
        rcases List.mem_append.mp hx with hx | hx
        · exact List.mem_cons_of_mem _ hx
        · rw [List.mem_singleton.mp hx]
          exact List.mem_cons_self
    exact ⟨_, rfl, k _ H1 e1 (by omega) hz⟩
end
end K20

set_option Elab.async false
set_option linter.all false
set_option maxRecDepth 100000
namespace K20
open PySem PySem.Spec PyProof.Rows L2 Evl TL UL StX
section
variable {P : Program} {w : World} {K : PySem.W.Frag} {mg : Str → Option Value} {base : Heap} {A : Adr}
/-! ### a text is read as it is due -/
theorem lay_strs : ∀ zs : List Str, (∀ z ∈ zs, PyData.strOk z = true) → PyData.canLayAll0 (zs.map PyData.str) = true ∧ PyData.depthAll (zs.map PyData.str) ≤ 1
  | [], _ => ⟨rfl, by simp [PyData.depthAll]⟩
  | z :: r, h => by
    obtain ⟨h1, h2⟩ := lay_strs r fun y hy => h y (List.mem_cons_of_mem _ hy)
    refine ⟨?_, ?_⟩
    · show (PyData.canLay0 (.str z) && PyData.canLayAll0 (r.map PyData.str)) = true
      rw [h1, Bool.and_true]
      simp only [PyData.canLay0]
      exact h z List.mem_cons_self
    · simp only [List.map_cons, PyData.depthAll, PyData.depth]
      omega
theorem shaped_strs {zs : List Str} (h : ∀ z ∈ zs, PyData.strOk z = true) : SeqAt.shaped (.list (zs.map PyData.str)) = true := by
  obtain ⟨h1, h2⟩ := lay_strs zs h
  unfold SeqAt.shaped
  rw [show PyData.canLay0 (.list (zs.map PyData.str)) = true by unfold PyData.canLay0; exact h1, Bool.true_and]
  refine decide_eq_true ?_
  simp only [PyData.depth]
  omega
def spRholds (K : PySem.W.Frag) : Sp := fun vs H Q _ => ∃ (z : Str), vs = [.str z] ∧ z.length ≤ 400 ∧ TxC z ∧ ∀ H', Ex H H' → Q (.bl true) H'
theorem ok_rholds (T : Tx0 w K mg A) : FnOk P w K mg base CX0 16 A.rholds A.d_rholds p_rholds (spRholds K) := by
  refine T.F_rholds.ok sc_rholds (fun vs H Q E h => ?_) (fun cdv Ar outer s H vs Q E hr h => ?_)
  · obtain ⟨z, rfl, _⟩ := h
    rfl
  · obtain ⟨z, rfl, hz, ht, k⟩ := h
    refine ⟨_, (pss_cons (ps_set (i := 1) sc_rholds.nd rfl (Or.inl rfl) (pe_call (ok_lrrow T) (hr.mono (by decide)) (by rfl) T.g_lrrow T.F_lrrow.kp T.b_lrrow .nil pass0 (pa_cons (pv 0) pa_nil)))
      (pss_cons (ps_set (i := 2) sc_rholds.nd rfl (Or.inl rfl) pe_non)
      (pss_cons (ps_set (i := 3) sc_rholds.nd rfl (Or.inl rfl) (pe_lst (pa_cons pe_str (pa_cons pe_str pa_nil))))
      (pss_cons (UL.ps_try_asMany (i := 4) rfl rfl sc_rholds.nd rfl rfl takes0 (fun W pn xe tk _ => (pss_one (ps_set (i := 2) sc_rholds.nd rfl (Or.inl rfl) (UL.pe_smS (E := WE W) (pe_glob (v := .ref A.Row) (by rfl) T.g_Row rfl) T.sm_row_read (ok_row_read T) (hr.mono (by decide)) T.b_row_read (fun σ => passAt tk σ) (pa_cons (pv 0) pa_nil))))) (.cons ⟨rfl, by decide, Or.inl T.g_InvalidRow⟩ (fun a oe cls d pn hz hf => (pss_one (ps_set (i := 3) sc_rholds.nd rfl (Or.inl rfl) (pe_lst (pa_cons pe_str (pa_cons (pe_xf T.ex_InvalidRow.xf T.ex_InvalidRow.nw hz hf (pv 4)) pa_nil)))))) (.cons ⟨rfl, by decide, Or.inl T.g_TooLarge⟩ (fun a oe cls d pn hz hf => (pss_one (ps_set (i := 3) sc_rholds.nd rfl (Or.inl rfl) (pe_lst (pa_cons pe_str (pa_cons (pe_xf T.ex_TooLarge.xf T.ex_TooLarge.nw hz hf (pv 4)) pa_nil)))))) .nil)))
      (pss_cons (ps_if (pt_cmpR op_in_seq (pe_ix ix_list (pv 1) pe_int (fun _ _ => rfl)) (pe_lst (pa_cons pe_str (pa_cons pe_str pa_nil))) (by rfl)) (pss_one (ps_ret (pe_cmpR (op_eqD hr.units) (pv 3) (pe_lst (pa_cons (pe_ix ix_list (pv 1) pe_int (fun _ _ => rfl)) (pa_cons (pe_ix ix_list (pv 1) pe_int (fun _ _ => rfl)) pa_nil))) (nomark _)))) pss_nil)
      (pss_one (ps_ret (pe_and (pe_cmpR op_eq (pe_ix ix_list (pv 3) pe_int (fun _ _ => rfl)) pe_str (nomark _)) (pe_one (pe_call (ok_lis T) (hr.mono (by decide)) (by rfl) T.g_lis T.F_lis.kp T.b_lis .nil pass0 (pa_cons (pv 2) (pa_cons (pv 1) pa_nil)))))))))))), ?_⟩
    have h9 : 9 ∉ tl z := fun m => (ht 9 m).2 rfl
    have hs := ht.strOk
    refine ⟨_, rfl, z, rfl, hz, h9, fun due H1 e1 hdue => ?_⟩
    refine ⟨sz_of (by show 2 ≤ 100000; decide), fun T0 hT0 => ?_⟩
    have e2 := e1.trans (Ex.new (o := .lst [.str "read", .str ""]) hT0)
    have hdue2 := (Ex.new (o := .lst [.str "read", .str ""]) hT0) _ _ hdue
    have hT : upd H1 T0 (.lst [.str "read", .str ""]) T0 = some (.lst [.str "read", .str ""]) := upd_same
    generalize upd H1 T0 (.lst [.str "read", .str ""]) = H2 at e2 hT hdue2 ⊢
    have dp2 : ∀ {H : Hp} (z1 z2 : Str), DpAll K H [.str z1, .str z2] [.str z1, .str z2] := fun z1 z2 => .cons (.str z1) (.cons (.str z2) .nil)
    have sh2 : ∀ {z1 z2 : Str}, PyData.strOk z1 = true → PyData.strOk z2 = true → SeqAt.shaped (.list [.str z1, .str z2]) = true := fun {z1 z2} a b => shaped_strs (zs := [z1, z2]) fun y hy => by
      rcases List.mem_cons.mp hy with rfl | hy
      · exact a
      · rw [List.mem_singleton.mp hy]; exact b
    have two : ∀ (a b c : Str) (H3 : Hp) (T1 : Addr) (v4 : Option V), (a = "none" ∨ a = "large") → PyData.strOk a = true → PyData.strOk b = true → Ex H H3 → H3 due = some (.lst [.str a, .str b, .str c]) → H3 T1 = some (.lst [.str a, .str b]) →
        (tSeq (tIfS (tTest (tOp (rIn K false) (tOp (rIxL K) (tVar 1) (tC (.int 0))) (tLst (tCons (tC (.str "none")) (tCons (tC (.str "large")) tNil))))) (tRet (tOp (rEqD K) (tVar 3) (tLst (tCons (tOp (rIxL K) (tVar 1) (tC (.int 0))) (tCons (tOp (rIxL K) (tVar 1) (tC (.int 1))) tNil))))) tNext) (tRet (tAndV (tOp rEq (tOp (rIxL K) (tVar 3) (tC (.int 0))) (tC (.str "read"))) (tCall (spLis A.Row A.Expression) [] E0 (tCons (tVar 2) (tCons (tVar 1) tNil)))))) { nx := fun x H' => Q V.non H', rt := Q } [some (.str z), some (.ref due), some .non, some (.ref T1), v4] H3 := fun a b c H3 T1 v4 ha o1 o2 e3 hd hT1 => by
      refine ⟨_, rfl, due, _, 0, .str a, rfl, rfl, SqL.of hd, atI_nat (j := 0) rfl, sz_of (by show 2 ≤ 100000; decide), fun q hq => ?_⟩
      have e4 := Ex.new (o := .lst [.str "none", .str "large"]) hq
      refine ⟨q, [.str "none", .str "large"], rfl, .inl (SqL.of upd_same), rfl, by decide, _, rfl, ?_⟩
      have hin : inV (.str a) [.str "none", .str "large"] = true := by
        rcases ha with rfl | rfl <;> decide +kernel
      show if inV (.str a) [.str "none", .str "large"] = true then _ else _
      rw [hin]
      refine iteT ⟨_, rfl, _, rfl, due, _, 0, .str a, rfl, rfl, SqL.of (e4 _ _ hd), atI_nat (j := 0) rfl, _, rfl, due, _, 1, .str b, rfl, rfl, SqL.of (e4 _ _ hd), atI_nat (j := 1) rfl, sz_of (by show 2 ≤ 100000; decide), fun D hD => ?_⟩
      have e5 := Ex.new (o := .lst [.str a, .str b]) hD
      refine ⟨_, _, .lst (SqL.of (e5 _ _ (e4 _ _ hT1))) (dp2 _ _), .lst (SqL.of upd_same) (dp2 _ _), sh2 o1 o2, sh2 o1 o2, ?_⟩
      rw [SeqAt.eqv_refl _ (SeqAt.canLay_of_shaped (sh2 o1 o2))]
      exact k _ ((e3.trans e4).trans e5)
    have dk : ∀ {r : Rwd}, inV (.str (kS r.k)) [.str "none", .str "large"] = false := fun {r} => by cases r.k <;> decide +kernel
    refine ⟨rfl, _, rfl, z, rfl, hz, ?_⟩
    cases hL : lineO z with
    | row r =>
      intro wf a H3 e3 hr
      rw [hL] at hdue2
      have hd3 : H3 due = some (.lst (dueV r)) := e3 _ _ hdue2
      have e23 := e2.trans e3
      refine ⟨_, rfl, due, _, 0, .str (kS r.k), rfl, rfl, SqL.of hd3, atI_nat (j := 0) rfl, sz_of (by show 2 ≤ 100000; decide), fun q hq => ?_⟩
      have e4 := Ex.new (o := .lst [.str "none", .str "large"]) hq
      refine ⟨q, [.str "none", .str "large"], rfl, .inl (SqL.of upd_same), rfl, by decide, _, rfl, ?_⟩
      show if inV (.str (kS r.k)) [.str "none", .str "large"] = true then _ else _
      rw [dk]
      refine iteF ⟨_, rfl, T0, _, 0, .str "read", rfl, rfl, SqL.of (e4 _ _ (e3 _ _ hT)), atI_nat (j := 0) rfl, rfl, ?_⟩
      refine ⟨true, (by rw [decide_eq_true rfl]), iteT ⟨_, rfl, _, rfl, a, due, r, rfl, hr.mono e4, wf, e4 _ _ hd3, fun H5 e5 => k _ ((e23.trans e4).trans e5)⟩⟩
    | large =>
      intro d H3 e3 hdx
      rw [hL] at hdue2
      refine ⟨false, T.te_tr, (fun q => Bool.noConfusion q), fun _ => ⟨true, T.te_tt, fun _ y hy => ?_, fun q => Bool.noConfusion q⟩⟩
      refine ⟨_, rfl, rfl, rfl, d, _, .str "nodes", rfl, hdx, rfl, sz_of (by show 2 ≤ 100000; decide), fun T1 hT1 => ?_⟩
      have eT := Ex.new (o := .lst [.str "large", .str "nodes"]) hT1
      exact two "large" "nodes" "" _ T1 _ (.inr rfl) (by decide +kernel) (by decide +kernel) ((e2.trans e3).trans eT) (eT _ _ (e3 _ _ hdue2)) upd_same
    | none =>
      intro d H3 e3 hdx
      rw [hL] at hdue2
      refine ⟨true, T.te_rr, (fun _ y hy => ?_), fun q => Bool.noConfusion q⟩
      refine ⟨_, rfl, rfl, rfl, d, _, .str z, rfl, hdx, rfl, sz_of (by show 2 ≤ 100000; decide), fun T1 hT1 => ?_⟩
      have eT := Ex.new (o := .lst [.str "none", .str z]) hT1
      exact two "none" z "" _ T1 _ (.inl rfl) (by decide +kernel) hs ((e2.trans e3).trans eT) (eT _ _ (e3 _ _ hdue2)) upd_same
end
end K20

set_option Elab.async false
set_option linter.all false
set_option maxRecDepth 100000
namespace K20
open PySem PySem.Spec PyProof.Rows L2 Evl TL UL StX
section
variable {P : Program} {w : World} {K : PySem.W.Frag} {mg : Str → Option Value} {base : Heap} {A : Adr}
/-! ### rows that are built -/
def KdW (H : Hp) (v : V) : Prop := (∃ z : Str, v = .str z ∧ z.length ≤ 400 ∧ PyData.strOk z = true) ∨ v = .non ∨ (∃ i, v = .int i) ∨ (∃ b, v = .bl b) ∨ ∃ c, v = .ref c ∧ H c = some (.lst [.str "use"])
theorem KdW.mono {H H' : Hp} {v : V} (e : Ex H H') (h : KdW H v) : KdW H' v := by
  rcases h with h | h | h | h | ⟨c, h1, h2⟩
  · exact .inl h
  · exact .inr (.inl h)
  · exact .inr (.inr (.inl h))
  · exact .inr (.inr (.inr (.inl h)))
  · exact .inr (.inr (.inr (.inr ⟨c, h1, e _ _ h2⟩)))
theorem KdW.kd {H : Hp} {v : V} (h : KdW H v) : KdV H v := by
  rcases h with ⟨z, h1, h2, _⟩ | h | h | h | ⟨c, h1, h2⟩
  · exact .inl ⟨z, h1, h2⟩
  · exact .inr (.inl h)
  · exact .inr (.inr (.inl h))
  · exact .inr (.inr (.inr (.inl h)))
  · exact .inr (.inr (.inr (.inr ⟨c, _, h1, h2⟩)))
theorem sh_str {z : Str} (hs : PyData.strOk z = true) : SeqAt.shaped (.str z) = true := by
  unfold SeqAt.shaped
  rw [show PyData.canLay0 (.str z) = true by simp only [PyData.canLay0]; exact hs, Bool.true_and]
  exact decide_eq_true (by simp only [PyData.depth]; omega)
theorem KdW.dp {K : PySem.W.Frag} {H : Hp} {v : V} (h : KdW H v) : ∃ d, Dp K H v d ∧ SeqAt.shaped d = true ∧ (∀ w : Str, PyData.eqv (.str w) d = decide (v = .str w)) ∧ (∀ w : Str, PyData.eqv d (.str w) = decide (v = .str w)) ∧ (∀ H' u, (∀ c, v = .ref c → H' c = some (.lst [.str "use"])) → CpK H' v u → Dp K H' u d) := by
  rcases h with ⟨z, rfl, _, hs⟩ | rfl | ⟨i, rfl⟩ | ⟨b, rfl⟩ | ⟨c, rfl, hc⟩
  · refine ⟨.str z, .str z, sh_str hs, fun w => ?_, fun w => ?_, fun H' u _ hu => ?_⟩
    · rw [str_eqb, eqv_str]
      exact decide_eq_decide.mpr ⟨Eq.symm, Eq.symm⟩
    · rw [str_eqb, eqv_str]
    · rcases hu with ⟨_, rfl⟩ | ⟨c, _, _, e, _⟩
      · exact .str z
      · cases e
  · refine ⟨.none, .non, by decide +kernel, fun w => rfl, fun w => rfl, fun H' u _ hu => ?_⟩
    rcases hu with ⟨_, rfl⟩ | ⟨c, _, _, e, _⟩
    · exact .non
    · cases e
  · refine ⟨.int i, .int i, rfl, fun w => rfl, fun w => rfl, fun H' u _ hu => ?_⟩
    rcases hu with ⟨_, rfl⟩ | ⟨c, _, _, e, _⟩
    · exact .int i
    · cases e
  · refine ⟨.bool b, .bl b, rfl, fun w => rfl, fun w => rfl, fun H' u _ hu => ?_⟩
    rcases hu with ⟨_, rfl⟩ | ⟨c, _, _, e, _⟩
    · exact .bl b
    · cases e
  · refine ⟨.list [.str "use"], .lst (SqL.of hc) (.cons (.str "use") .nil), by decide +kernel, fun w => rfl, fun w => rfl, fun H' u hH hu => ?_⟩
    rcases hu with ⟨e, _⟩ | ⟨c', d, z, e, rfl, h1, h2⟩
    · cases e
    · cases e
      have := hH c rfl
      rw [h1] at this
      injection this with this
      injection this with this
      injection this with this
      rw [this] at h2
      exact .lst (SqL.of h2) (.cons (.str "use") .nil)
theorem KdW.self {H : Hp} {v : V} (h : KdW H v) : CpK H v v := by
  rcases h with ⟨z, rfl, _⟩ | rfl | ⟨i, rfl⟩ | ⟨b, rfl⟩ | ⟨c, rfl, hc⟩
  · exact .inl ⟨rfl, rfl⟩
  · exact .inl ⟨rfl, rfl⟩
  · exact .inl ⟨rfl, rfl⟩
  · exact .inl ⟨rfl, rfl⟩
  · exact .inr ⟨c, c, _, rfl, rfl, hc, hc⟩
theorem KdW.at {H : Hp} {v : V} (h : KdW H v) : ∀ c, v = .ref c → H c = some (.lst [.str "use"]) := fun c e => by
  rcases h with ⟨z, rfl, _⟩ | rfl | ⟨i, rfl⟩ | ⟨b, rfl⟩ | ⟨c', rfl, hc⟩
  · cases e
  · cases e
  · cases e
  · cases e
  · cases e
    exact hc
def isBoolV : V → Bool
  | .bl _ => true
  | _ => false
theorem KdW.bty {K : PySem.W.Frag} {H : Hp} {v : V} (h : KdW H v) : ∃ t, TyX K H v t ∧ PySem.W.kitOne K t (.type "bool") = some (isBoolV v) := by
  rcases h with ⟨z, rfl, _⟩ | rfl | ⟨i, rfl⟩ | ⟨b, rfl⟩ | ⟨c, rfl, hc⟩
  · exact ⟨_, .base (.str z), kit_ty (r := false) (by decide +kernel)⟩
  · exact ⟨_, .base .non, kit_ty (r := false) (by decide +kernel)⟩
  · exact ⟨_, .base (.int i), kit_ty (r := false) (by decide +kernel)⟩
  · exact ⟨_, .base (.bl b), kit_ty (r := true) (by decide +kernel)⟩
  · exact ⟨_, .base (.lst hc), kit_ty (r := false) (by decide +kernel)⟩
theorem cpk_w {H : Hp} {v u : V} (h : KdW H v) (hu : CpK H v u) : KdW H u ∧ isBoolV u = isBoolV v := by
  rcases hu with ⟨_, rfl⟩ | ⟨c, d, z, rfl, rfl, h1, h2⟩
  · exact ⟨h, rfl⟩
  · rcases h with ⟨_, e, _⟩ | e | ⟨_, e⟩ | ⟨_, e⟩ | ⟨c', e, hc⟩
    · cases e
    · cases e
    · cases e
    · cases e
    · cases e
      rw [hc] at h1
      exact ⟨.inr (.inr (.inr (.inr ⟨d, rfl, by rw [h2]; exact h1.symm ▸ rfl⟩))), rfl⟩
def bareL : List Str := ["block", "if", "else", "loop", "end"]
def bindL3 : List Str := ["val", "ref", "set"]
def inK (l : List Str) (v : V) : Bool := l.any fun w => decide (v = .str w)
theorem inK_str (l : List Str) (z : Str) : inK l (.str z) = inV (.str z) (l.map V.str) := by
  unfold inK inV
  rw [List.any_map]
  congr 1
  funext w
  show decide (V.str z = V.str w) = decide _
  rw [str_eqb]
  exact decide_eq_decide.mpr ⟨Eq.symm, Eq.symm⟩
theorem inK_no {l : List Str} {v : V} (h : isStr v = false) : inK l v = false := by
  unfold inK
  rw [List.any_eq_false]
  intro w _
  cases v with
  | str z => cases h
  | _ => exact fun e => absurd (of_decide_eq_true e) (by intro y; cases y)
theorem units65 {k : Nat} {A : Around} (r : Room k A) : A.units + 65 < cLine := by
  have := r.un
  omega
theorem use_bare : ¬ inV (.str ("use" : Str)) k_BARE = true := by decide +kernel
theorem bare_bind {z : Str} (h : inV (.str z) k_BARE = true) : ¬ inV (.str z) k_BINDING = true := fun h2 => by
  obtain ⟨k, rfl, hX⟩ := bare_kd h
  rw [k_binding] at h2
  rw [isB_X h2] at hX
  cases hX
theorem bare_use {z : Str} (h : inV (.str z) k_BARE = true) : z ≠ "use" := fun e => use_bare (e ▸ h)
/-- what the law calls good -/
theorem good_eq {k n : V} {t : Trd} (hn : LbV n) : rowOk k n t = (((inK bareL k && (decide (n = .str "") && isNo t)) || (decide (k = .str "use") && (decide (n = .str "") && isEx t))) || (inK bindL3 k && (nm n && isEx t))) := by
  cases hk : isStr k with
  | false =>
    rw [rowOk_k hk, inK_no hk, inK_no hk, decide_eq_false (show ¬ k = .str "use" from fun e => by rw [e] at hk; cases hk)]
    rfl
  | true =>
    obtain ⟨z, rfl⟩ : ∃ z, k = .str z := by cases k <;> first | exact ⟨_, rfl⟩ | cases hk
    rw [inK_str, inK_str]
    rcases hn with ⟨m, rfl, _⟩ | rfl | ⟨i, rfl⟩
    · show (if inV (.str z) k_BINDING = true then okS m && isEx t else if z = "use" then decide (m = "") && isEx t else inV (.str z) k_BARE && decide (m = "") && isNo t) = (((inV (.str z) k_BARE && (decide (V.str m = .str "") && isNo t)) || (decide (V.str z = .str "use") && (decide (V.str m = .str "") && isEx t))) || (inV (.str z) k_BINDING && (okS m && isEx t)))
      rw [str_eqb, str_eqb]
      by_cases hb : inV (.str z) k_BINDING = true
      · rw [if_pos hb, hb]
        have h1 : inV (.str z) k_BARE = false := Bool.eq_false_iff.mpr fun h => bare_bind h hb
        have h2 : z ≠ "use" := fun e => use_no (e ▸ hb)
        rw [h1, decide_eq_false h2]
        simp
      · rw [if_neg hb, Bool.eq_false_iff.mpr hb]
        by_cases hu : z = "use"
        · rw [if_pos hu, decide_eq_true hu, show inV (.str z) k_BARE = false from Bool.eq_false_iff.mpr fun h => bare_use h hu]
          simp
        · rw [if_neg hu, decide_eq_false hu]
          simp [Bool.and_assoc]
    · rw [rowOk_n rfl, decide_eq_false (show ¬ V.non = .str "" from fun e => by cases e)]
      simp [nm]
    · rw [rowOk_n rfl, decide_eq_false (show ¬ V.int i = .str "" from fun e => by cases e)]
      simp [nm]
def textT : Trd → Str
  | .ex ns => exT ns
  | _ => ""
theorem TrV.non {C : Addr} {H : Hp} {t : Trd} {v : V} (h : TrV C H t v) : decide (v = .non) = isNo t := by
  cases t with
  | no => exact decide_eq_true h
  | odd => exact decide_eq_false fun z => by rcases h with ⟨_, h⟩ | ⟨_, h⟩ | ⟨_, h⟩ <;> (rw [z] at h; cases h)
  | ex ns => exact decide_eq_false fun z => by obtain ⟨_, h, _⟩ := h; rw [z] at h; cases h
theorem at_mem {l : List V} {n : Int} (h0 : 0 ≤ n) (h1 : n < (l.length : Int)) : ∃ x, atI l n = some x ∧ x ∈ l := by
  obtain ⟨m, rfl⟩ := Int.eq_ofNat_of_zero_le h0
  have hm : m < l.length := by omega
  exact ⟨l[m], atI_nat (List.getElem?_eq_getElem hm), List.getElem_mem hm⟩
def kinds28 : List V := [.str "use", .str "val", .str "ref", .str "set", .str "block", .str "if", .str "else", .str "loop", .str "end", .str "", .str "Use", .str "fun", .str "out", .str "end ", .str "valx"]
def spBuilt (K : PySem.W.Frag) : Sp := fun vs H Q _ => ∃ (d N F : Addr) (ws : List Str) (fs : List Addr) (rs : List Rw), vs = [.ref d, .ref N, .ref F] ∧ H d = some (DrO d) ∧ H N = some (.lst (ws.map V.str)) ∧ (∀ w ∈ ws, okS w = true) ∧ ws.length ≤ 100 ∧ RowsAt H F fs (newR :: copyR :: rs) ∧ Fit rs ∧ ∀ H', Ex H H' → Q (.bl true) H'
theorem ok_built (T : Tx0 w K mg A) : FnOk P w K mg base CX0 20 A.built A.d_built p_built (spBuilt K) := by
  refine T.F_built.ok sc_built (fun vs H Q E h => ?_) (fun cdv Ar outer s H vs Q E hr h => ?_)
  · obtain ⟨d, N, F, ws, fs, rs, rfl, _⟩ := h
    rfl
  · obtain ⟨d, N, F, ws, fs, rs, rfl, hd, hN, hws, hwl, hF, hfit, k⟩ := h
    refine ⟨_, (pss_cons (ps_set (i := 3) sc_built.nd rfl (Or.inl rfl) (pe_lst (pa_cons pe_str (pa_cons pe_str (pa_cons pe_str (pa_cons pe_str (pa_cons pe_str (pa_cons pe_str (pa_cons pe_str (pa_cons pe_str (pa_cons pe_str (pa_cons pe_str (pa_cons pe_str (pa_cons pe_str (pa_cons pe_str (pa_cons pe_str (pa_cons pe_str pa_nil)))))))))))))))))
      (pss_cons (ps_set (i := 4) sc_built.nd rfl (Or.inl rfl) (pe_ix ix_list (pe_op op_cat (pe_op op_cat (pv 3) (pe_slice sl_list (pv 3) po_none (po_some pe_int))) (pe_lst (pa_cons pe_non (pa_cons pe_int (pa_cons pe_bl (pa_cons (pe_lst (pa_cons pe_str pa_nil)) pa_nil)))))) (pe_call (ok_take T) (hr.mono (by decide)) (by rfl) T.g_take T.F_take.kp T.b_take .nil pass0 (pa_cons (pv 0) (pa_cons pe_int pa_nil))) (fun _ _ => rfl)))
      (pss_cons (ps_set (i := 5) sc_built.nd rfl (Or.inl rfl) (pe_lst (pa_cons pe_str (pa_cons (pe_call (ok_name T) (hr.mono (by decide)) (by rfl) T.g_name T.F_name.kp T.b_name .nil pass0 (pa_cons (pv 0) (pa_cons pe_int pa_nil))) (pa_cons pe_str (pa_cons pe_str (pa_cons pe_str (pa_cons pe_str (pa_cons pe_non (pa_cons pe_int pa_nil))))))))))
      (pss_cons (ps_set (i := 6) sc_built.nd rfl (Or.inl rfl) (pe_ix ix_list (pv 5) (pe_ix ix_list (pe_lst (pa_cons pe_int (pa_cons pe_int (pa_cons pe_int (pa_cons pe_int (pa_cons pe_int (pa_cons pe_int (pa_cons pe_int (pa_cons pe_int (pa_cons pe_int (pa_cons pe_int (pa_cons pe_int (pa_cons pe_int pa_nil))))))))))))) (pe_call (ok_take T) (hr.mono (by decide)) (by rfl) T.g_take T.F_take.kp T.b_take .nil pass0 (pa_cons (pv 0) (pa_cons pe_int pa_nil))) (fun _ _ => rfl)) (fun _ _ => rfl)))
      (pss_cons (ps_set (i := 7) sc_built.nd rfl (Or.inl rfl) pe_str)
      (pss_cons (ps_set (i := 8) sc_built.nd rfl (Or.inl rfl) pe_non)
      (pss_cons (ps_set (i := 9) sc_built.nd rfl (Or.inl rfl) (pe_call (ok_take T) (hr.mono (by decide)) (by rfl) T.g_take T.F_take.kp T.b_take .nil pass0 (pa_cons (pv 0) (pa_cons pe_int pa_nil))))
      (Evl.pss_cut (ps_if (pt_cmpR op_gt (pv 9) pe_int (nomark _)) (pss_cons (ps_set (i := 7) sc_built.nd rfl (Or.inl rfl) (pe_ix ix_list (pe_call (ok_expression T) (hr.mono (by decide)) (by rfl) T.g_expression T.F_expression.kp T.b_expression .nil pass0 (pa_cons (pv 0) (pa_cons (pv 1) (pa_cons (pv 2) (pa_cons pe_int pa_nil))))) pe_int (fun _ _ => rfl)))
        (pss_one (ps_set (i := 8) sc_built.nd rfl (Or.inl rfl) (ClX.pe_cmeth (pe_glob (v := .ref A.Expression) (by rfl) T.g_Expression rfl) T.cr_Expression T.cm_ex_read ((ok_ex_read T).raw T.b_ex_read .nil) (hr.mono (by decide)) passL (pa_cons (pv 7) pa_nil))))) pss_nil)
      (Evl.pss_cut (ps_if (pt_cmpR op_eq (pv 9) pe_int (nomark _)) (pss_one (ps_set (i := 8) sc_built.nd rfl (Or.inl rfl) (pe_ix ix_list (pe_lst (pa_cons pe_str (pa_cons pe_int (pa_cons pe_bl pa_nil)))) (pe_call (ok_take T) (hr.mono (by decide)) (by rfl) T.g_take T.F_take.kp T.b_take .nil pass0 (pa_cons (pv 0) (pa_cons pe_int pa_nil))) (fun _ _ => rfl)))) pss_nil)
      (Evl.pss_cut (ps_set (i := 10) sc_built.nd rfl (Or.inl rfl) (pe_and (pe_cmpR (op_inD (units65 hr)) (pv 4) (pe_lst (pa_cons pe_str (pa_cons pe_str (pa_cons pe_str (pa_cons pe_str (pa_cons pe_str pa_nil)))))) (by rfl)) (pe_and (pe_cmpR (op_eqD hr.units) (pv 6) pe_str (nomark _)) (pe_one (pe_cmpR op_isN (pv 8) pe_non (nomark _))))))
      (Evl.pss_cut (ps_set (i := 10) sc_built.nd rfl (Or.inl rfl) (pe_or (pv 10) (pe_one (pe_and (pe_cmpR (op_eqD hr.units) (pv 4) pe_str (nomark _)) (pe_and (pe_cmpR (op_eqD hr.units) (pv 6) pe_str (nomark _)) (pe_one (pe_callB call_isi (by rfl) T.m_isinstance (by decide +kernel) (pa_cons (pv 8) (pa_cons (pe_glob (v := .ref A.Expression) (by rfl) T.g_Expression rfl) pa_nil)))))))))
      (Evl.pss_cut (ps_set (i := 10) sc_built.nd rfl (Or.inl rfl) (pe_or (pv 10) (pe_one (pe_and (pe_cmpR (op_inD (units65 hr)) (pv 4) (pe_lst (pa_cons pe_str (pa_cons pe_str (pa_cons pe_str pa_nil)))) (by rfl)) (pe_and (pe_call (ok_lname T) (hr.mono (by decide)) (by rfl) T.g_lname T.F_lname.kp T.b_lname .nil pass0 (pa_cons (pv 6) pa_nil)) (pe_one (pe_callB call_isi (by rfl) T.m_isinstance (by decide +kernel) (pa_cons (pv 8) (pa_cons (pe_glob (v := .ref A.Expression) (by rfl) T.g_Expression rfl) pa_nil)))))))))
      (pss_cons (ps_set (i := 11) sc_built.nd rfl (Or.inl rfl) (pe_cmpR op_eq (pe_call (ok_take T) (hr.mono (by decide)) (by rfl) T.g_take T.F_take.kp T.b_take .nil pass0 (pa_cons (pv 0) (pa_cons pe_int pa_nil))) pe_int (nomark _)))
      (pss_cons (ps_set (i := 12) sc_built.nd rfl (Or.inl rfl) pe_non)
      (pss_cons (ps_set (i := 13) sc_built.nd rfl (Or.inl rfl) pe_str)
      (pss_cons (ps_set (i := 14) sc_built.nd rfl (Or.inl rfl) pe_bl)
      (Evl.pss_cut (ps_try_as (i := 15) rfl rfl sc_built.nd rfl rfl ⟨rfl, by decide, Or.inl T.g_InvalidRow⟩ takes0 (fun W pn xe tk _ => (pss_one (ps_set (i := 12) sc_built.nd rfl (Or.inl rfl) (pe_callS (E := WE W) (ok_lmade T) (hr.mono (by decide)) (by rfl) T.g_lmade T.F_lmade.kp T.b_lmade (fun σ => passAt tk σ) (pa_cons (pv 4) (pa_cons (pv 6) (pa_cons (pv 8) (pa_cons (pv 11) pa_nil)))))))) (fun a oe cls d pn hz hf => (pss_cons (ps_set (i := 14) sc_built.nd rfl (Or.inl rfl) pe_bl)
        (pss_one (ps_set (i := 13) sc_built.nd rfl (Or.inl rfl) (pe_xf T.ex_InvalidRow.xf T.ex_InvalidRow.nw hz hf (pv 15)))))))
      (pss_cons (ps_if (pt_not (pt_val (pv 10))) (pss_one (ps_ret (pe_and (pv 14) (pe_and (pe_cmpR op_eq (pe_callB call_isi (by rfl) T.m_isinstance (by decide +kernel) (pa_cons (pv 13) (pa_cons (pe_bltn (v := .ty "bool") (u := .type "bool") (by rfl) T.m_bool (by decide +kernel) rfl) pa_nil))) (pe_callB call_isi (by rfl) T.m_isinstance (by decide +kernel) (pa_cons (pv 4) (pa_cons (pe_bltn (v := .ty "bool") (u := .type "bool") (by rfl) T.m_bool (by decide +kernel) rfl) pa_nil))) (nomark _)) (pe_one (pe_cmpR (op_eqD hr.units) (pv 13) (pv 4) (nomark _))))))) pss_nil)
      (pss_one (ps_ret (pe_and (pe_not (pv 14)) (pe_and (pe_call (ok_lis T) (hr.mono (by decide)) (by rfl) T.g_lis T.F_lis.kp T.b_lis .nil pass0 (pa_cons (pv 12) (pa_cons (pe_lst (pa_cons (pv 4) (pa_cons (pv 6) (pa_cons (pv 7) pa_nil)))) pa_nil))) (pe_one (pe_call (ok_lis T) (hr.mono (by decide)) (by rfl) T.g_lis T.F_lis.kp T.b_lis .nil pass0 (pa_cons (pe_call (ok_lmade T) (hr.mono (by decide)) (by rfl) T.g_lmade T.F_lmade.kp T.b_lmade .nil passL (pa_cons (pv 4) (pa_cons (pv 6) (pa_cons (pv 8) (pa_cons (pe_not (pv 11)) pa_nil))))) (pa_cons (pe_lst (pa_cons (pv 4) (pa_cons (pv 6) (pa_cons (pv 7) pa_nil)))) pa_nil)))))))))))))))))))))))))), ?_⟩
    refine ⟨sz_of (by show 15 ≤ 100000; decide), fun KL hKL => ?_⟩
    have e1 := Ex.new (o := .lst kinds28) hKL
    have hK1 : upd H KL (.lst kinds28) KL = some (.lst kinds28) := upd_same
    show (tSeq _ _) _ _ _
    have hH1 : upd H KL (.lst [.str "use", .str "val", .str "ref", .str "set", .str "block", .str "if", .str "else", .str "loop", .str "end", .str "", .str "Use", .str "fun", .str "out", .str "end ", .str "valx"]) = upd H KL (.lst kinds28) := rfl
    rw [hH1]
    generalize upd H KL (.lst kinds28) = H1 at e1 hK1 ⊢
    refine ⟨_, rfl, _, rfl, 9, rfl, KL, _, rfl, SqL.of hK1, fun s1 hs1 => ?_⟩
    have e2 := Ex.new (o := .lst (cutV kinds28 none (some 9))) hs1
    refine ⟨KL, s1, _, _, rfl, rfl, e2 _ _ hK1, upd_same, sz_of (by show 24 ≤ 100000; decide), fun c1 hc1 => ?_⟩
    have e3 := e2.trans (Ex.new (o := .lst (kinds28 ++ cutV kinds28 none (some 9))) hc1)
    have hc1' : upd (upd H1 s1 (.lst (cutV kinds28 none (some 9)))) c1 (.lst (kinds28 ++ cutV kinds28 none (some 9))) c1 = some (.lst (kinds28 ++ cutV kinds28 none (some 9))) := upd_same
    generalize upd (upd H1 s1 (.lst (cutV kinds28 none (some 9)))) c1 (.lst (kinds28 ++ cutV kinds28 none (some 9))) = H2 at e3 hc1' ⊢
    refine ⟨sz_of (by show 1 ≤ 100000; decide), fun u1 hu1 => ⟨sz_of (by show 4 ≤ 100000; decide), fun l4 hl4 => ?_⟩⟩
    have e4 := Ex.new (o := .lst [.str "use"]) hu1
    have e5 := e4.trans (Ex.new (o := .lst [.non, .int 7, .bl true, .ref u1]) hl4)
    have hu1' := (Ex.new (o := .lst [.non, .int 7, .bl true, .ref u1]) hl4) _ _ (upd_same (H := H2) (a := u1) (o := .lst [.str "use"]))
    have hl4' : upd (upd H2 u1 (.lst [.str "use"])) l4 (.lst [.non, .int 7, .bl true, .ref u1]) l4 = some (.lst [.non, .int 7, .bl true, .ref u1]) := upd_same
    have hc2' := e5 _ _ hc1'
    generalize upd (upd H2 u1 (.lst [.str "use"])) l4 (.lst [.non, .int 7, .bl true, .ref u1]) = H3 at e5 hu1' hl4' hc2' ⊢
    refine ⟨c1, l4, _, _, rfl, rfl, hc2', hl4', sz_of (by show 28 ≤ 100000; decide), fun c2 hc2 => ?_⟩
    have e6 := Ex.new (o := .lst (kinds28 ++ cutV kinds28 none (some 9) ++ [.non, .int 7, .bl true, .ref u1])) hc2
    have eA := ((e1.trans e3).trans e5).trans e6
    have hc3 : upd H3 c2 (.lst (kinds28 ++ cutV kinds28 none (some 9) ++ [.non, .int 7, .bl true, .ref u1])) c2 = some (.lst (kinds28 ++ cutV kinds28 none (some 9) ++ [.non, .int 7, .bl true, .ref u1])) := upd_same
    have hu3 := e6 _ _ hu1'
    generalize upd H3 c2 (.lst (kinds28 ++ cutV kinds28 none (some 9) ++ [.non, .int 7, .bl true, .ref u1])) = H4 at eA hc3 hu3 ⊢
    refine ⟨_, rfl, d, _, rfl, eA _ _ hd, by decide, fun m m0 m1 => ?_⟩
    have l28 : (kinds28 ++ cutV kinds28 none (some 9) ++ [V.non, .int 7, .bl true, .ref u1]).length = 28 := rfl
    obtain ⟨kv, hat, hkv⟩ := at_mem (l := kinds28 ++ cutV kinds28 none (some 9) ++ [.non, .int 7, .bl true, .ref u1]) m0 (by rw [l28]; exact m1)
    have hkw : KdW H4 kv := by
      have hs : ∀ w ∈ [("use" : Str), "val", "ref", "set", "block", "if", "else", "loop", "end", "", "Use", "fun", "out", "end ", "valx"], w.length ≤ 400 ∧ PyData.strOk w = true := by decide +kernel
      have h28 : kinds28 = [("use" : Str), "val", "ref", "set", "block", "if", "else", "loop", "end", "", "Use", "fun", "out", "end ", "valx"].map V.str := rfl
      have hk28 : ∀ v ∈ kinds28, KdW H4 v := fun v hv => by
        rw [h28] at hv
        obtain ⟨w, hw, rfl⟩ := List.mem_map.mp hv
        exact .inl ⟨w, rfl, hs w hw⟩
      rcases List.mem_append.mp hkv with hkv | hkv
      · rcases List.mem_append.mp hkv with hkv | hkv
        · exact hk28 _ hkv
        · exact hk28 _ (by rw [show (some 9 : Option Int) = some ((9 : Nat) : Int) from rfl, cutV_upto] at hkv; exact List.mem_of_mem_take hkv)
      · simp only [List.mem_cons, List.not_mem_nil, or_false] at hkv
        rcases hkv with rfl | rfl | rfl | rfl
        · exact .inr (.inl rfl)
        · exact .inr (.inr (.inl ⟨_, rfl⟩))
        · exact .inr (.inr (.inr (.inl ⟨_, rfl⟩)))
        · exact .inr (.inr (.inr (.inr ⟨u1, rfl, hu3⟩)))
    refine ⟨c2, _, m, kv, rfl, rfl, SqL.of hc3, hat, ?_⟩
    refine ⟨_, rfl, d, 30, rfl, eA _ _ hd, by decide, by decide, fun nm1 H5 hok _ e7 => ⟨sz_of (by show 8 ≤ 100000; decide), fun LL hLL => ?_⟩⟩
    have eB := (eA.trans e7).trans (Ex.new (o := .lst [.str "", .str nm1, .str "end", .str "9", .str "a b", .str "abcdefghi", .non, .int 5]) hLL)
    have hkw5 := (hkw.mono e7).mono (Ex.new (o := .lst [.str "", .str nm1, .str "end", .str "9", .str "a b", .str "abcdefghi", .non, .int 5]) hLL)
    have hLL' : upd H5 LL (.lst [.str "", .str nm1, .str "end", .str "9", .str "a b", .str "abcdefghi", .non, .int 5]) LL = some (.lst [.str "", .str nm1, .str "end", .str "9", .str "a b", .str "abcdefghi", .non, .int 5]) := upd_same
    generalize upd H5 LL (.lst [.str "", .str nm1, .str "end", .str "9", .str "a b", .str "abcdefghi", .non, .int 5]) = H6 at eB hkw5 hLL' ⊢
    refine ⟨_, rfl, sz_of (by show 12 ≤ 100000; decide), fun L12 h12 => ?_⟩
    have e8 := Ex.new (o := .lst (([0, 1, 1, 1, 0, 0, 2, 3, 4, 5, 6, 7] : List Int).map V.int)) h12
    have eC := eB.trans e8
    have hkw6 := hkw5.mono e8
    have hLL7 := e8 _ _ hLL'
    have h12' : upd H6 L12 (.lst (([0, 1, 1, 1, 0, 0, 2, 3, 4, 5, 6, 7] : List Int).map V.int)) L12 = some (.lst (([0, 1, 1, 1, 0, 0, 2, 3, 4, 5, 6, 7] : List Int).map V.int)) := upd_same
    have hH7 : upd H6 L12 (.lst [.int 0, .int 1, .int 1, .int 1, .int 0, .int 0, .int 2, .int 3, .int 4, .int 5, .int 6, .int 7]) = upd H6 L12 (.lst (([0, 1, 1, 1, 0, 0, 2, 3, 4, 5, 6, 7] : List Int).map V.int)) := rfl
    rw [hH7]
    generalize upd H6 L12 (.lst (([0, 1, 1, 1, 0, 0, 2, 3, 4, 5, 6, 7] : List Int).map V.int)) = H7 at eC hkw6 hLL7 h12' ⊢
    refine ⟨_, rfl, d, _, rfl, eC _ _ hd, by decide, fun n n0 n1 => ?_⟩
    obtain ⟨jv, hjat, hjm⟩ := at_mem (l := ([0, 1, 1, 1, 0, 0, 2, 3, 4, 5, 6, 7] : List Int).map V.int) n0 n1
    obtain ⟨j, hj, rfl⟩ := List.mem_map.mp hjm
    have hj8 : 0 ≤ j ∧ j < 8 := by
      have : ∀ j ∈ ([0, 1, 1, 1, 0, 0, 2, 3, 4, 5, 6, 7] : List Int), 0 ≤ j ∧ j < 8 := by decide
      exact this j hj
    obtain ⟨lb, hlat, hlm⟩ := at_mem (l := [.str "", .str nm1, .str "end", .str "9", .str "a b", .str "abcdefghi", .non, .int 5]) hj8.1 hj8.2
    have hlb : LbV lb := by
      have hs : ∀ w ∈ [("" : Str), "end", "9", "a b", "abcdefghi"], w.length ≤ 400 ∧ PyData.strOk w = true := by decide +kernel
      have o8 := okS_len hok
      simp only [List.mem_cons, List.not_mem_nil, or_false] at hlm
      rcases hlm with rfl | rfl | rfl | rfl | rfl | rfl | rfl | rfl
      · exact .inl ⟨_, rfl, hs "" (by decide)⟩
      · exact .inl ⟨_, rfl, by omega, okS_str hok⟩
      · exact .inl ⟨_, rfl, hs "end" (by decide)⟩
      · exact .inl ⟨_, rfl, hs "9" (by decide)⟩
      · exact .inl ⟨_, rfl, hs "a b" (by decide)⟩
      · exact .inl ⟨_, rfl, hs "abcdefghi" (by decide)⟩
      · exact .inr (.inl rfl)
      · exact .inr (.inr ⟨_, rfl⟩)
    refine ⟨L12, _, n, .int j, rfl, rfl, SqL.of h12', hjat, LL, _, j, lb, rfl, rfl, SqL.of hLL7, hlat, ?_⟩
    refine ⟨_, rfl, d, _, rfl, eC _ _ hd, by decide, fun od o0 o1 => ?_⟩
    -- the tree
    refine ⟨fun σ2 H8 => ∃ t v, σ2 = [some (.ref d), some (.ref N), some (.ref F), some (.ref KL), some kv, some (.ref LL), some lb, some (.str (textT t)), some v, some (.int od), none, none, none, none, none, none] ∧ Ex H7 H8 ∧ TrV A.Expression H8 t v ∧ (3 < od ∨ t = .no), ?_, ?_⟩
    · refine ⟨_, rfl, od, 3, rfl, rfl, _, rfl, ite2 (fun h => ?_) (fun h => ?_)⟩
      · have hF7 : RowsAt H7 F fs (newR :: copyR :: rs) := ⟨eC _ _ hF.1, rows_mono eC hF.2⟩
        refine ⟨_, rfl, _, rfl, _, rfl, d, N, F, 8, ws, fs, rs, rfl, eC _ _ hd, eC _ _ hN, hws, hwl, hF7, fit_good hfit, by decide, by decide, fun p N' as z ns H8 e9 hp hN' hA g hz hns hcl f1 f2 f3 => ?_⟩
        have hns8 : ns.length ≤ 8 := hns
        refine ⟨p, _, 1, .str z, rfl, rfl, SqL.of hp, atI_nat (j := 1) rfl, ?_⟩
        refine ⟨rfl, _, rfl, z, rfl, by omega, fun ns' hrun => ?_, fun hno => absurd (good_run g) (hno ns)⟩
        have hns' : ns = ns' := by
          have := (good_run g).symm.trans hrun
          exact congrArg UL.Rd.N (Option.some.inj this)
        subst hns'
        refine ⟨fun hle x H9 e10 hx => ?_, fun hgt => absurd hgt (by omega)⟩
        refine ⟨.ex ns, .ref x, ?_, e9.trans e10, ⟨x, rfl, hx, okN_of g (by omega)⟩, .inl (of_decide_eq_true h)⟩
        show _ = [some (V.ref d), some (.ref N), some (.ref F), some (.ref KL), some kv, some (.ref LL), some lb, some (.str (exT ns)), some (.ref x), some (.int od), none, none, none, none, none, none]
        rw [good_exT g]
        rfl
      · exact ⟨.no, .non, rfl, Ex.refl _, rfl, .inr rfl⟩
    rintro σ2 H8 ⟨t0, v0, rfl, e9, hv0, ht0⟩
    have eD := eC.trans e9
    refine ⟨fun σ2 H9 => ∃ t v, σ2 = [some (.ref d), some (.ref N), some (.ref F), some (.ref KL), some kv, some (.ref LL), some lb, some (.str (textT t)), some v, some (.int od), none, none, none, none, none, none] ∧ Ex H8 H9 ∧ TrV A.Expression H9 t v, ?_, ?_⟩
    · refine ⟨_, rfl, rfl, _, rfl, ite2 (fun h => ?_) (fun h => ?_)⟩
      · have h3 : od = 3 := V.int.inj (of_decide_eq_true h)
        have ht : t0 = .no := ht0.resolve_left (by omega)
        subst ht
        refine ⟨sz_of (by show 3 ≤ 100000; decide), fun q3 hq3 => ?_⟩
        have eQ := Ex.new (o := .lst [.str "x", .int 5, .bl true]) hq3
        refine ⟨_, rfl, d, _, rfl, eQ _ _ (eD _ _ hd), by decide, fun n3 a0 a1 => ?_⟩
        obtain ⟨v, hva, hvm⟩ := at_mem (l := [.str "x", .int 5, .bl true]) a0 a1
        refine ⟨q3, _, n3, v, rfl, rfl, SqL.of upd_same, hva, .odd, v, rfl, eQ, ?_⟩
        simp only [List.mem_cons, List.not_mem_nil, or_false] at hvm
        rcases hvm with rfl | rfl | rfl
        · exact .inl ⟨_, rfl⟩
        · exact .inr (.inl ⟨_, rfl⟩)
        · exact .inr (.inr ⟨_, rfl⟩)
      · exact ⟨t0, v0, rfl, Ex.refl _, hv0⟩
    rintro σ2 H9 ⟨t, v, rfl, e10, hv⟩
    have eE := eD.trans e10
    have hkw9 := (hkw6.mono e9).mono e10
    clear ht0 hv0
    obtain ⟨dk, hdk, sdk, hk1, hk2, hk3⟩ := hkw9.dp (K := K)
    obtain ⟨dl, hdl, sdl, hde⟩ := hlb.dp (K := K)
    have anyK : ∀ l : List Str, (l.map PyData.str).any (fun z => PyData.eqv z dk) = inK l kv := fun l => by
      unfold inK
      rw [List.any_map]
      congr 1
      funext w
      exact hk1 w
    have dkM : ∀ H', Ex H9 H' → Dp K H' kv dk := fun H' e => hk3 H' kv (hkw9.mono e).at (hkw9.mono e).self
    refine ⟨fun σ2 H10 => ∃ g, σ2 = [some (.ref d), some (.ref N), some (.ref F), some (.ref KL), some kv, some (.ref LL), some lb, some (.str (textT t)), some v, some (.int od), some (.bl g), none, none, none, none, none] ∧ Ex H9 H10 ∧ g = (inK bareL kv && (decide (lb = .str "") && isNo t)), ?_, ?_⟩
    · refine ⟨_, rfl, sz_of (by show 5 ≤ 100000; decide), fun q5 hq5 => ?_⟩
      have eQ := Ex.new (o := .lst (bareL.map V.str)) hq5
      refine ⟨dk, bareL.map PyData.str, dkM _ eQ, .lst (SqL.of upd_same) (dp_strs bareL), sdk, shaped_strs (by decide +kernel), ?_⟩
      rw [anyK]
      refine ⟨_, rfl, ?_⟩
      cases hb : inK bareL kv with
      | false => exact iteF ⟨_, rfl, eQ, rfl⟩
      | true =>
        refine iteT ⟨_, rfl, dl, _, hdl _, .str "", sdl, sE, ?_⟩
        rw [hde]
        refine ⟨_, rfl, ?_⟩
        cases hl : decide (lb = .str "") with
        | false => exact iteF ⟨_, rfl, eQ, rfl⟩
        | true =>
          refine iteT ⟨_, rfl, rfl, ?_⟩
          rw [hv.non]
          exact ⟨_, rfl, eQ, rfl⟩
    rintro σ2 H10 ⟨g1, rfl, e11, hg1⟩
    have hv10 := hv.mono e11
    refine ⟨fun σ2 H11 => ∃ g, σ2 = [some (.ref d), some (.ref N), some (.ref F), some (.ref KL), some kv, some (.ref LL), some lb, some (.str (textT t)), some v, some (.int od), some (.bl g), none, none, none, none, none] ∧ Ex H9 H11 ∧ g = (g1 || (decide (kv = .str "use") && (decide (lb = .str "") && isEx t))), ?_, ?_⟩
    · refine ⟨_, rfl, _, rfl, ?_⟩
      cases g1 with
      | true => exact iteT ⟨_, rfl, e11, rfl⟩
      | false =>
        refine iteF ⟨_, rfl, dk, _, dkM _ e11, .str "use", sdk, (by decide +kernel), ?_⟩
        rw [hk2]
        refine ⟨_, rfl, ?_⟩
        cases hu : decide (kv = .str "use") with
        | false => exact iteF ⟨_, rfl, e11, rfl⟩
        | true =>
          refine iteT ⟨_, rfl, dl, _, hdl _, .str "", sdl, sE, ?_⟩
          rw [hde]
          refine ⟨_, rfl, ?_⟩
          cases hl : decide (lb = .str "") with
          | false => exact iteF ⟨_, rfl, e11, rfl⟩
          | true =>
            obtain ⟨te, ty3, kt3⟩ := hv10.ty T
            exact iteT ⟨_, rfl, v, _, te, _, _, rfl, .own A.Expression, ty3, kt3, _, rfl, e11, rfl⟩
    rintro σ2 H11 ⟨g2, rfl, e12, hg2⟩
    refine ⟨fun σ2 H12 => ∃ g, σ2 = [some (.ref d), some (.ref N), some (.ref F), some (.ref KL), some kv, some (.ref LL), some lb, some (.str (textT t)), some v, some (.int od), some (.bl g), none, none, none, none, none] ∧ Ex H9 H12 ∧ g = (g2 || (inK bindL3 kv && (nm lb && isEx t))), ?_, ?_⟩
    · refine ⟨_, rfl, _, rfl, ?_⟩
      cases g2 with
      | true => exact iteT ⟨_, rfl, e12, rfl⟩
      | false =>
        refine iteF ⟨_, rfl, sz_of (by show 3 ≤ 100000; decide), fun q3 hq3 => ?_⟩
        have eQ := e12.trans (Ex.new (o := .lst (bindL3.map V.str)) hq3)
        refine ⟨dk, bindL3.map PyData.str, dkM _ eQ, .lst (SqL.of upd_same) (dp_strs bindL3), sdk, shaped_strs (by decide +kernel), ?_⟩
        rw [anyK]
        refine ⟨_, rfl, ?_⟩
        cases hb : inK bindL3 kv with
        | false => exact iteF ⟨_, rfl, eQ, rfl⟩
        | true =>
          refine iteT ⟨_, rfl, lb, rfl, ?_, fun H13 e13 => ⟨_, rfl, ?_⟩⟩
          · rcases hlb with ⟨z, h1, h2, _⟩ | h1 | h1
            · exact .inl ⟨z, h1, by omega⟩
            · exact .inr (.inl h1)
            · exact .inr (.inr (.inr (.inl h1)))
          · have eQ' := eQ.trans e13
            cases hl : nm lb with
            | false => exact iteF ⟨_, rfl, eQ', rfl⟩
            | true =>
              obtain ⟨te, ty3, kt3⟩ := (hv.mono eQ').ty T
              exact iteT ⟨_, rfl, v, _, te, _, _, rfl, .own A.Expression, ty3, kt3, _, rfl, eQ', rfl⟩
    rintro σ2 H12 ⟨g3, rfl, e13, hg3⟩
    have hg : g3 = rowOk kv lb t := by rw [good_eq hlb, hg3, hg2, hg1]
    clear hg1 hg2 hg3
    have eF := eE.trans e13
    have hkw12 := hkw9.mono e13
    have hv12 := hv.mono e13
    refine ⟨_, rfl, d, _, rfl, eF _ _ hd, by decide, fun sh s0 s1 => ⟨rfl, ?_⟩⟩
    generalize decide (V.int sh = V.int 0) = sb
    refine ⟨fun σ2 H13 => ∃ row what ra, σ2 = [some (.ref d), some (.ref N), some (.ref F), some (.ref KL), some kv, some (.ref LL), some lb, some (.str (textT t)), some v, some (.int od), some (.bl g3), some (.bl sb), some row, some what, some (.bl ra), none] ∧ Ex H12 H13 ∧ ((rowOk kv lb t = true ∧ ra = false ∧ ∃ a dx, row = .ref a ∧ H13 a = some (.ins A.Row dx [("kind", kv), ("name", lb), ("expression", v)])) ∨ (rowOk kv lb t = false ∧ ra = true ∧ CpK H13 kv what)), ?_, ?_⟩
    · refine ⟨_, rfl, _, rfl, _, rfl, _, rfl, kv, lb, v, sb, t, rfl, hkw12.kd, hlb, hv12, fun ho a dx H13 e14 ha => ?_, fun ho d' u H13 e14 hd' hu => ?_⟩
      · exact ⟨_, _, _, rfl, e14, .inl ⟨ho, rfl, a, dx, rfl, ha⟩⟩
      · refine ⟨true, T.te_rr, (fun _ y hy => ?_), fun q => Bool.noConfusion q⟩
        exact ⟨_, rfl, rfl, rfl, d', _, u, rfl, hd', rfl, _, _, _, rfl, e14, .inr ⟨ho, rfl, hu⟩⟩
    rintro σ2 H13 ⟨row, what, ra, rfl, e14, hra⟩
    have eG := eF.trans e14
    have hkw13 := hkw12.mono e14
    have hv13 := hv12.mono e14
    rcases hra with ⟨ho, rfl, a, dx, rfl, ha⟩ | ⟨ho, rfl, hu⟩
    · rw [ho] at hg
      subst hg
      refine ⟨_, rfl, true, rfl, iteF ⟨_, rfl, false, rfl, true, rfl, iteT ?_⟩⟩
      obtain ⟨z, rfl⟩ : ∃ z, kv = .str z := by
        cases hs : isStr kv with
        | true => cases kv <;> first | exact ⟨_, rfl⟩ | cases hs
        | false => rw [rowOk_k hs] at ho; cases ho
      obtain ⟨m', rfl⟩ : ∃ m', lb = .str m' := by
        cases hs : isStr lb with
        | true => cases lb <;> first | exact ⟨_, rfl⟩ | cases hs
        | false => rw [rowOk_n hs] at ho; cases ho
      obtain ⟨r, wf, rk, rn, rx, rnx⟩ := rowOk_rwd ho (fun ns e => by
        subst e
        obtain ⟨_, _, _, h⟩ := hv
        exact h)
      have hdue : dueV r = [.str z, .str m', .str (textT t)] := by
        unfold dueV xT
        rw [rk, rn]
        cases hX : isX r.k with
        | true =>
          rw [rx hX]
          rfl
        | false =>
          rw [rnx hX]
          rfl
      have rwat : ∀ H' a dx, Ex H13 H' → H' a = some (.ins A.Row dx [("kind", .str z), ("name", .str m'), ("expression", v)]) → RwAt A.Row A.Expression H' a r := fun H' a dx e h => by
        refine ⟨dx, v, ?_, ?_⟩
        · unfold rowF
          rw [rk, rn]
          exact h
        · unfold ExpV
          have hv' := hv13.mono e
          cases hX : isX r.k with
          | true =>
            rw [if_pos rfl]
            rw [rx hX] at hv'
            obtain ⟨x, h1, h2, _⟩ := hv'
            exact ⟨x, h1, h2⟩
          | false =>
            rw [if_neg (by decide)]
            rw [rnx hX] at hv'
            exact hv'
      refine ⟨_, rfl, _, rfl, _, rfl, _, rfl, sz_of (by show 3 ≤ 100000; decide), fun l1 hl1 => ?_⟩
      have eL := Ex.new (o := .lst [.str z, .str m', .str (textT t)]) hl1
      refine ⟨a, l1, r, rfl, rwat _ a dx eL (eL _ _ ha), wf, by rw [upd_same, hdue], fun H14 e15 => ⟨true, rfl, iteT ?_⟩⟩
      have eM := eL.trans e15
      have hkw14 := hkw13.mono eM
      refine ⟨_, rfl, _, rfl, _, rfl, _, rfl, sb, rfl, .str z, .str m', v, !sb, t, rfl, hkw14.kd, hlb, hv13.mono eM, fun _ a2 dx2 H15 e16 ha2 => ?_, fun hno => by rw [ho] at hno; cases hno⟩
      refine ⟨_, rfl, _, rfl, _, rfl, sz_of (by show 3 ≤ 100000; decide), fun l2 hl2 => ?_⟩
      have eN := Ex.new (o := .lst [.str z, .str m', .str (textT t)]) hl2
      have eO := (eM.trans e16).trans eN
      exact ⟨a2, l2, r, rfl, rwat _ a2 dx2 eO (eN _ _ ha2), wf, by rw [upd_same, hdue], fun H16 e17 => k _ ((eG.trans eO).trans e17)⟩
    · rw [ho] at hg
      subst hg
      obtain ⟨hw, hbl⟩ := cpk_w hkw13 hu
      obtain ⟨t1, ty1, kt1⟩ := hw.bty (K := K)
      obtain ⟨t2, ty2, kt2⟩ := hkw13.bty (K := K)
      refine ⟨_, rfl, false, rfl, iteT ⟨_, rfl, true, rfl, iteT ⟨_, rfl, what, _, t1, _, _, rfl, .ty "bool", ty1, kt1, _, rfl, kv, _, t2, _, _, rfl, .ty "bool", ty2, kt2, rfl, ?_⟩⟩⟩
      rw [hbl]
      refine ⟨true, (by rw [decide_eq_true rfl]), iteT ⟨_, rfl, _, rfl, dk, dk, hk3 H13 what hkw13.at hu, dkM _ (e13.trans e14), sdk, sdk, ?_⟩⟩
      rw [SeqAt.eqv_refl _ (SeqAt.canLay_of_shaped sdk)]
      exact k _ eG
end
end K20

set_option Elab.async false
set_option linter.all false
set_option maxRecDepth 100000
namespace K20
open PySem PySem.Spec PyProof.Rows L2 Evl TL UL StX
section
variable {P : Program} {w : World} {K : PySem.W.Frag} {mg : Str → Option Value} {base : Heap} {A : Adr}
/-! ### the law -/
theorem line_rT {r : Rwd} (wf : WfRw r) : lineO (rT r) = .row r := by
  have ks := (kS_plain r.k).1
  have jn2 : ∀ a b : Str, Txt.join " " [a, b] = a ++ " " ++ b := fun a b => by rw [join_eq]; rfl
  cases hB : isB r.k with
  | true =>
    have hX := isB_X hB
    have hx : exO (exT r.ns) = some r.ns := exO_some.mpr (ex_run (wf.x hX)).1
    have ho := wf.b hB
    have hw : ∀ v ∈ [kS r.k, r.nm, "=", exT r.ns], 32 ∉ tl v := fun v hv => by
      simp only [List.mem_cons, List.not_mem_nil, or_false] at hv
      rcases hv with rfl | rfl | rfl | rfl
      · exact ks
      · exact (okS_sp ho).1
      · decide +kernel
      · exact exO_sp hx
    have hj : Txt.join " " [kS r.k, r.nm, "=", exT r.ns] = rT r := by
      rw [join_eq]
      unfold rT
      rw [if_pos hB]
      refine ext_tl ?_
      show tl (kS r.k ++ " " ++ (r.nm ++ " " ++ ("=" ++ " " ++ exT r.ns))) = _
      simp only [tl_append, tl_sp, tl_eq, show tl ("=" : Str) = [61] by decide +kernel]
      simp
    rw [line_words (by simp) hw hj]
    show (if inV (.str (kS r.k)) k_BINDING = true ∧ _ ∧ _ then (match exO (exT r.ns) with
      | some ns => if ns.length ≤ 20 then Ln.row ⟨kdOf (kS r.k), r.nm, ns⟩ else .large
      | none => .none) else Ln.none) = _
    rw [if_pos ⟨by rw [k_binding, hB], rfl, ho⟩, hx, kdOf_kS]
    exact if_pos (wf.x hX).le
  | false =>
    have hn := wf.nb hB
    cases hX : isX r.k with
    | true =>
      have hx : exO (exT r.ns) = some r.ns := exO_some.mpr (ex_run (wf.x hX)).1
      have hu : r.k = .use := by
        revert hB hX
        cases r.k <;> decide
      have hT : rT r = Txt.join " " ["use", exT r.ns] := by
        rw [jn2]
        unfold rT
        rw [hB, hX, if_neg (by decide), if_pos rfl, hu]
        rfl
      rw [hT, line_words (ws := ["use", exT r.ns]) (by simp) (fun v hv => by
        simp only [List.mem_cons, List.not_mem_nil, or_false] at hv
        rcases hv with rfl | rfl
        · decide +kernel
        · exact exO_sp hx) rfl, lineW_use, hx]
      show (if r.ns.length ≤ 20 then _ else _) = _
      rw [if_pos (wf.x hX).le]
      obtain ⟨k, nm, ns⟩ := r
      cases hu
      cases hn
      rfl
    | false =>
      have hT : rT r = kS r.k := by
        unfold rT
        rw [hB, hX, if_neg (by decide), if_neg (by decide)]
      rw [hT, line_bare hX]
      obtain ⟨k, nm, ns⟩ := r
      cases hn
      cases wf.nx hX
      rfl
theorem xT_inj {r r' : Rwd} (wf : WfRw r) (wf' : WfRw r') (hk : r.k = r'.k) (h : xT r = xT r') : r.ns = r'.ns := by
  unfold xT at h
  rw [← hk] at h
  cases hX : isX r.k with
  | true =>
    rw [hX, if_pos rfl, if_pos rfl] at h
    have h1 := exO_some.mpr (ex_run (wf.x hX)).1
    have h2 := exO_some.mpr (ex_run (wf'.x (hk ▸ hX))).1
    rw [h, h2] at h1
    exact (Option.some.inj h1).symm
  | false =>
    rw [wf.nx hX, wf'.nx (hk ▸ hX)]
def dueD (r : Rwd) : List PyData := [.str (kS r.k), .str r.nm, .str (xT r)]
theorem due_eqv {r r' : Rwd} (wf : WfRw r) (wf' : WfRw r') : PyData.eqv (.list (dueD r)) (.list (dueD r')) = decide (r = r') := by
  show PyData.eqvAll (dueD r) (dueD r') = _
  unfold dueD
  show (PyData.eqv (.str (kS r.k)) (.str (kS r'.k)) && (PyData.eqv (.str r.nm) (.str r'.nm) && (PyData.eqv (.str (xT r)) (.str (xT r')) && true))) = _
  rw [eqv_str, eqv_str, eqv_str, Bool.and_true]
  by_cases h : r = r'
  · subst h
    simp
  · rw [decide_eq_false h]
    by_cases h1 : kS r.k = kS r'.k
    · by_cases h2 : r.nm = r'.nm
      · rw [decide_eq_false (show ¬ xT r = xT r' from fun e => h (by
          have hk := kS_inj h1
          have hn := xT_inj wf wf' hk e
          obtain ⟨k, nm, ns⟩ := r
          obtain ⟨k', nm', ns'⟩ := r'
          cases hk
          cases hn
          cases h2
          rfl))]
        simp
      · rw [decide_eq_false h2]
        simp
    · rw [decide_eq_false h1]
      simp
theorem due_sh {r : Rwd} (wf : WfRw r) : SeqAt.shaped (.list (dueD r)) = true := by
  refine shaped_strs (zs := [kS r.k, r.nm, xT r]) fun z hz => ?_
  simp only [List.mem_cons, List.not_mem_nil, or_false] at hz
  rcases hz with rfl | rfl | rfl
  · cases r.k <;> decide +kernel
  · cases hB : isB r.k with
    | true => exact okS_str (wf.b hB)
    | false =>
      rw [wf.nb hB]
      decide +kernel
  · unfold xT
    cases hX : isX r.k with
    | true => exact (exT_tx (wf.x hX)).strOk
    | false =>
      rw [if_neg (by decide)]
      decide +kernel
set_option maxHeartbeats 1600000
def spLaw (K : PySem.W.Frag) : Sp := fun vs H Q _ => ∃ (a : Addr) (ns : List Int), vs = [.ref a] ∧ SqL K H a (ns.map V.int) ∧ ns.length ≤ 63 ∧ ∀ H', Q (.bl true) H'
theorem ok_law (T : Tx0 w K mg A) : FnOk P w K mg base CX0 34 A.law A.d_law p_law (spLaw K) := by
  refine T.F_law.ok sc_law (fun vs H Q E h => ?_) (fun cdv Ar outer s H vs Q E hr h => ?_)
  · obtain ⟨a, ns, rfl, _⟩ := h
    rfl
  · obtain ⟨a, ns, rfl, hS, hlen, k⟩ := h
    refine ⟨_, (pss_cons (ps_set (i := 1) sc_law.nd rfl (Or.inr rfl) (pe_call (ok_draws T) (hr.mono (by decide)) (by rfl) T.g_draws T.F_draws.kp T.b_draws .nil pass0 (pa_cons (pv 0) pa_nil)))
      (pss_cons (ps_setLc (i := 2) (own := [("_law_k", 13)]) (g := gName 13) (tt := tYes) rfl sc_law.nd rfl rfl (sw_true rfl rfl rfl (by decide +kernel)) (pi_range1 (by rfl) T.m_range (pa_cons (pe_call (ok_take T) (hr.mono (by decide)) (by rfl) T.g_take T.F_take.kp T.b_take .nil pass0 (pa_cons (pv 1) (pa_cons pe_int pa_nil))) pa_nil)) (blkOk_by (N := n_law) (sc := defScope s_law) (by decide +kernel)) (fun _ _ _ _ _ => pg_name (i := 13) sc_law.nd rfl (Or.inl rfl)) (fun _ _ _ _ _ => pts_nil) (fun _ _ _ _ _ => (pe_call (ok_name T) (hr.mono (by decide)) (by rfl) T.g_name T.F_name.kp T.b_name .nil pass0 (pa_cons (pv 1) (pa_cons (pv 13) pa_nil)))))
      (pss_cons (ps_set (i := 3) sc_law.nd rfl (Or.inl rfl) (pe_call (ok_functions T) (hr.mono (by decide)) (by rfl) T.g_functions T.F_functions.kp T.b_functions .nil pass0 (pa_cons (pv 1) pa_nil)))
      (pss_cons (ps_if (PW.pt (pw_or (pt_not (pt_val (pe_call (ok_built T) (hr.mono (by decide)) (by rfl) T.g_built T.F_built.kp T.b_built .nil pass0 (pa_cons (pv 1) (pa_cons (pv 2) (pa_cons (pv 3) pa_nil)))))) (pw_or1 (pt_not (pt_val (pe_call (ok_built T) (hr.mono (by decide)) (by rfl) T.g_built T.F_built.kp T.b_built .nil pass0 (pa_cons (pv 1) (pa_cons (pv 2) (pa_cons (pv 3) pa_nil))))))))) (pss_one (ps_ret pe_bl)) pss_nil)
      (pss_cons (ps_set (i := 4) sc_law.nd rfl (Or.inl rfl) (pe_call (ok_ldrow T) (hr.mono (by decide)) (by rfl) T.g_ldrow T.F_ldrow.kp T.b_ldrow .nil pass0 (pa_cons (pv 1) (pa_cons (pv 2) (pa_cons (pv 3) (pa_cons pe_int pa_nil))))))
      (pss_cons (ps_set (i := 5) sc_law.nd rfl (Or.inl rfl) (pe_call (ok_ldrow T) (hr.mono (by decide)) (by rfl) T.g_ldrow T.F_ldrow.kp T.b_ldrow .nil pass0 (pa_cons (pv 1) (pa_cons (pv 2) (pa_cons (pv 3) (pa_cons pe_int pa_nil))))))
      (pss_cons (ps_if (PW.pt (pw_or (pt_not (pt_val (pe_call (ok_rholds T) (hr.mono (by decide)) (by rfl) T.g_rholds T.F_rholds.kp T.b_rholds .nil pass0 (pa_cons (pe_call (ok_lrtext T) (hr.mono (by decide)) (by rfl) T.g_lrtext T.F_lrtext.kp T.b_lrtext .nil pass0 (pa_cons (pv 4) pa_nil)) pa_nil)))) (pw_or1 (pt_not (pt_val (pe_call (ok_rholds T) (hr.mono (by decide)) (by rfl) T.g_rholds T.F_rholds.kp T.b_rholds .nil pass0 (pa_cons (pe_call (ok_spoilt T) (hr.mono (by decide)) (by rfl) T.g_spoilt T.F_spoilt.kp T.b_spoilt .nil pass0 (pa_cons (pv 1) (pa_cons (pe_call (ok_lrtext T) (hr.mono (by decide)) (by rfl) T.g_lrtext T.F_lrtext.kp T.b_lrtext .nil pass0 (pa_cons (pv 4) pa_nil)) pa_nil))) pa_nil))))))) (pss_one (ps_ret pe_bl)) pss_nil)
      (pss_cons (ps_if (pt_not (pt_val (pe_call (ok_rholds T) (hr.mono (by decide)) (by rfl) T.g_rholds T.F_rholds.kp T.b_rholds .nil pass0 (pa_cons (pe_call (ok_spoilt T) (hr.mono (by decide)) (by rfl) T.g_spoilt T.F_spoilt.kp T.b_spoilt .nil pass0 (pa_cons (pv 1) (pa_cons (pe_call (ok_lrtext T) (hr.mono (by decide)) (by rfl) T.g_lrtext T.F_lrtext.kp T.b_lrtext .nil pass0 (pa_cons (pv 5) pa_nil)) pa_nil))) pa_nil)))) (pss_one (ps_ret pe_bl)) pss_nil)
      (pss_cons (ps_for PassesOwn.never rfl (pi_list (pe_lst (pa_cons (pe_op op_add_str (pe_call (ok_lrtext T) (hr.mono (by decide)) (by rfl) T.g_lrtext T.F_lrtext.kp T.b_lrtext .nil pass0 (pa_cons (pv 4) pa_nil)) pe_str) (pa_cons (pe_op op_add_str pe_str (pe_call (ok_lrtext T) (hr.mono (by decide)) (by rfl) T.g_lrtext T.F_lrtext.kp T.b_lrtext .nil pass0 (pa_cons (pv 4) pa_nil))) (pa_cons (pe_op op_add_str (pe_call (ok_lrtext T) (hr.mono (by decide)) (by rfl) T.g_lrtext T.F_lrtext.kp T.b_lrtext .nil pass0 (pa_cons (pv 5) pa_nil)) pe_str) (pa_cons pe_str pa_nil)))))) (pg_name (i := 6) sc_law.nd rfl (Or.inl rfl)) (pss_one (ps_if (pt_not (pt_val (pe_call (ok_rholds T) (hr.mono (by decide)) (by rfl) T.g_rholds T.F_rholds.kp T.b_rholds .nil pass0 (pa_cons (pv 6) pa_nil)))) (pss_one (ps_ret pe_bl)) pss_nil)))
      (pss_cons (ps_set (i := 7) sc_law.nd rfl (Or.inl rfl) (pe_op op_add pe_int (pe_call (ok_take T) (hr.mono (by decide)) (by rfl) T.g_take T.F_take.kp T.b_take .nil pass0 (pa_cons (pv 1) (pa_cons pe_int pa_nil)))))
      (pss_cons (ps_set (i := 8) sc_law.nd rfl (Or.inl rfl) (pe_op op_add_str (pe_op op_add_str (pe_op op_add_str (pe_op op_add_str (pe_op op_add_str pe_str (pe_ix ix_list (pe_lst (pa_cons pe_str (pa_cons pe_str pa_nil))) (pe_call (ok_take T) (hr.mono (by decide)) (by rfl) T.g_take T.F_take.kp T.b_take .nil pass0 (pa_cons (pv 1) (pa_cons pe_int pa_nil))) (fun _ _ => rfl))) pe_str) (pe_op UL.op_mul_str pe_str (pv 7))) pe_str) (pe_op UL.op_mul_str pe_str (pv 7))))
      (pss_cons (ps_if (pt_not (pt_val (pe_call (ok_rholds T) (hr.mono (by decide)) (by rfl) T.g_rholds T.F_rholds.kp T.b_rholds .nil pass0 (pa_cons (pv 8) pa_nil)))) (pss_one (ps_ret pe_bl)) pss_nil)
      (pss_cons (ps_set (i := 9) sc_law.nd rfl (Or.inl rfl) (UL.pe_smS (E := fun _ => E0) (pe_glob (v := .ref A.Row) (by rfl) T.g_Row rfl) T.sm_row_read (ok_row_read T) (hr.mono (by decide)) T.b_row_read (fun σ pins H s e s' I c => passL pins σ H s e s' I c) (pa_cons (pe_call (ok_lrtext T) (hr.mono (by decide)) (by rfl) T.g_lrtext T.F_lrtext.kp T.b_lrtext .nil pass0 (pa_cons (pv 4) pa_nil)) pa_nil)))
      (pss_cons (ps_set (i := 10) sc_law.nd rfl (Or.inl rfl) (UL.pe_smS (E := fun _ => E0) (pe_glob (v := .ref A.Row) (by rfl) T.g_Row rfl) T.sm_row_read (ok_row_read T) (hr.mono (by decide)) T.b_row_read (fun σ pins H s e s' I c => passL pins σ H s e s' I c) (pa_cons (pe_call (ok_lrtext T) (hr.mono (by decide)) (by rfl) T.g_lrtext T.F_lrtext.kp T.b_lrtext .nil pass0 (pa_cons (pv 5) pa_nil)) pa_nil)))
      (pss_cons (ps_set (i := 11) sc_law.nd rfl (Or.inl rfl) (pe_lst (pa_cons (pe_cmpR (UL.op_ownEq (ok_row_eq T) (hr.mono (by decide)) T.e_row_eq.at_ T.e_row_eq.fn T.b_row_eq pass0) (pv 9) (pv 10) (nomark _)) (pa_cons (pe_cmpR (UL.op_ownEq (ok_row_eq T) (hr.mono (by decide)) T.e_row_eq.at_ T.e_row_eq.fn T.b_row_eq pass0) (pv 10) (pv 9) (nomark _)) (pa_cons (pe_cmpR (UL.op_ownEq (ok_row_eq T) (hr.mono (by decide)) T.e_row_eq.at_ T.e_row_eq.fn T.b_row_eq pass0) (pv 9) (UL.pe_smS (E := fun _ => E0) (pe_glob (v := .ref A.Row) (by rfl) T.g_Row rfl) T.sm_row_read (ok_row_read T) (hr.mono (by decide)) T.b_row_read (fun σ pins H s e s' I c => passL pins σ H s e s' I c) (pa_cons (pe_call (ok_lrtext T) (hr.mono (by decide)) (by rfl) T.g_lrtext T.F_lrtext.kp T.b_lrtext .nil pass0 (pa_cons (pv 4) pa_nil)) pa_nil)) (nomark _)) (pa_cons (pe_cmpR (UL.op_ownEq (ok_row_eq T) (hr.mono (by decide)) T.e_row_eq.at_ T.e_row_eq.fn T.b_row_eq pass0) (pv 9) (pe_call (ok_lrtext T) (hr.mono (by decide)) (by rfl) T.g_lrtext T.F_lrtext.kp T.b_lrtext .nil pass0 (pa_cons (pv 4) pa_nil)) (nomark _)) pa_nil))))))
      (pss_cons (ps_for PassesOwn.never rfl (pi_list (pv 11)) (pg_name (i := 12) sc_law.nd rfl (Or.inl rfl)) (pss_one (ps_if (pt_not (pt_val (pe_callB call_isi (by rfl) T.m_isinstance (by decide +kernel) (pa_cons (pv 12) (pa_cons (pe_bltn (v := .ty "bool") (u := .type "bool") (by rfl) T.m_bool (by decide +kernel) rfl) pa_nil))))) (pss_one (ps_ret pe_bl)) pss_nil)))
      (pss_one (ps_ret (pe_cmpR (op_eqD hr.units) (pv 11) (pe_lst (pa_cons (pe_cmpR (op_eqD hr.units) (pv 4) (pv 5) (nomark _)) (pa_cons (pe_cmpR (op_eqD hr.units) (pv 4) (pv 5) (nomark _)) (pa_cons pe_bl (pa_cons pe_bl pa_nil))))) (nomark _)))))))))))))))))))), ?_⟩
    refine ⟨_, rfl, a, ns, rfl, hS, hlen, fun d hdn => ?_⟩
    have hd0 : upd H d (DrO d) d = some (DrO d) := upd_same
    generalize upd H d (DrO d) = H0 at hd0 ⊢
    refine ⟨_, rfl, d, _, rfl, hd0, by decide, fun m m0 m1 => ?_⟩
    refine ⟨m, rfl, by omega, by omega, fun D hD => ?_⟩
    refine lc_strs (fun z => okS z = true) ⟨m0, by omega⟩ hD (fun _ => rfl) (fun i H' hi e Q' q => ?_) (fun H1 ws e1 hD1 hn hws => ?_)
    · exact ⟨_, rfl, _, rfl, d, (i : Int), rfl, e _ _ hd0, by omega, by omega, fun z H2 hz _ e2 => q z H2 hz e2⟩
    refine ⟨_, rfl, d, rfl, e1 _ _ hd0, fun F fs rs H2 hFn e2 hF hfit hrl => ?_⟩
    have hdA := e2 _ _ (e1 _ _ hd0)
    have hD2 := e2 _ _ hD1
    have hwl : ws.length ≤ 100 := by omega
    refine ⟨_, rfl, _, rfl, _, rfl, d, D, F, ws, fs, rs, rfl, hdA, hD2, hws, hwl, hF, hfit, fun H3 e3 => ⟨true, rfl, iteF ?_⟩⟩
    have F3 : ∀ {H'}, Ex H2 H' → RowsAt H' F fs (newR :: copyR :: rs) := fun e => ⟨e _ _ hF.1, rows_mono e hF.2⟩
    refine ⟨_, rfl, _, rfl, _, rfl, d, D, F, ws, fs, rs, rfl, e3 _ _ hdA, e3 _ _ hD2, hws, hwl, F3 e3, hfit, fun H4 e4 => ⟨true, rfl, iteF ?_⟩⟩
    have e24 := e3.trans e4
    refine ⟨_, rfl, _, rfl, _, rfl, d, D, F, 7, ws, fs, rs, rfl, e24 _ _ hdA, e24 _ _ hD2, hws, hwl, F3 e24, hfit, by decide, by decide, fun p1 r1 H5 e5 h1 w1 l1 => ?_⟩
    have e25 := e24.trans e5
    refine ⟨_, rfl, _, rfl, _, rfl, d, D, F, 3, ws, fs, rs, rfl, e25 _ _ hdA, e25 _ _ hD2, hws, hwl, F3 e25, hfit, by decide, by decide, fun p2 r2 H6 e6 h2 w2 l2 => ?_⟩
    have h1 := e6 _ _ h1
    have hd6 := (e25.trans e6) _ _ hdA
    clear e24 e25 e5 e6 e4 e3 F3 hF hD2 hdA
    have t1 := rT_tx w1
    have t2 := rT_tx w2
    refine ⟨_, rfl, p1, r1, rfl, h1, w1, rT r1, rfl, by omega, t1, fun H7 e7 => ⟨true, rfl, iteF ?_⟩⟩
    refine ⟨_, rfl, _, rfl, p1, r1, rfl, e7 _ _ h1, w1, d, rT r1, rfl, e7 _ _ hd6, l1, t1, fun y8 H8 e8 l8 t8 => ⟨y8, rfl, by omega, t8, fun H9 e9 => ⟨true, rfl, iteF ?_⟩⟩⟩
    have e69 := (e7.trans e8).trans e9
    refine ⟨_, rfl, _, rfl, p2, r2, rfl, e69 _ _ h2, w2, d, rT r2, rfl, e69 _ _ hd6, l2, t2, fun y8 H10 e10 l10 t10 => ⟨y8, rfl, by omega, t10, fun H11 e11 => ⟨true, rfl, iteF ?_⟩⟩⟩
    have e611 := (e69.trans e10).trans e11
    have l10' : ("\n" : Str).length = 1 := by decide +kernel
    have l32 : (" " : Str).length = 1 := by decide +kernel
    have x10 : TxC "\n" := by unfold TxC; decide +kernel
    have x32 : TxC " " := by unfold TxC; decide +kernel
    refine ⟨_, rfl, p1, r1, rfl, e611 _ _ h1, w1, _, _, rfl, rfl, sz_of (by rw [l10']; omega), _, rfl, p1, r1, rfl, e611 _ _ h1, w1, _, _, rfl, rfl, sz_of (by rw [l32]; omega), _, rfl, p2, r2, rfl, e611 _ _ h2, w2, _, _, rfl, rfl, sz_of (by rw [l32]; omega), sz_of (by show 4 ≤ 100000; decide), fun L4 hL4 => ?_⟩
    have e12 := e611.trans (Ex.new (o := .lst [.str (rT r1 ++ "\n"), .str (" " ++ rT r1), .str (rT r2 ++ " "), .str ""]) hL4)
    have hL5 : upd H11 L4 (.lst [.str (rT r1 ++ "\n"), .str (" " ++ rT r1), .str (rT r2 ++ " "), .str ""]) L4 = some (.lst [.str (rT r1 ++ "\n"), .str (" " ++ rT r1), .str (rT r2 ++ " "), .str ""]) := upd_same
    generalize upd H11 L4 (.lst [.str (rT r1 ++ "\n"), .str (" " ++ rT r1), .str (rT r2 ++ " "), .str ""]) = H12 at e12 hL5 ⊢
    have h1' := e12 _ _ h1
    have h2' := e12 _ _ h2
    have hd12 := e12 _ _ hd6
    clear e611 e69 e7 e8 e9 e10 e11 e12 h1 h2 hd6 hL4
    refine ⟨L4, rfl, ⟨_, SqL.of hL5⟩, ?_⟩
    refine for_it (walk_list (xs := [.str (rT r1 ++ "\n"), .str (" " ++ rT r1), .str (rT r2 ++ " "), .str ""])) (fun i σ' H' => ∃ v6, σ' = [some (.ref a), some (.ref d), some (.ref D), some (.ref F), some (.ref p1), some (.ref p2), v6, none, none, none, none, none, none, none] ∧ Ex H12 H') ⟨_, rfl, Ex.refl _⟩ (fun i σ' H' _ ⟨_, _, e⟩ => SqL.of (e _ _ hL5)) ?_ ?_
    · rintro i x σ' H13 H14 hi ⟨v6, rfl, e13⟩ ⟨rfl, hx⟩
      have hx := List.mem_of_getElem? hx
      obtain ⟨z, rfl, hz, tz⟩ : ∃ z, x = .str z ∧ z.length ≤ 400 ∧ TxC z := by
        simp only [List.mem_cons, List.not_mem_nil, or_false] at hx
        rcases hx with rfl | rfl | rfl | rfl
        · exact ⟨_, rfl, by rw [len_app, l10']; omega, t1.app x10⟩
        · exact ⟨_, rfl, by rw [len_app, l32]; omega, x32.app t1⟩
        · exact ⟨_, rfl, by rw [len_app, l32]; omega, t2.app x32⟩
        · exact ⟨"", rfl, by rw [len0]; omega, by unfold TxC; decide +kernel⟩
      exact ⟨_, rfl, z, rfl, hz, tz, fun H15 e15 => ⟨true, rfl, iteF ⟨_, rfl, e13.trans e15⟩⟩⟩
    rintro σ' H13 ⟨v6, rfl, e13⟩
    have h1 := e13 _ _ h1'
    have h2 := e13 _ _ h2'
    have hd := e13 _ _ hd12
    clear h1' h2' hd12 e13 hL5
    refine ⟨_, rfl, d, _, rfl, hd, by decide, fun m m0 m1 => ⟨18, m, rfl, rfl, ?_⟩⟩
    refine ⟨sz_of (by show 2 ≤ 100000; decide), fun q hq => ?_⟩
    have eQ := Ex.new (o := .lst [.str "x", .str "end"]) hq
    refine ⟨_, rfl, d, _, rfl, eQ _ _ hd, by decide, fun n n0 n1 => ?_⟩
    obtain ⟨w, hat, hwm⟩ := at_strs (xs := ["x", "end"]) n0 n1
    have hw : w.length ≤ 3 ∧ TxC w := by
      have : ∀ w ∈ [("x" : Str), "end"], w.length ≤ 3 ∧ TxC w := by unfold TxC; decide +kernel
      exact this w hwm
    have c1 : ("ref " : Str).length = 4 := by decide +kernel
    have c2 : (" = " : Str).length = 3 := by decide +kernel
    have c3 : ("part(" : Str).length = 5 := by decide +kernel
    have c4 : ("a" : Str).length = 1 := by decide +kernel
    have c5 : (")" : Str).length = 1 := by decide +kernel
    have q1 := mul_len "part(" (n := 18 + m) (m := 22) (by omega) (by omega)
    have q2 := mul_len ")" (n := 18 + m) (m := 22) (by omega) (by omega)
    rw [c3] at q1
    rw [c5] at q2
    have o1 : MulOk "part(" (18 + m) := mulOk_small (by rw [c3]; decide) (by omega) (by omega)
    have o2 : MulOk ")" (18 + m) := mulOk_small (by rw [c5]; decide) (by omega) (by omega)
    have x1 : TxC "ref " := by unfold TxC; decide +kernel
    have x2 : TxC " = " := by unfold TxC; decide +kernel
    have x3 : TxC "part(" := by unfold TxC; decide +kernel
    have x4 : TxC "a" := by unfold TxC; decide +kernel
    have x5 : TxC ")" := by unfold TxC; decide +kernel
    refine ⟨q, _, n, .str w, rfl, rfl, SqL.of upd_same, hat, _, _, rfl, rfl, sz_of (by rw [c1]; omega), _, _, rfl, rfl, sz_of (by rw [len_app, c1, c2]; omega), _, rfl, _, _, rfl, rfl, o1, _, _, rfl, rfl, sz_of (by rw [len_app, len_app, c1, c2]; omega), _, _, rfl, rfl, sz_of (by rw [len_app, len_app, len_app, c1, c2, c4]; omega), _, rfl, _, _, rfl, rfl, o2, _, _, rfl, rfl, sz_of (by rw [len_app, len_app, len_app, len_app, c1, c2, c4]; omega), ?_⟩
    refine ⟨_, rfl, _, rfl, by rw [len_app, len_app, len_app, len_app, len_app, c1, c2, c4]; omega, (((((x1.app hw.2).app x2).app (x3.mul _)).app x4).app (x5.mul _)), fun H14 e14 => ⟨true, rfl, iteF ?_⟩⟩
    have e14' := Ex.trans eQ e14
    have h1 := e14' _ _ h1
    have h2 := e14' _ _ h2
    clear hd eQ hq q1 q2 o1 o2 e14 e14' hat
    refine ⟨rfl, _, rfl, p1, r1, rfl, h1, w1, rT r1, rfl, by omega, ?_⟩
    rw [line_rT w1]
    intro _ a1 H15 e15 ha1
    have h2 := e15 _ _ h2
    have h1 := e15 _ _ h1
    refine ⟨rfl, _, rfl, p2, r2, rfl, h2, w2, rT r2, rfl, by omega, ?_⟩
    rw [line_rT w2]
    intro _ a2 H16 e16 ha2
    have h2 := e16 _ _ h2
    have h1 := e16 _ _ h1
    have ha1 := ha1.mono e16
    obtain ⟨dx1, u1, i1, _⟩ := id ha1
    obtain ⟨dx2, u2, i2, _⟩ := id ha2
    refine ⟨_, rfl, _, rfl, a1, dx1, _, rfl, i1, .inl ⟨a2, dx2, _, rfl, i2⟩, a1, r1, .ref a2, rfl, ha1, w1, .inr ⟨a2, r2, rfl, ha2, w2, ⟨_, rfl⟩, ?_⟩⟩
    refine ⟨_, rfl, _, rfl, a2, dx2, _, rfl, i2, .inl ⟨a1, dx1, _, rfl, i1⟩, a2, r2, .ref a1, rfl, ha2, w2, .inr ⟨a1, r1, rfl, ha1, w1, ⟨_, rfl⟩, ?_⟩⟩
    refine ⟨_, rfl, rfl, _, rfl, p1, r1, rfl, h1, w1, rT r1, rfl, by omega, ?_⟩
    rw [line_rT w1]
    intro _ a3 H17 e17 ha3
    have h2 := e17 _ _ h2
    have h1 := e17 _ _ h1
    have ha1 := ha1.mono e17
    have i1 := e17 _ _ i1
    obtain ⟨dx3, u3, i3, _⟩ := id ha3
    refine ⟨a1, dx1, _, rfl, i1, .inl ⟨a3, dx3, _, rfl, i3⟩, a1, r1, .ref a3, rfl, ha1, w1, .inr ⟨a3, r1, rfl, ha3, w1, ⟨_, rfl⟩, ?_⟩⟩
    refine ⟨_, rfl, _, rfl, p1, r1, rfl, h1, w1, a1, dx1, _, rfl, i1, .inr (.inl ⟨_, rfl, T.sbR_str⟩), a1, r1, _, rfl, ha1, w1, .inl ⟨⟨_, rfl⟩, ⟨_, rfl⟩, ?_⟩⟩
    rw [decide_eq_true (show r1 = r1 from rfl), show decide (r2 = r1) = decide (r1 = r2) from decide_eq_decide.mpr ⟨Eq.symm, Eq.symm⟩]
    generalize hbb : decide (r1 = r2) = bb
    refine ⟨sz_of (by show 4 ≤ 100000; decide), fun S hSd => ?_⟩
    have e18 := Ex.new (o := .lst [.bl bb, .bl bb, .bl true, .bl false]) hSd
    have hS1 : upd H17 S (.lst [.bl bb, .bl bb, .bl true, .bl false]) S = some (.lst [.bl bb, .bl bb, .bl true, .bl false]) := upd_same
    have h1 := e18 _ _ h1
    have h2 := e18 _ _ h2
    generalize upd H17 S (.lst [.bl bb, .bl bb, .bl true, .bl false]) = H18 at hS1 h1 h2 ⊢
    refine ⟨_, rfl, S, rfl, ⟨_, SqL.of hS1⟩, ?_⟩
    generalize Txt.mul ")" (18 + m) = zz at *
    refine for_it (walk_list (xs := [.bl bb, .bl bb, .bl true, .bl false])) (fun i σ' H' => ∃ v7 v8 v9 v10 v12 v13, σ' = [some (.ref a), some (.ref d), some (.ref D), some (.ref F), some (.ref p1), some (.ref p2), v6, v7, v8, v9, v10, some (.ref S), v12, v13] ∧ H' = H18) ⟨_, _, _, _, _, _, rfl, rfl⟩ (fun i σ' H' _ ⟨_, _, _, _, _, _, _, e⟩ => by rw [e]; exact SqL.of hS1) ?_ ?_
    · rintro i x σ' H19 H20 hi ⟨v7, v8, v9, v10, v12, v13, rfl, rfl⟩ ⟨rfl, hx⟩
      have hx := List.mem_of_getElem? hx
      obtain ⟨b, rfl⟩ : ∃ b, x = .bl b := by
        simp only [List.mem_cons, List.not_mem_nil, or_false] at hx
        rcases hx with rfl | rfl | rfl | rfl <;> exact ⟨_, rfl⟩
      exact ⟨_, rfl, .bl b, _, _, _, true, rfl, .ty "bool", .base (.bl b), kit_ty (r := true) (by decide +kernel), _, rfl, iteF ⟨_, _, _, _, _, _, rfl, rfl⟩⟩
    rintro σ' H19 ⟨v7, v8, v9, v10, v12, v13, rfl, rfl⟩
    have dd : ∀ {H' : Hp} {p : Addr} {r : Rwd}, H' p = some (.lst (dueV r)) → Dp K H' (.ref p) (.list (dueD r)) := fun h => .lst (SqL.of h) (.cons (.str _) (.cons (.str _) (.cons (.str _) .nil)))
    refine ⟨_, rfl, _, rfl, _, rfl, _, _, dd h1, dd h2, due_sh w1, due_sh w2, ?_⟩
    rw [due_eqv w1 w2, hbb]
    refine ⟨_, rfl, _, rfl, _, _, dd h1, dd h2, due_sh w1, due_sh w2, ?_⟩
    rw [due_eqv w1 w2, hbb]
    refine ⟨sz_of (by show 4 ≤ 100000; decide), fun S2 hS2 => ?_⟩
    have e20 := Ex.new (o := .lst [.bl bb, .bl bb, .bl true, .bl false]) hS2
    have bs : SeqAt.shaped (.list [.bool bb, .bool bb, .bool true, .bool false]) = true := by cases bb <;> decide +kernel
    refine ⟨.list [.bool bb, .bool bb, .bool true, .bool false], .list [.bool bb, .bool bb, .bool true, .bool false], .lst (SqL.of (e20 _ _ hS1)) (.cons (.bl _) (.cons (.bl _) (.cons (.bl _) (.cons (.bl _) .nil)))), .lst (SqL.of upd_same) (.cons (.bl _) (.cons (.bl _) (.cons (.bl _) (.cons (.bl _) .nil)))), bs, bs, ?_⟩
    rw [SeqAt.eqv_refl _ (SeqAt.canLay_of_shaped bs)]
    exact k _

end
set_option maxHeartbeats 4000000 in
theorem all_mk {l : PySem.W.OpenLaw} {w : World} {K : PySem.W.Frag} {h : Heap} {mg : Str → Option Value} {fa : Addr} (X : K.In h) (G : h.Ns mainGlobals mg) (hfa : mg "law" = some (.ref fa))
    {f0 f1 f2 f3 f4 f5 f6 f7 f8 f9 f10 f11 f12 f13 f14 f15 f16 f17 f18 f19 f20 f21 f22 f23 f24 f25 f26 f27 f28 f29 f30 f31 f32 f33 f34 f35 f36 f37 f38 f39 f40 f41 f42 f43 f44 : Addr}
    {od0 an0 od1 an1 od2 an2 od3 an3 od4 an4 od5 an5 od6 an6 od7 an7 od8 an8 od9 an9 od10 an10 od11 an11 od12 an12 od13 an13 od14 an14 od15 an15 od16 an16 od17 an17 od18 an18 od19 an19 od20 an20 od21 an21 od22 an22 od23 an23 od24 an24 od25 an25 od26 an26 od27 an27 od28 an28 od29 an29 od30 an30 od31 an31 od32 an32 od33 an33 od34 an34 od35 an35 od36 an36 od37 an37 od38 an38 od39 an39 od40 an40 od41 an41 od42 an42 od43 an43 od44 an44 : Option Addr}
    {sl0 sl1 sl2 sl3 sl4 sl5 sl6 sl7 sl8 sl9 sl10 sl11 sl12 sl13 sl14 sl15 sl16 sl17 sl18 sl19 sl20 sl21 sl22 sl23 sl24 sl25 sl26 sl27 sl28 sl29 sl30 sl31 sl32 sl33 sl34 sl35 sl36 sl37 sl38 sl39 sl40 sl41 sl42 sl43 sl44 : Array (Option Value)}
    {oc0 kV0 dc0 pm0 cd0 ct0 oc1 kV1 dc1 pm1 cd1 ct1 oc2 kV2 dc2 pm2 cd2 ct2 oc3 kV3 dc3 pm3 cd3 ct3 oc4 kV4 dc4 pm4 cd4 ct4 oc5 kV5 dc5 pm5 cd5 ct5 oc6 kV6 dc6 pm6 cd6 ct6 oc7 kV7 dc7 pm7 cd7 ct7 oc8 kV8 dc8 pm8 cd8 ct8 oc9 kV9 dc9 pm9 cd9 ct9 oc10 kV10 dc10 pm10 cd10 ct10 oc11 kV11 dc11 pm11 cd11 ct11 oc12 kV12 dc12 pm12 cd12 ct12 oc13 kV13 dc13 pm13 cd13 ct13 oc14 kV14 dc14 pm14 cd14 ct14 oc15 kV15 dc15 pm15 cd15 ct15 oc16 kV16 dc16 pm16 cd16 ct16 oc17 dc17 pm17 cd17 ct17 oc18 kV18 dc18 pm18 cd18 ct18 oc19 kV19 dc19 pm19 cd19 ct19 oc20 kV20 dc20 pm20 cd20 ct20 oc21 kV21 dc21 pm21 cd21 ct21 oc22 dc22 pm22 cd22 ct22 oc23 kV23 dc23 pm23 cd23 ct23 oc24 kV24 dc24 pm24 cd24 ct24 oc25 kV25 dc25 pm25 cd25 ct25 oc26 kV26 dc26 pm26 cd26 ct26 oc27 kV27 dc27 pm27 cd27 ct27 oc28 kV28 dc28 pm28 cd28 ct28 oc29 kV29 dc29 pm29 cd29 ct29 oc30 kV30 dc30 pm30 cd30 ct30 oc31 kV31 dc31 pm31 cd31 ct31 oc32 kV32 dc32 pm32 cd32 ct32 oc33 kV33 dc33 pm33 cd33 ct33 oc34 kV34 dc34 pm34 cd34 ct34 oc35 kV35 dc35 pm35 cd35 ct35 oc36 kV36 dc36 pm36 cd36 ct36 oc37 kV37 dc37 pm37 cd37 ct37 oc38 kV38 dc38 pm38 cd38 ct38 oc39 kV39 dc39 pm39 cd39 ct39 oc40 kV40 dc40 pm40 cd40 ct40 oc41 kV41 dc41 pm41 cd41 ct41 oc42 kV42 dc42 pm42 cd42 ct42 oc43 kV43 dc43 pm43 cd43 ct43 oc44 kV44 dc44 pm44 cd44 ct44 : Value}
    {xLivesError : Addr}
    {xTooLarge : Addr}
    {xExpression : Addr}
    {xNoPlace : Addr}
    {xInvalidExpression : Addr}
    {xRow : Addr}
    {xInvalidRow : Addr}
    {xBARE : Addr} {vBARE : List Value} {odBARE : Option Addr} {nnBARE : Nat} {slBARE : Array (Option Value)}
    {xBINDING : Addr} {vBINDING : List Value} {odBINDING : Option Addr} {nnBINDING : Nat} {slBINDING : Array (Option Value)}
    {tDIGITS : Nat}
    {tLETTERS : Nat}
    {tMOST_ARGUMENTS : Nat}
    {tMOST_CHARACTERS : Nat}
    {xOPERATIONS : Addr} {esOPERATIONS : Array DictEntry} {nnOPERATIONS : Nat}
    {xRESERVED : Addr} {vRESERVED : List Value} {odRESERVED : Option Addr} {nnRESERVED : Nat} {slRESERVED : Array (Option Value)}
    {dT0 : Addr} {dO0 : Option Addr} {dN0 : Nat} {dS0 : Array (Option Value)} {dt0x0 : Nat}
    {pr14 : Addr} {re14 : List Value}
    {pr15 : Addr} {re15 : List Value}
    {kD17 : Addr}
    {kD22 : Addr}
    {kt22name : Nat}
    {pr24 : Addr} {re24 : List Value}
    {nmLivesError qLivesError : Str} {NLivesError : Addr} {bsLivesError bmLivesError : List Value} {snLivesError : List Str} {subLivesError : List Value} {abLivesError : Bool} {colLivesError : Option Bool} {ddLivesError : Option Addr} {m0LivesError m1LivesError m2LivesError m3LivesError m5LivesError : Option Value}
    {nmTooLarge qTooLarge : Str} {NTooLarge : Addr} {bsTooLarge bmTooLarge : List Value} {snTooLarge : List Str} {subTooLarge : List Value} {abTooLarge : Bool} {colTooLarge : Option Bool} {ddTooLarge : Option Addr} {m0TooLarge m1TooLarge m2TooLarge m3TooLarge m5TooLarge : Option Value}
    {cuExpressionMOST_NODES : Nat}
    {nmNoPlace qNoPlace : Str} {NNoPlace : Addr} {bsNoPlace bmNoPlace : List Value} {snNoPlace : List Str} {subNoPlace : List Value} {abNoPlace : Bool} {colNoPlace : Option Bool} {ddNoPlace : Option Addr} {m0NoPlace m1NoPlace m2NoPlace m3NoPlace m5NoPlace : Option Value}
    {nmInvalidExpression qInvalidExpression : Str} {NInvalidExpression : Addr} {bsInvalidExpression bmInvalidExpression : List Value} {snInvalidExpression : List Str} {subInvalidExpression : List Value} {abInvalidExpression : Bool} {colInvalidExpression : Option Bool} {ddInvalidExpression : Option Addr} {m0InvalidExpression m1InvalidExpression m2InvalidExpression m3InvalidExpression m5InvalidExpression : Option Value}
    {nmInvalidRow qInvalidRow : Str} {NInvalidRow : Addr} {bsInvalidRow bmInvalidRow : List Value} {snInvalidRow : List Str} {subInvalidRow : List Value} {abInvalidRow : Bool} {colInvalidRow : Option Bool} {ddInvalidRow : Option Addr} {m0InvalidRow m1InvalidRow m2InvalidRow m3InvalidRow m5InvalidRow : Option Value}
    (aCLivesError : PySem.W.nsIn K mainGlobals "LivesError" = some (some (.ref xLivesError)))
    (aCTooLarge : PySem.W.nsIn K mainGlobals "TooLarge" = some (some (.ref xTooLarge)))
    (aCExpression : PySem.W.nsIn K mainGlobals "Expression" = some (some (.ref xExpression)))
    (aCNoPlace : PySem.W.nsIn K mainGlobals "NoPlace" = some (some (.ref xNoPlace)))
    (aCInvalidExpression : PySem.W.nsIn K mainGlobals "InvalidExpression" = some (some (.ref xInvalidExpression)))
    (aCRow : PySem.W.nsIn K mainGlobals "Row" = some (some (.ref xRow)))
    (aCInvalidRow : PySem.W.nsIn K mainGlobals "InvalidRow" = some (some (.ref xInvalidRow)))
    (a0 : PySem.W.nsIn K mainGlobals "copied" = some (some (.ref f0)))
    (l0 : K.lookup f0 = some ⟨oc0, od0, .func (PySem.W.fnOf "copied" "copied" (defArgs s_copied) (defBody s_copied) (defScope s_copied) (.ref dT0) kV0 dc0 pm0 an0 cd0 ct0), sl0⟩)
    (dl0 : K.lookup dT0 = some ⟨.type "tuple", dO0, .seq ([.int 4 dt0x0] : List Value).toArray dN0, dS0⟩)
    (c0 : PySem.W.codeIn K cd0 "copied" = true)
    (k0 : PySem.W.keepIn K (.ref f0) = true)
    (a1 : PySem.W.findIn K (.ref xLivesError) "__init__" = some (some (.ref f1)))
    (i1 : PySem.W.typeIn K (.ref f1) = some (.type "function"))
    (l1 : K.lookup f1 = some ⟨oc1, od1, .func (PySem.W.fnOf "__init__" "LivesError.__init__" (defArgs s_lives_init) (defBody s_lives_init) (defScope s_lives_init) .none kV1 dc1 pm1 an1 cd1 ct1), sl1⟩)
    (c1 : PySem.W.codeIn K cd1 "LivesError.__init__" = true)
    (k1 : PySem.W.keepIn K (.ref f1) = true)
    (a2 : PySem.W.nsIn K mainGlobals "is_whole" = some (some (.ref f2)))
    (l2 : K.lookup f2 = some ⟨oc2, od2, .func (PySem.W.fnOf "is_whole" "is_whole" (defArgs s_is_whole) (defBody s_is_whole) (defScope s_is_whole) .none kV2 dc2 pm2 an2 cd2 ct2), sl2⟩)
    (c2 : PySem.W.codeIn K cd2 "is_whole" = true)
    (k2 : PySem.W.keepIn K (.ref f2) = true)
    (a3 : PySem.W.nsIn K mainGlobals "is_integer_in" = some (some (.ref f3)))
    (l3 : K.lookup f3 = some ⟨oc3, od3, .func (PySem.W.fnOf "is_integer_in" "is_integer_in" (defArgs s_is_int) (defBody s_is_int) (defScope s_is_int) .none kV3 dc3 pm3 an3 cd3 ct3), sl3⟩)
    (c3 : PySem.W.codeIn K cd3 "is_integer_in" = true)
    (k3 : PySem.W.keepIn K (.ref f3) = true)
    (a4 : PySem.W.nsIn K mainGlobals "is_name" = some (some (.ref f4)))
    (l4 : K.lookup f4 = some ⟨oc4, od4, .func (PySem.W.fnOf "is_name" "is_name" (defArgs s_is_name) (defBody s_is_name) (defScope s_is_name) .none kV4 dc4 pm4 an4 cd4 ct4), sl4⟩)
    (c4 : PySem.W.codeIn K cd4 "is_name" = true)
    (k4 : PySem.W.keepIn K (.ref f4) = true)
    (a5 : PySem.W.nsIn K mainGlobals "cut" = some (some (.ref f5)))
    (l5 : K.lookup f5 = some ⟨oc5, od5, .func (PySem.W.fnOf "cut" "cut" (defArgs s_cut) (defBody s_cut) (defScope s_cut) .none kV5 dc5 pm5 an5 cd5 ct5), sl5⟩)
    (c5 : PySem.W.codeIn K cd5 "cut" = true)
    (k5 : PySem.W.keepIn K (.ref f5) = true)
    (a6 : PySem.W.nsIn K mainGlobals "operation" = some (some (.ref f6)))
    (l6 : K.lookup f6 = some ⟨oc6, od6, .func (PySem.W.fnOf "operation" "operation" (defArgs s_operation) (defBody s_operation) (defScope s_operation) .none kV6 dc6 pm6 an6 cd6 ct6), sl6⟩)
    (c6 : PySem.W.codeIn K cd6 "operation" = true)
    (k6 : PySem.W.keepIn K (.ref f6) = true)
    (a7 : PySem.W.nsIn K mainGlobals "closed" = some (some (.ref f7)))
    (l7 : K.lookup f7 = some ⟨oc7, od7, .func (PySem.W.fnOf "closed" "closed" (defArgs s_closed) (defBody s_closed) (defScope s_closed) .none kV7 dc7 pm7 an7 cd7 ct7), sl7⟩)
    (c7 : PySem.W.codeIn K cd7 "closed" = true)
    (k7 : PySem.W.keepIn K (.ref f7) = true)
    (a8 : PySem.W.nsIn K mainGlobals "add_node" = some (some (.ref f8)))
    (l8 : K.lookup f8 = some ⟨oc8, od8, .func (PySem.W.fnOf "add_node" "add_node" (defArgs s_add_node) (defBody s_add_node) (defScope s_add_node) .none kV8 dc8 pm8 an8 cd8 ct8), sl8⟩)
    (c8 : PySem.W.codeIn K cd8 "add_node" = true)
    (k8 : PySem.W.keepIn K (.ref f8) = true)
    (a9 : PySem.W.nsIn K mainGlobals "nodes_of" = some (some (.ref f9)))
    (l9 : K.lookup f9 = some ⟨oc9, od9, .func (PySem.W.fnOf "nodes_of" "nodes_of" (defArgs s_nodes_of) (defBody s_nodes_of) (defScope s_nodes_of) .none kV9 dc9 pm9 an9 cd9 ct9), sl9⟩)
    (c9 : PySem.W.codeIn K cd9 "nodes_of" = true)
    (k9 : PySem.W.keepIn K (.ref f9) = true)
    (a10 : PySem.W.nsIn K mainGlobals "operands_of" = some (some (.ref f10)))
    (l10 : K.lookup f10 = some ⟨oc10, od10, .func (PySem.W.fnOf "operands_of" "operands_of" (defArgs s_operands_of) (defBody s_operands_of) (defScope s_operands_of) .none kV10 dc10 pm10 an10 cd10 ct10), sl10⟩)
    (c10 : PySem.W.codeIn K cd10 "operands_of" = true)
    (k10 : PySem.W.keepIn K (.ref f10) = true)
    (a11 : PySem.W.nsIn K mainGlobals "firsts_of" = some (some (.ref f11)))
    (l11 : K.lookup f11 = some ⟨oc11, od11, .func (PySem.W.fnOf "firsts_of" "firsts_of" (defArgs s_firsts_of) (defBody s_firsts_of) (defScope s_firsts_of) .none kV11 dc11 pm11 an11 cd11 ct11), sl11⟩)
    (c11 : PySem.W.codeIn K cd11 "firsts_of" = true)
    (k11 : PySem.W.keepIn K (.ref f11) = true)
    (a12 : PySem.W.nsIn K mainGlobals "node_text" = some (some (.ref f12)))
    (l12 : K.lookup f12 = some ⟨oc12, od12, .func (PySem.W.fnOf "node_text" "node_text" (defArgs s_node_text) (defBody s_node_text) (defScope s_node_text) .none kV12 dc12 pm12 an12 cd12 ct12), sl12⟩)
    (c12 : PySem.W.codeIn K cd12 "node_text" = true)
    (k12 : PySem.W.keepIn K (.ref f12) = true)
    (a13 : PySem.W.findIn K (.ref xExpression) "__init__" = some (some (.ref f13)))
    (i13 : PySem.W.isFn K (.ref f13) = true)
    (l13 : K.lookup f13 = some ⟨oc13, od13, .func (PySem.W.fnOf "__init__" "Expression.__init__" (defArgs s_ex_init) (defBody s_ex_init) (defScope s_ex_init) .none kV13 dc13 pm13 an13 cd13 ct13), sl13⟩)
    (c13 : PySem.W.codeIn K cd13 "Expression.__init__" = true)
    (k13 : PySem.W.keepIn K (.ref f13) = true)
    (a14 : PySem.W.findCls K (.ref xExpression) (.type "type") "read" = some (.get (.builtin "classmethod.__get__") (.ref pr14) .none (.ref xExpression)))
    (pc14 : PySem.W.recIn K pr14 "classmethod" = some (.ref f14 :: re14))
    (fi14 : PySem.W.fnIn K f14 = true)
    (l14 : K.lookup f14 = some ⟨oc14, od14, .func (PySem.W.fnOf "read" "Expression.read" (defArgs s_ex_read) (defBody s_ex_read) (defScope s_ex_read) .none kV14 dc14 pm14 an14 cd14 ct14), sl14⟩)
    (c14 : PySem.W.codeIn K cd14 "Expression.read" = true)
    (k14 : PySem.W.keepIn K (.ref f14) = true)
    (a15 : PySem.W.findIn K (.ref xExpression) "nodes" = some (some (.ref pr15)))
    (pg15 : PySem.W.specialIn K (.ref pr15) "__get__" = some (some (.builtin "property.__get__")))
    (pt15 : PySem.W.takesIn K (.ref pr15) = some true)
    (pc15 : PySem.W.recIn K pr15 "property" = some (.ref f15 :: re15))
    (l15 : K.lookup f15 = some ⟨oc15, od15, .func (PySem.W.fnOf "nodes" "Expression.nodes" (defArgs s_ex_nodes) (defBody s_ex_nodes) (defScope s_ex_nodes) .none kV15 dc15 pm15 an15 cd15 ct15), sl15⟩)
    (c15 : PySem.W.codeIn K cd15 "Expression.nodes" = true)
    (k15 : PySem.W.keepIn K (.ref f15) = true)
    (a16 : PySem.W.findIn K (.ref xExpression) "first" = some (some (.ref f16)))
    (i16 : PySem.W.isFn K (.ref f16) = true)
    (l16 : K.lookup f16 = some ⟨oc16, od16, .func (PySem.W.fnOf "first" "Expression.first" (defArgs s_ex_first) (defBody s_ex_first) (defScope s_ex_first) .none kV16 dc16 pm16 an16 cd16 ct16), sl16⟩)
    (c16 : PySem.W.codeIn K cd16 "Expression.first" = true)
    (k16 : PySem.W.keepIn K (.ref f16) = true)
    (a17 : PySem.W.findIn K (.ref xExpression) "part_text" = some (some (.ref f17)))
    (i17 : PySem.W.isFn K (.ref f17) = true)
    (l17 : K.lookup f17 = some ⟨oc17, od17, .func (PySem.W.fnOf "part_text" "Expression.part_text" (defArgs s_part_text) (defBody s_part_text) (defScope s_part_text) .none (.ref kD17) dc17 pm17 an17 cd17 ct17), sl17⟩)
    (c17 : PySem.W.codeIn K cd17 "Expression.part_text" = true)
    (k17 : PySem.W.keepIn K (.ref f17) = true)
    (kw17named : PySem.W.nsIn K kD17 "named" = some (some (.none)))
    (a18 : PySem.W.findIn K (.ref xExpression) "text" = some (some (.ref f18)))
    (i18 : PySem.W.isFn K (.ref f18) = true)
    (l18 : K.lookup f18 = some ⟨oc18, od18, .func (PySem.W.fnOf "text" "Expression.text" (defArgs s_ex_text) (defBody s_ex_text) (defScope s_ex_text) .none kV18 dc18 pm18 an18 cd18 ct18), sl18⟩)
    (c18 : PySem.W.codeIn K cd18 "Expression.text" = true)
    (k18 : PySem.W.keepIn K (.ref f18) = true)
    (a19 : PySem.W.findIn K (.ref xExpression) "__eq__" = some (some (.ref f19)))
    (i19 : PySem.W.isFn K (.ref f19) = true)
    (l19 : K.lookup f19 = some ⟨oc19, od19, .func (PySem.W.fnOf "__eq__" "Expression.__eq__" (defArgs s_ex_eq) (defBody s_ex_eq) (defScope s_ex_eq) .none kV19 dc19 pm19 an19 cd19 ct19), sl19⟩)
    (c19 : PySem.W.codeIn K cd19 "Expression.__eq__" = true)
    (k19 : PySem.W.keepIn K (.ref f19) = true)
    (a20 : PySem.W.nsIn K mainGlobals "is_row" = some (some (.ref f20)))
    (l20 : K.lookup f20 = some ⟨oc20, od20, .func (PySem.W.fnOf "is_row" "is_row" (defArgs s_is_row) (defBody s_is_row) (defScope s_is_row) .none kV20 dc20 pm20 an20 cd20 ct20), sl20⟩)
    (c20 : PySem.W.codeIn K cd20 "is_row" = true)
    (k20 : PySem.W.keepIn K (.ref f20) = true)
    (a21 : PySem.W.nsIn K mainGlobals "parts_of" = some (some (.ref f21)))
    (l21 : K.lookup f21 = some ⟨oc21, od21, .func (PySem.W.fnOf "parts_of" "parts_of" (defArgs s_parts_of) (defBody s_parts_of) (defScope s_parts_of) .none kV21 dc21 pm21 an21 cd21 ct21), sl21⟩)
    (c21 : PySem.W.codeIn K cd21 "parts_of" = true)
    (k21 : PySem.W.keepIn K (.ref f21) = true)
    (a22 : PySem.W.findIn K (.ref xRow) "__init__" = some (some (.ref f22)))
    (i22 : PySem.W.isFn K (.ref f22) = true)
    (l22 : K.lookup f22 = some ⟨oc22, od22, .func (PySem.W.fnOf "__init__" "Row.__init__" (defArgs s_row_init) (defBody s_row_init) (defScope s_row_init) .none (.ref kD22) dc22 pm22 an22 cd22 ct22), sl22⟩)
    (c22 : PySem.W.codeIn K cd22 "Row.__init__" = true)
    (k22 : PySem.W.keepIn K (.ref f22) = true)
    (kw22name : PySem.W.nsIn K kD22 "name" = some (some (.str "" kt22name)))
    (kw22expression : PySem.W.nsIn K kD22 "expression" = some (some (.none)))
    (a23 : PySem.W.findIn K (.ref xRow) "text" = some (some (.ref f23)))
    (i23 : PySem.W.isFn K (.ref f23) = true)
    (l23 : K.lookup f23 = some ⟨oc23, od23, .func (PySem.W.fnOf "text" "Row.text" (defArgs s_row_text) (defBody s_row_text) (defScope s_row_text) .none kV23 dc23 pm23 an23 cd23 ct23), sl23⟩)
    (c23 : PySem.W.codeIn K cd23 "Row.text" = true)
    (k23 : PySem.W.keepIn K (.ref f23) = true)
    (a24 : PySem.W.findCls K (.ref xRow) (.type "type") "read" = some (.get (.builtin "staticmethod.__get__") (.ref pr24) .none (.ref xRow)))
    (pc24 : PySem.W.recIn K pr24 "staticmethod" = some (.ref f24 :: re24))
    (rd24 : PySem.W.readsIn K xRow (.type "type") = true)
    (rg24 : PySem.W.specialIn K (.ref xRow) "__getattribute__" = some (some (.builtin "type.__getattribute__")))
    (l24 : K.lookup f24 = some ⟨oc24, od24, .func (PySem.W.fnOf "read" "Row.read" (defArgs s_row_read) (defBody s_row_read) (defScope s_row_read) .none kV24 dc24 pm24 an24 cd24 ct24), sl24⟩)
    (c24 : PySem.W.codeIn K cd24 "Row.read" = true)
    (k24 : PySem.W.keepIn K (.ref f24) = true)
    (a25 : PySem.W.findIn K (.ref xRow) "__eq__" = some (some (.ref f25)))
    (i25 : PySem.W.isFn K (.ref f25) = true)
    (l25 : K.lookup f25 = some ⟨oc25, od25, .func (PySem.W.fnOf "__eq__" "Row.__eq__" (defArgs s_row_eq) (defBody s_row_eq) (defScope s_row_eq) .none kV25 dc25 pm25 an25 cd25 ct25), sl25⟩)
    (c25 : PySem.W.codeIn K cd25 "Row.__eq__" = true)
    (k25 : PySem.W.keepIn K (.ref f25) = true)
    (a26 : PySem.W.nsIn K mainGlobals "_law_draws" = some (some (.ref f26)))
    (l26 : K.lookup f26 = some ⟨oc26, od26, .func (PySem.W.fnOf "_law_draws" "_law_draws" (defArgs s_draws) (defBody s_draws) (defScope s_draws) .none kV26 dc26 pm26 an26 cd26 ct26), sl26⟩)
    (c26 : PySem.W.codeIn K cd26 "_law_draws" = true)
    (k26 : PySem.W.keepIn K (.ref f26) = true)
    (a27 : PySem.W.nsIn K mainGlobals "_law_take" = some (some (.ref f27)))
    (l27 : K.lookup f27 = some ⟨oc27, od27, .func (PySem.W.fnOf "_law_take" "_law_take" (defArgs s_take) (defBody s_take) (defScope s_take) .none kV27 dc27 pm27 an27 cd27 ct27), sl27⟩)
    (c27 : PySem.W.codeIn K cd27 "_law_take" = true)
    (k27 : PySem.W.keepIn K (.ref f27) = true)
    (a28 : PySem.W.nsIn K mainGlobals "_law_name" = some (some (.ref f28)))
    (l28 : K.lookup f28 = some ⟨oc28, od28, .func (PySem.W.fnOf "_law_name" "_law_name" (defArgs s_name) (defBody s_name) (defScope s_name) .none kV28 dc28 pm28 an28 cd28 ct28), sl28⟩)
    (c28 : PySem.W.codeIn K cd28 "_law_name" = true)
    (k28 : PySem.W.keepIn K (.ref f28) = true)
    (a29 : PySem.W.nsIn K mainGlobals "_law_functions" = some (some (.ref f29)))
    (l29 : K.lookup f29 = some ⟨oc29, od29, .func (PySem.W.fnOf "_law_functions" "_law_functions" (defArgs s_functions) (defBody s_functions) (defScope s_functions) .none kV29 dc29 pm29 an29 cd29 ct29), sl29⟩)
    (c29 : PySem.W.codeIn K cd29 "_law_functions" = true)
    (k29 : PySem.W.keepIn K (.ref f29) = true)
    (a30 : PySem.W.nsIn K mainGlobals "_law_add" = some (some (.ref f30)))
    (l30 : K.lookup f30 = some ⟨oc30, od30, .func (PySem.W.fnOf "_law_add" "_law_add" (defArgs s_add) (defBody s_add) (defScope s_add) .none kV30 dc30 pm30 an30 cd30 ct30), sl30⟩)
    (c30 : PySem.W.codeIn K cd30 "_law_add" = true)
    (k30 : PySem.W.keepIn K (.ref f30) = true)
    (a31 : PySem.W.nsIn K mainGlobals "_law_expression" = some (some (.ref f31)))
    (l31 : K.lookup f31 = some ⟨oc31, od31, .func (PySem.W.fnOf "_law_expression" "_law_expression" (defArgs s_expression) (defBody s_expression) (defScope s_expression) .none kV31 dc31 pm31 an31 cd31 ct31), sl31⟩)
    (c31 : PySem.W.codeIn K cd31 "_law_expression" = true)
    (k31 : PySem.W.keepIn K (.ref f31) = true)
    (a32 : PySem.W.nsIn K mainGlobals "_law_words" = some (some (.ref f32)))
    (l32 : K.lookup f32 = some ⟨oc32, od32, .func (PySem.W.fnOf "_law_words" "_law_words" (defArgs s_words) (defBody s_words) (defScope s_words) .none kV32 dc32 pm32 an32 cd32 ct32), sl32⟩)
    (c32 : PySem.W.codeIn K cd32 "_law_words" = true)
    (k32 : PySem.W.keepIn K (.ref f32) = true)
    (a33 : PySem.W.nsIn K mainGlobals "_law_is_name" = some (some (.ref f33)))
    (l33 : K.lookup f33 = some ⟨oc33, od33, .func (PySem.W.fnOf "_law_is_name" "_law_is_name" (defArgs s_lname) (defBody s_lname) (defScope s_lname) .none kV33 dc33 pm33 an33 cd33 ct33), sl33⟩)
    (c33 : PySem.W.codeIn K cd33 "_law_is_name" = true)
    (k33 : PySem.W.keepIn K (.ref f33) = true)
    (a34 : PySem.W.nsIn K mainGlobals "_law_word_fits" = some (some (.ref f34)))
    (l34 : K.lookup f34 = some ⟨oc34, od34, .func (PySem.W.fnOf "_law_word_fits" "_law_word_fits" (defArgs s_wfits) (defBody s_wfits) (defScope s_wfits) .none kV34 dc34 pm34 an34 cd34 ct34), sl34⟩)
    (c34 : PySem.W.codeIn K cd34 "_law_word_fits" = true)
    (k34 : PySem.W.keepIn K (.ref f34) = true)
    (a35 : PySem.W.nsIn K mainGlobals "_law_count" = some (some (.ref f35)))
    (l35 : K.lookup f35 = some ⟨oc35, od35, .func (PySem.W.fnOf "_law_count" "_law_count" (defArgs s_lcount) (defBody s_lcount) (defScope s_lcount) .none kV35 dc35 pm35 an35 cd35 ct35), sl35⟩)
    (c35 : PySem.W.codeIn K cd35 "_law_count" = true)
    (k35 : PySem.W.keepIn K (.ref f35) = true)
    (a36 : PySem.W.nsIn K mainGlobals "_law_read_row" = some (some (.ref f36)))
    (l36 : K.lookup f36 = some ⟨oc36, od36, .func (PySem.W.fnOf "_law_read_row" "_law_read_row" (defArgs s_lrrow) (defBody s_lrrow) (defScope s_lrrow) .none kV36 dc36 pm36 an36 cd36 ct36), sl36⟩)
    (c36 : PySem.W.codeIn K cd36 "_law_read_row" = true)
    (k36 : PySem.W.keepIn K (.ref f36) = true)
    (a37 : PySem.W.nsIn K mainGlobals "_law_row_text" = some (some (.ref f37)))
    (l37 : K.lookup f37 = some ⟨oc37, od37, .func (PySem.W.fnOf "_law_row_text" "_law_row_text" (defArgs s_lrtext) (defBody s_lrtext) (defScope s_lrtext) .none kV37 dc37 pm37 an37 cd37 ct37), sl37⟩)
    (c37 : PySem.W.codeIn K cd37 "_law_row_text" = true)
    (k37 : PySem.W.keepIn K (.ref f37) = true)
    (a38 : PySem.W.nsIn K mainGlobals "_law_made" = some (some (.ref f38)))
    (l38 : K.lookup f38 = some ⟨oc38, od38, .func (PySem.W.fnOf "_law_made" "_law_made" (defArgs s_lmade) (defBody s_lmade) (defScope s_lmade) .none kV38 dc38 pm38 an38 cd38 ct38), sl38⟩)
    (c38 : PySem.W.codeIn K cd38 "_law_made" = true)
    (k38 : PySem.W.keepIn K (.ref f38) = true)
    (a39 : PySem.W.nsIn K mainGlobals "_law_is" = some (some (.ref f39)))
    (l39 : K.lookup f39 = some ⟨oc39, od39, .func (PySem.W.fnOf "_law_is" "_law_is" (defArgs s_lis) (defBody s_lis) (defScope s_lis) .none kV39 dc39 pm39 an39 cd39 ct39), sl39⟩)
    (c39 : PySem.W.codeIn K cd39 "_law_is" = true)
    (k39 : PySem.W.keepIn K (.ref f39) = true)
    (a40 : PySem.W.nsIn K mainGlobals "_law_built_holds" = some (some (.ref f40)))
    (l40 : K.lookup f40 = some ⟨oc40, od40, .func (PySem.W.fnOf "_law_built_holds" "_law_built_holds" (defArgs s_built) (defBody s_built) (defScope s_built) .none kV40 dc40 pm40 an40 cd40 ct40), sl40⟩)
    (c40 : PySem.W.codeIn K cd40 "_law_built_holds" = true)
    (k40 : PySem.W.keepIn K (.ref f40) = true)
    (a41 : PySem.W.nsIn K mainGlobals "_law_drawn_row" = some (some (.ref f41)))
    (l41 : K.lookup f41 = some ⟨oc41, od41, .func (PySem.W.fnOf "_law_drawn_row" "_law_drawn_row" (defArgs s_ldrow) (defBody s_ldrow) (defScope s_ldrow) .none kV41 dc41 pm41 an41 cd41 ct41), sl41⟩)
    (c41 : PySem.W.codeIn K cd41 "_law_drawn_row" = true)
    (k41 : PySem.W.keepIn K (.ref f41) = true)
    (a42 : PySem.W.nsIn K mainGlobals "_law_spoilt_row" = some (some (.ref f42)))
    (l42 : K.lookup f42 = some ⟨oc42, od42, .func (PySem.W.fnOf "_law_spoilt_row" "_law_spoilt_row" (defArgs s_spoilt) (defBody s_spoilt) (defScope s_spoilt) .none kV42 dc42 pm42 an42 cd42 ct42), sl42⟩)
    (c42 : PySem.W.codeIn K cd42 "_law_spoilt_row" = true)
    (k42 : PySem.W.keepIn K (.ref f42) = true)
    (a43 : PySem.W.nsIn K mainGlobals "_law_read_holds" = some (some (.ref f43)))
    (l43 : K.lookup f43 = some ⟨oc43, od43, .func (PySem.W.fnOf "_law_read_holds" "_law_read_holds" (defArgs s_rholds) (defBody s_rholds) (defScope s_rholds) .none kV43 dc43 pm43 an43 cd43 ct43), sl43⟩)
    (c43 : PySem.W.codeIn K cd43 "_law_read_holds" = true)
    (k43 : PySem.W.keepIn K (.ref f43) = true)
    (a44 : PySem.W.nsIn K mainGlobals "law" = some (some (.ref f44)))
    (l44 : K.lookup f44 = some ⟨oc44, od44, .func (PySem.W.fnOf "law" "law" (defArgs s_law) (defBody s_law) (defScope s_law) .none kV44 dc44 pm44 an44 cd44 ct44), sl44⟩)
    (c44 : PySem.W.codeIn K cd44 "law" = true)
    (k44 : PySem.W.keepIn K (.ref f44) = true)
    (zValueError : PySem.W.nsIn K mainGlobals "ValueError" = some none)
    (zabs : PySem.W.nsIn K mainGlobals "abs" = some none)
    (zall : PySem.W.nsIn K mainGlobals "all" = some none)
    (zbool : PySem.W.nsIn K mainGlobals "bool" = some none)
    (zdict : PySem.W.nsIn K mainGlobals "dict" = some none)
    (zenumerate : PySem.W.nsIn K mainGlobals "enumerate" = some none)
    (zint : PySem.W.nsIn K mainGlobals "int" = some none)
    (zisinstance : PySem.W.nsIn K mainGlobals "isinstance" = some none)
    (zlen : PySem.W.nsIn K mainGlobals "len" = some none)
    (zlist : PySem.W.nsIn K mainGlobals "list" = some none)
    (zmax : PySem.W.nsIn K mainGlobals "max" = some none)
    (zmin : PySem.W.nsIn K mainGlobals "min" = some none)
    (zrange : PySem.W.nsIn K mainGlobals "range" = some none)
    (zreversed : PySem.W.nsIn K mainGlobals "reversed" = some none)
    (zstr : PySem.W.nsIn K mainGlobals "str" = some none)
    (ztuple : PySem.W.nsIn K mainGlobals "tuple" = some none)
    (xL_LivesError : K.lookup xLivesError = some (excClassObj nmLivesError qLivesError xLivesError NLivesError bsLivesError bmLivesError true snLivesError subLivesError abLivesError colLivesError ddLivesError m0LivesError m1LivesError m2LivesError m3LivesError m5LivesError "ValueError.__new__"))
    (xR_LivesError : PySem.HandSPX.refsVE bmLivesError = true)
    (sa_LivesError : PySem.W.findIn K (.ref xLivesError) "__setattr__" = some (some (.builtin "object.__setattr__")))
    (eC_LivesError : PySem.W.subIn K (.ref xLivesError) (.type "BaseException") = some true)
    (tC_LivesError : PySem.W.typeIn K (.ref xLivesError) = some (.type "type"))
    (kc_LivesError : PySem.W.keepIn K (.ref xLivesError) = true)
    (nw_LivesError : PySem.W.findIn K (.ref xLivesError) "what" = some none)
    (ii_LivesError : PySem.W.findIn K (.ref xLivesError) "__init__" = some (some (.ref f1)))
    (ga_LivesError : PySem.W.findIn K (.ref xLivesError) "__getattribute__" = some (some (.builtin "BaseException.__getattribute__")))
    (gg_LivesError : PySem.W.findIn K (.ref xLivesError) "__getattr__" = some none)
    (hd_LivesError : PySem.W.hasDictIn K xLivesError = true)
    (xL_TooLarge : K.lookup xTooLarge = some (excClassObj nmTooLarge qTooLarge xTooLarge NTooLarge bsTooLarge bmTooLarge true snTooLarge subTooLarge abTooLarge colTooLarge ddTooLarge m0TooLarge m1TooLarge m2TooLarge m3TooLarge m5TooLarge "ValueError.__new__"))
    (xR_TooLarge : PySem.HandSPX.refsVE bmTooLarge = true)
    (sa_TooLarge : PySem.W.findIn K (.ref xTooLarge) "__setattr__" = some (some (.builtin "object.__setattr__")))
    (eC_TooLarge : PySem.W.subIn K (.ref xTooLarge) (.type "BaseException") = some true)
    (tC_TooLarge : PySem.W.typeIn K (.ref xTooLarge) = some (.type "type"))
    (kc_TooLarge : PySem.W.keepIn K (.ref xTooLarge) = true)
    (nw_TooLarge : PySem.W.findIn K (.ref xTooLarge) "what" = some none)
    (ii_TooLarge : PySem.W.findIn K (.ref xTooLarge) "__init__" = some (some (.ref f1)))
    (ga_TooLarge : PySem.W.findIn K (.ref xTooLarge) "__getattribute__" = some (some (.builtin "BaseException.__getattribute__")))
    (gg_TooLarge : PySem.W.findIn K (.ref xTooLarge) "__getattr__" = some none)
    (hd_TooLarge : PySem.W.hasDictIn K xTooLarge = true)
    (ha_TooLarge : PySem.W.findIn K (.ref xTooLarge) "__class__" = some (some (.builtin "object.__class__")))
    (hm_TooLarge : PySem.W.mroIn K xTooLarge (.type "object") = some true)
    (pg_Expression : PySem.W.plainGet K xExpression Str.empty = true)
    (hd_Expression : PySem.W.hasDictIn K xExpression = true)
    (po_Expression : PySem.W.plainOver K xExpression = true)
    (sa_Expression : PySem.W.findIn K (.ref xExpression) "__setattr__" = some (some (.builtin "object.__setattr__")))
    (mk_Expression : PySem.W.makesIn K xExpression = true)
    (kc_Expression : PySem.W.keepIn K (.ref xExpression) = true)
    (ha_Expression : PySem.W.findIn K (.ref xExpression) "__class__" = some (some (.builtin "object.__class__")))
    (hm_Expression : PySem.W.mroIn K xExpression (.type "object") = some true)
    (rd_Expression : PySem.W.readsIn K xExpression (.type "type") = true)
    (rg_Expression : PySem.W.specialIn K (.ref xExpression) "__getattribute__" = some (some (.builtin "type.__getattribute__")))
    (cx_Expression_MOST_NODES : PySem.W.findCls K (.ref xExpression) (.type "type") "MOST_NODES" = some (.val (.int 20 cuExpressionMOST_NODES)))
    (na_Expression__nodes : PySem.W.findIn K (.ref xExpression) "_nodes" = some none)
    (na_Expression__firsts : PySem.W.findIn K (.ref xExpression) "_firsts" = some none)
    (xL_NoPlace : K.lookup xNoPlace = some (excClassObj nmNoPlace qNoPlace xNoPlace NNoPlace bsNoPlace bmNoPlace true snNoPlace subNoPlace abNoPlace colNoPlace ddNoPlace m0NoPlace m1NoPlace m2NoPlace m3NoPlace m5NoPlace "ValueError.__new__"))
    (xR_NoPlace : PySem.HandSPX.refsVE bmNoPlace = true)
    (sa_NoPlace : PySem.W.findIn K (.ref xNoPlace) "__setattr__" = some (some (.builtin "object.__setattr__")))
    (eC_NoPlace : PySem.W.subIn K (.ref xNoPlace) (.type "BaseException") = some true)
    (tC_NoPlace : PySem.W.typeIn K (.ref xNoPlace) = some (.type "type"))
    (kc_NoPlace : PySem.W.keepIn K (.ref xNoPlace) = true)
    (nw_NoPlace : PySem.W.findIn K (.ref xNoPlace) "what" = some none)
    (ii_NoPlace : PySem.W.findIn K (.ref xNoPlace) "__init__" = some (some (.ref f1)))
    (ga_NoPlace : PySem.W.findIn K (.ref xNoPlace) "__getattribute__" = some (some (.builtin "BaseException.__getattribute__")))
    (gg_NoPlace : PySem.W.findIn K (.ref xNoPlace) "__getattr__" = some none)
    (hd_NoPlace : PySem.W.hasDictIn K xNoPlace = true)
    (ha_NoPlace : PySem.W.findIn K (.ref xNoPlace) "__class__" = some (some (.builtin "object.__class__")))
    (hm_NoPlace : PySem.W.mroIn K xNoPlace (.type "object") = some true)
    (xL_InvalidExpression : K.lookup xInvalidExpression = some (excClassObj nmInvalidExpression qInvalidExpression xInvalidExpression NInvalidExpression bsInvalidExpression bmInvalidExpression true snInvalidExpression subInvalidExpression abInvalidExpression colInvalidExpression ddInvalidExpression m0InvalidExpression m1InvalidExpression m2InvalidExpression m3InvalidExpression m5InvalidExpression "ValueError.__new__"))
    (xR_InvalidExpression : PySem.HandSPX.refsVE bmInvalidExpression = true)
    (sa_InvalidExpression : PySem.W.findIn K (.ref xInvalidExpression) "__setattr__" = some (some (.builtin "object.__setattr__")))
    (eC_InvalidExpression : PySem.W.subIn K (.ref xInvalidExpression) (.type "BaseException") = some true)
    (tC_InvalidExpression : PySem.W.typeIn K (.ref xInvalidExpression) = some (.type "type"))
    (kc_InvalidExpression : PySem.W.keepIn K (.ref xInvalidExpression) = true)
    (nw_InvalidExpression : PySem.W.findIn K (.ref xInvalidExpression) "what" = some none)
    (ii_InvalidExpression : PySem.W.findIn K (.ref xInvalidExpression) "__init__" = some (some (.ref f1)))
    (ga_InvalidExpression : PySem.W.findIn K (.ref xInvalidExpression) "__getattribute__" = some (some (.builtin "BaseException.__getattribute__")))
    (gg_InvalidExpression : PySem.W.findIn K (.ref xInvalidExpression) "__getattr__" = some none)
    (hd_InvalidExpression : PySem.W.hasDictIn K xInvalidExpression = true)
    (ha_InvalidExpression : PySem.W.findIn K (.ref xInvalidExpression) "__class__" = some (some (.builtin "object.__class__")))
    (hm_InvalidExpression : PySem.W.mroIn K xInvalidExpression (.type "object") = some true)
    (pg_Row : PySem.W.plainGet K xRow Str.empty = true)
    (hd_Row : PySem.W.hasDictIn K xRow = true)
    (po_Row : PySem.W.plainOver K xRow = true)
    (sa_Row : PySem.W.findIn K (.ref xRow) "__setattr__" = some (some (.builtin "object.__setattr__")))
    (mk_Row : PySem.W.makesIn K xRow = true)
    (kc_Row : PySem.W.keepIn K (.ref xRow) = true)
    (ha_Row : PySem.W.findIn K (.ref xRow) "__class__" = some (some (.builtin "object.__class__")))
    (hm_Row : PySem.W.mroIn K xRow (.type "object") = some true)
    (na_Row_kind : PySem.W.findIn K (.ref xRow) "kind" = some none)
    (na_Row_name : PySem.W.findIn K (.ref xRow) "name" = some none)
    (na_Row_expression : PySem.W.findIn K (.ref xRow) "expression" = some none)
    (xL_InvalidRow : K.lookup xInvalidRow = some (excClassObj nmInvalidRow qInvalidRow xInvalidRow NInvalidRow bsInvalidRow bmInvalidRow true snInvalidRow subInvalidRow abInvalidRow colInvalidRow ddInvalidRow m0InvalidRow m1InvalidRow m2InvalidRow m3InvalidRow m5InvalidRow "ValueError.__new__"))
    (xR_InvalidRow : PySem.HandSPX.refsVE bmInvalidRow = true)
    (sa_InvalidRow : PySem.W.findIn K (.ref xInvalidRow) "__setattr__" = some (some (.builtin "object.__setattr__")))
    (eC_InvalidRow : PySem.W.subIn K (.ref xInvalidRow) (.type "BaseException") = some true)
    (tC_InvalidRow : PySem.W.typeIn K (.ref xInvalidRow) = some (.type "type"))
    (kc_InvalidRow : PySem.W.keepIn K (.ref xInvalidRow) = true)
    (nw_InvalidRow : PySem.W.findIn K (.ref xInvalidRow) "what" = some none)
    (ii_InvalidRow : PySem.W.findIn K (.ref xInvalidRow) "__init__" = some (some (.ref f1)))
    (ga_InvalidRow : PySem.W.findIn K (.ref xInvalidRow) "__getattribute__" = some (some (.builtin "BaseException.__getattribute__")))
    (gg_InvalidRow : PySem.W.findIn K (.ref xInvalidRow) "__getattr__" = some none)
    (hd_InvalidRow : PySem.W.hasDictIn K xInvalidRow = true)
    (ha_InvalidRow : PySem.W.findIn K (.ref xInvalidRow) "__class__" = some (some (.builtin "object.__class__")))
    (hm_InvalidRow : PySem.W.mroIn K xInvalidRow (.type "object") = some true)
    (hnO : PySem.W.specialIn K (.builtin "object.__class__") "__get__" = some (some (.builtin "getset_descriptor.__get__")))
    (htO : PySem.W.takesIn K (.builtin "object.__class__") = some true)
    (fa_si_ii : PySem.W.subIn K (.ref xInvalidExpression) (.ref xInvalidExpression) = some true)
    (fa_si_tt : PySem.W.subIn K (.ref xTooLarge) (.ref xTooLarge) = some true)
    (fa_si_ti : PySem.W.subIn K (.ref xTooLarge) (.ref xInvalidExpression) = some false)
    (fa_tyE : PySem.W.typeIn K (.ref xExpression) = some (.type "type"))
    (fa_sb_str : PySem.W.subIn K (.type "str") (.ref xExpression) = some false)
    (fa_sb_int : PySem.W.subIn K (.type "int") (.ref xExpression) = some false)
    (fa_sb_bool : PySem.W.subIn K (.type "bool") (.ref xExpression) = some false)
    (fa_sb_non : PySem.W.subIn K (.type "NoneType") (.ref xExpression) = some false)
    (fa_tyR : PySem.W.typeIn K (.ref xRow) = some (.type "type"))
    (fa_sbR_str : PySem.W.subIn K (.type "str") (.ref xRow) = some false)
    (fa_si_rr : PySem.W.subIn K (.ref xInvalidRow) (.ref xInvalidRow) = some true)
    (fa_si_tr : PySem.W.subIn K (.ref xTooLarge) (.ref xInvalidRow) = some false)
    (eBARE : PySem.W.nsIn K mainGlobals "BARE" = some (some (.ref xBARE)))
    (oBARE : K.lookup xBARE = some ⟨.type "tuple", odBARE, .seq vBARE.toArray nnBARE, slBARE⟩)
    (wBARE : Vals k_BARE vBARE)
    (eBINDING : PySem.W.nsIn K mainGlobals "BINDING" = some (some (.ref xBINDING)))
    (oBINDING : K.lookup xBINDING = some ⟨.type "tuple", odBINDING, .seq vBINDING.toArray nnBINDING, slBINDING⟩)
    (wBINDING : Vals k_BINDING vBINDING)
    (eDIGITS : PySem.W.nsIn K mainGlobals "DIGITS" = some (some (.str "0123456789" tDIGITS)))
    (eLETTERS : PySem.W.nsIn K mainGlobals "LETTERS" = some (some (.str "abcdefghijklmnopqrstuvwxyz" tLETTERS)))
    (eMOST_ARGUMENTS : PySem.W.nsIn K mainGlobals "MOST_ARGUMENTS" = some (some (.int 4 tMOST_ARGUMENTS)))
    (eMOST_CHARACTERS : PySem.W.nsIn K mainGlobals "MOST_CHARACTERS" = some (some (.int 8 tMOST_CHARACTERS)))
    (eOPERATIONS : PySem.W.nsIn K mainGlobals "OPERATIONS" = some (some (.ref xOPERATIONS)))
    (oOPERATIONS : K.lookup xOPERATIONS = some ⟨.type "dict", none, .dict esOPERATIONS nnOPERATIONS, #[]⟩)
    (yOPERATIONS : PySem.W.KeysLit w.params esOPERATIONS.toList)
    (pOPERATIONS : Paired (fun (e : DictEntry) (kv : Str × Int) => ∃ t u, e.key = .str kv.1 t ∧ e.val = .int kv.2 u) esOPERATIONS.toList k_OPERATIONS)
    (sOPERATIONS : (xOPERATIONS == sysModules) = false)
    (eRESERVED : PySem.W.nsIn K mainGlobals "RESERVED" = some (some (.ref xRESERVED)))
    (oRESERVED : K.lookup xRESERVED = some ⟨.type "tuple", odRESERVED, .seq vRESERVED.toArray nnRESERVED, slRESERVED⟩)
    (wRESERVED : Vals k_RESERVED vRESERVED)
    : ∃ fd : FuncData, (∀ (s : Shared) (v : Value), BindsTo s fd ⟨[v], []⟩ [("_law_script", v)]) ∧ ∀ base : Heap, K.In base → base.Ns mainGlobals mg → FnOk l.prog w K mg base CX0 34 fa fd ["_law_script"] (spLaw K) := by
  have e := hfa.symm.trans (PySem.W.mg_of X G a44)
  cases e
  have F1 := fun_mk (st := s_lives_init) l1 c1 k1
  have b1 := F1.binds (ps := p_lives_init) fun _ _ _ _ _ _ us hl => match us, hl with | [_, _], _ => rfl
  have F2 := fun_mk (st := s_is_whole) l2 c2 k2
  have b2 := F2.binds (ps := p_is_whole) fun _ _ _ _ _ _ us hl => match us, hl with | [_], _ => rfl
  have F3 := fun_mk (st := s_is_int) l3 c3 k3
  have b3 := F3.binds (ps := p_is_int) fun _ _ _ _ _ _ us hl => match us, hl with | [_, _, _], _ => rfl
  have F4 := fun_mk (st := s_is_name) l4 c4 k4
  have b4 := F4.binds (ps := p_is_name) fun _ _ _ _ _ _ us hl => match us, hl with | [_], _ => rfl
  have F5 := fun_mk (st := s_cut) l5 c5 k5
  have b5 := F5.binds (ps := p_cut) fun _ _ _ _ _ _ us hl => match us, hl with | [_], _ => rfl
  have F6 := fun_mk (st := s_operation) l6 c6 k6
  have b6 := F6.binds (ps := p_operation) fun _ _ _ _ _ _ us hl => match us, hl with | [_, _], _ => rfl
  have F7 := fun_mk (st := s_closed) l7 c7 k7
  have b7 := F7.binds (ps := p_closed) fun _ _ _ _ _ _ us hl => match us, hl with | [_, _], _ => rfl
  have F8 := fun_mk (st := s_add_node) l8 c8 k8
  have b8 := F8.binds (ps := p_add_node) fun _ _ _ _ _ _ us hl => match us, hl with | [_, _, _], _ => rfl
  have F9 := fun_mk (st := s_nodes_of) l9 c9 k9
  have b9 := F9.binds (ps := p_nodes_of) fun _ _ _ _ _ _ us hl => match us, hl with | [_], _ => rfl
  have F10 := fun_mk (st := s_operands_of) l10 c10 k10
  have b10 := F10.binds (ps := p_operands_of) fun _ _ _ _ _ _ us hl => match us, hl with | [_], _ => rfl
  have F11 := fun_mk (st := s_firsts_of) l11 c11 k11
  have b11 := F11.binds (ps := p_firsts_of) fun _ _ _ _ _ _ us hl => match us, hl with | [_], _ => rfl
  have F12 := fun_mk (st := s_node_text) l12 c12 k12
  have b12 := F12.binds (ps := p_node_text) fun _ _ _ _ _ _ us hl => match us, hl with | [_, _], _ => rfl
  have F13 := fun_mk (st := s_ex_init) l13 c13 k13
  have b13 := F13.binds (ps := p_ex_init) fun _ _ _ _ _ _ us hl => match us, hl with | [_, _], _ => rfl
  have F14 := fun_mk (st := s_ex_read) l14 c14 k14
  have b14 := F14.binds (ps := p_ex_read) fun _ _ _ _ _ _ us hl => match us, hl with | [_, _], _ => rfl
  have F15 := fun_mk (st := s_ex_nodes) l15 c15 k15
  have b15 := F15.binds (ps := p_ex_nodes) fun _ _ _ _ _ _ us hl => match us, hl with | [_], _ => rfl
  have F16 := fun_mk (st := s_ex_first) l16 c16 k16
  have b16 := F16.binds (ps := p_ex_first) fun _ _ _ _ _ _ us hl => match us, hl with | [_, _], _ => rfl
  have F18 := fun_mk (st := s_ex_text) l18 c18 k18
  have b18 := F18.binds (ps := p_ex_text) fun _ _ _ _ _ _ us hl => match us, hl with | [_], _ => rfl
  have F19 := fun_mk (st := s_ex_eq) l19 c19 k19
  have b19 := F19.binds (ps := p_ex_eq) fun _ _ _ _ _ _ us hl => match us, hl with | [_, _], _ => rfl
  have F20 := fun_mk (st := s_is_row) l20 c20 k20
  have b20 := F20.binds (ps := p_is_row) fun _ _ _ _ _ _ us hl => match us, hl with | [_, _, _], _ => rfl
  have F21 := fun_mk (st := s_parts_of) l21 c21 k21
  have b21 := F21.binds (ps := p_parts_of) fun _ _ _ _ _ _ us hl => match us, hl with | [_], _ => rfl
  have F23 := fun_mk (st := s_row_text) l23 c23 k23
  have b23 := F23.binds (ps := p_row_text) fun _ _ _ _ _ _ us hl => match us, hl with | [_], _ => rfl
  have F24 := fun_mk (st := s_row_read) l24 c24 k24
  have b24 := F24.binds (ps := p_row_read) fun _ _ _ _ _ _ us hl => match us, hl with | [_], _ => rfl
  have F25 := fun_mk (st := s_row_eq) l25 c25 k25
  have b25 := F25.binds (ps := p_row_eq) fun _ _ _ _ _ _ us hl => match us, hl with | [_, _], _ => rfl
  have F26 := fun_mk (st := s_draws) l26 c26 k26
  have b26 := F26.binds (ps := p_draws) fun _ _ _ _ _ _ us hl => match us, hl with | [_], _ => rfl
  have F27 := fun_mk (st := s_take) l27 c27 k27
  have b27 := F27.binds (ps := p_take) fun _ _ _ _ _ _ us hl => match us, hl with | [_, _], _ => rfl
  have F28 := fun_mk (st := s_name) l28 c28 k28
  have b28 := F28.binds (ps := p_name) fun _ _ _ _ _ _ us hl => match us, hl with | [_, _], _ => rfl
  have F29 := fun_mk (st := s_functions) l29 c29 k29
  have b29 := F29.binds (ps := p_functions) fun _ _ _ _ _ _ us hl => match us, hl with | [_], _ => rfl
  have F30 := fun_mk (st := s_add) l30 c30 k30
  have b30 := F30.binds (ps := p_add) fun _ _ _ _ _ _ us hl => match us, hl with | [_, _, _, _], _ => rfl
  have F31 := fun_mk (st := s_expression) l31 c31 k31
  have b31 := F31.binds (ps := p_expression) fun _ _ _ _ _ _ us hl => match us, hl with | [_, _, _, _], _ => rfl
  have F32 := fun_mk (st := s_words) l32 c32 k32
  have b32 := F32.binds (ps := p_words) fun _ _ _ _ _ _ us hl => match us, hl with | [], _ => rfl
  have F33 := fun_mk (st := s_lname) l33 c33 k33
  have b33 := F33.binds (ps := p_lname) fun _ _ _ _ _ _ us hl => match us, hl with | [_], _ => rfl
  have F34 := fun_mk (st := s_wfits) l34 c34 k34
  have b34 := F34.binds (ps := p_wfits) fun _ _ _ _ _ _ us hl => match us, hl with | [_, _], _ => rfl
  have F35 := fun_mk (st := s_lcount) l35 c35 k35
  have b35 := F35.binds (ps := p_lcount) fun _ _ _ _ _ _ us hl => match us, hl with | [_], _ => rfl
  have F36 := fun_mk (st := s_lrrow) l36 c36 k36
  have b36 := F36.binds (ps := p_lrrow) fun _ _ _ _ _ _ us hl => match us, hl with | [_], _ => rfl
  have F37 := fun_mk (st := s_lrtext) l37 c37 k37
  have b37 := F37.binds (ps := p_lrtext) fun _ _ _ _ _ _ us hl => match us, hl with | [_], _ => rfl
  have F38 := fun_mk (st := s_lmade) l38 c38 k38
  have b38 := F38.binds (ps := p_lmade) fun _ _ _ _ _ _ us hl => match us, hl with | [_, _, _, _], _ => rfl
  have F39 := fun_mk (st := s_lis) l39 c39 k39
  have b39 := F39.binds (ps := p_lis) fun _ _ _ _ _ _ us hl => match us, hl with | [_, _], _ => rfl
  have F40 := fun_mk (st := s_built) l40 c40 k40
  have b40 := F40.binds (ps := p_built) fun _ _ _ _ _ _ us hl => match us, hl with | [_, _, _], _ => rfl
  have F41 := fun_mk (st := s_ldrow) l41 c41 k41
  have b41 := F41.binds (ps := p_ldrow) fun _ _ _ _ _ _ us hl => match us, hl with | [_, _, _, _], _ => rfl
  have F42 := fun_mk (st := s_spoilt) l42 c42 k42
  have b42 := F42.binds (ps := p_spoilt) fun _ _ _ _ _ _ us hl => match us, hl with | [_, _], _ => rfl
  have F43 := fun_mk (st := s_rholds) l43 c43 k43
  have b43 := F43.binds (ps := p_rholds) fun _ _ _ _ _ _ us hl => match us, hl with | [_], _ => rfl
  have F44 := fun_mk (st := s_law) l44 c44 k44
  have b44 := F44.binds (ps := p_law) fun _ _ _ _ _ _ us hl => match us, hl with | [_], _ => rfl
  let A : Adr := ⟨f0, (PySem.W.fnOf "copied" "copied" (defArgs s_copied) (defBody s_copied) (defScope s_copied) (.ref dT0) kV0 dc0 pm0 an0 cd0 ct0), f1, (PySem.W.fnOf "__init__" "LivesError.__init__" (defArgs s_lives_init) (defBody s_lives_init) (defScope s_lives_init) .none kV1 dc1 pm1 an1 cd1 ct1), f2, (PySem.W.fnOf "is_whole" "is_whole" (defArgs s_is_whole) (defBody s_is_whole) (defScope s_is_whole) .none kV2 dc2 pm2 an2 cd2 ct2), f3, (PySem.W.fnOf "is_integer_in" "is_integer_in" (defArgs s_is_int) (defBody s_is_int) (defScope s_is_int) .none kV3 dc3 pm3 an3 cd3 ct3), f4, (PySem.W.fnOf "is_name" "is_name" (defArgs s_is_name) (defBody s_is_name) (defScope s_is_name) .none kV4 dc4 pm4 an4 cd4 ct4), f5, (PySem.W.fnOf "cut" "cut" (defArgs s_cut) (defBody s_cut) (defScope s_cut) .none kV5 dc5 pm5 an5 cd5 ct5), f6, (PySem.W.fnOf "operation" "operation" (defArgs s_operation) (defBody s_operation) (defScope s_operation) .none kV6 dc6 pm6 an6 cd6 ct6), f7, (PySem.W.fnOf "closed" "closed" (defArgs s_closed) (defBody s_closed) (defScope s_closed) .none kV7 dc7 pm7 an7 cd7 ct7), f8, (PySem.W.fnOf "add_node" "add_node" (defArgs s_add_node) (defBody s_add_node) (defScope s_add_node) .none kV8 dc8 pm8 an8 cd8 ct8), f9, (PySem.W.fnOf "nodes_of" "nodes_of" (defArgs s_nodes_of) (defBody s_nodes_of) (defScope s_nodes_of) .none kV9 dc9 pm9 an9 cd9 ct9), f10, (PySem.W.fnOf "operands_of" "operands_of" (defArgs s_operands_of) (defBody s_operands_of) (defScope s_operands_of) .none kV10 dc10 pm10 an10 cd10 ct10), f11, (PySem.W.fnOf "firsts_of" "firsts_of" (defArgs s_firsts_of) (defBody s_firsts_of) (defScope s_firsts_of) .none kV11 dc11 pm11 an11 cd11 ct11), f12, (PySem.W.fnOf "node_text" "node_text" (defArgs s_node_text) (defBody s_node_text) (defScope s_node_text) .none kV12 dc12 pm12 an12 cd12 ct12), f13, (PySem.W.fnOf "__init__" "Expression.__init__" (defArgs s_ex_init) (defBody s_ex_init) (defScope s_ex_init) .none kV13 dc13 pm13 an13 cd13 ct13), f14, (PySem.W.fnOf "read" "Expression.read" (defArgs s_ex_read) (defBody s_ex_read) (defScope s_ex_read) .none kV14 dc14 pm14 an14 cd14 ct14), f15, (PySem.W.fnOf "nodes" "Expression.nodes" (defArgs s_ex_nodes) (defBody s_ex_nodes) (defScope s_ex_nodes) .none kV15 dc15 pm15 an15 cd15 ct15), f16, (PySem.W.fnOf "first" "Expression.first" (defArgs s_ex_first) (defBody s_ex_first) (defScope s_ex_first) .none kV16 dc16 pm16 an16 cd16 ct16), f17, (PySem.W.fnOf "part_text" "Expression.part_text" (defArgs s_part_text) (defBody s_part_text) (defScope s_part_text) .none (.ref kD17) dc17 pm17 an17 cd17 ct17), f18, (PySem.W.fnOf "text" "Expression.text" (defArgs s_ex_text) (defBody s_ex_text) (defScope s_ex_text) .none kV18 dc18 pm18 an18 cd18 ct18), f19, (PySem.W.fnOf "__eq__" "Expression.__eq__" (defArgs s_ex_eq) (defBody s_ex_eq) (defScope s_ex_eq) .none kV19 dc19 pm19 an19 cd19 ct19), f20, (PySem.W.fnOf "is_row" "is_row" (defArgs s_is_row) (defBody s_is_row) (defScope s_is_row) .none kV20 dc20 pm20 an20 cd20 ct20), f21, (PySem.W.fnOf "parts_of" "parts_of" (defArgs s_parts_of) (defBody s_parts_of) (defScope s_parts_of) .none kV21 dc21 pm21 an21 cd21 ct21), f22, (PySem.W.fnOf "__init__" "Row.__init__" (defArgs s_row_init) (defBody s_row_init) (defScope s_row_init) .none (.ref kD22) dc22 pm22 an22 cd22 ct22), f23, (PySem.W.fnOf "text" "Row.text" (defArgs s_row_text) (defBody s_row_text) (defScope s_row_text) .none kV23 dc23 pm23 an23 cd23 ct23), f24, (PySem.W.fnOf "read" "Row.read" (defArgs s_row_read) (defBody s_row_read) (defScope s_row_read) .none kV24 dc24 pm24 an24 cd24 ct24), f25, (PySem.W.fnOf "__eq__" "Row.__eq__" (defArgs s_row_eq) (defBody s_row_eq) (defScope s_row_eq) .none kV25 dc25 pm25 an25 cd25 ct25), f26, (PySem.W.fnOf "_law_draws" "_law_draws" (defArgs s_draws) (defBody s_draws) (defScope s_draws) .none kV26 dc26 pm26 an26 cd26 ct26), f27, (PySem.W.fnOf "_law_take" "_law_take" (defArgs s_take) (defBody s_take) (defScope s_take) .none kV27 dc27 pm27 an27 cd27 ct27), f28, (PySem.W.fnOf "_law_name" "_law_name" (defArgs s_name) (defBody s_name) (defScope s_name) .none kV28 dc28 pm28 an28 cd28 ct28), f29, (PySem.W.fnOf "_law_functions" "_law_functions" (defArgs s_functions) (defBody s_functions) (defScope s_functions) .none kV29 dc29 pm29 an29 cd29 ct29), f30, (PySem.W.fnOf "_law_add" "_law_add" (defArgs s_add) (defBody s_add) (defScope s_add) .none kV30 dc30 pm30 an30 cd30 ct30), f31, (PySem.W.fnOf "_law_expression" "_law_expression" (defArgs s_expression) (defBody s_expression) (defScope s_expression) .none kV31 dc31 pm31 an31 cd31 ct31), f32, (PySem.W.fnOf "_law_words" "_law_words" (defArgs s_words) (defBody s_words) (defScope s_words) .none kV32 dc32 pm32 an32 cd32 ct32), f33, (PySem.W.fnOf "_law_is_name" "_law_is_name" (defArgs s_lname) (defBody s_lname) (defScope s_lname) .none kV33 dc33 pm33 an33 cd33 ct33), f34, (PySem.W.fnOf "_law_word_fits" "_law_word_fits" (defArgs s_wfits) (defBody s_wfits) (defScope s_wfits) .none kV34 dc34 pm34 an34 cd34 ct34), f35, (PySem.W.fnOf "_law_count" "_law_count" (defArgs s_lcount) (defBody s_lcount) (defScope s_lcount) .none kV35 dc35 pm35 an35 cd35 ct35), f36, (PySem.W.fnOf "_law_read_row" "_law_read_row" (defArgs s_lrrow) (defBody s_lrrow) (defScope s_lrrow) .none kV36 dc36 pm36 an36 cd36 ct36), f37, (PySem.W.fnOf "_law_row_text" "_law_row_text" (defArgs s_lrtext) (defBody s_lrtext) (defScope s_lrtext) .none kV37 dc37 pm37 an37 cd37 ct37), f38, (PySem.W.fnOf "_law_made" "_law_made" (defArgs s_lmade) (defBody s_lmade) (defScope s_lmade) .none kV38 dc38 pm38 an38 cd38 ct38), f39, (PySem.W.fnOf "_law_is" "_law_is" (defArgs s_lis) (defBody s_lis) (defScope s_lis) .none kV39 dc39 pm39 an39 cd39 ct39), f40, (PySem.W.fnOf "_law_built_holds" "_law_built_holds" (defArgs s_built) (defBody s_built) (defScope s_built) .none kV40 dc40 pm40 an40 cd40 ct40), f41, (PySem.W.fnOf "_law_drawn_row" "_law_drawn_row" (defArgs s_ldrow) (defBody s_ldrow) (defScope s_ldrow) .none kV41 dc41 pm41 an41 cd41 ct41), f42, (PySem.W.fnOf "_law_spoilt_row" "_law_spoilt_row" (defArgs s_spoilt) (defBody s_spoilt) (defScope s_spoilt) .none kV42 dc42 pm42 an42 cd42 ct42), f43, (PySem.W.fnOf "_law_read_holds" "_law_read_holds" (defArgs s_rholds) (defBody s_rholds) (defScope s_rholds) .none kV43 dc43 pm43 an43 cd43 ct43), fa, (PySem.W.fnOf "law" "law" (defArgs s_law) (defBody s_law) (defScope s_law) .none kV44 dc44 pm44 an44 cd44 ct44), pr14, pr15, pr24, xLivesError, xTooLarge, xExpression, xNoPlace, xInvalidExpression, xRow, xInvalidRow, xBARE, xBINDING, tDIGITS, tLETTERS, tMOST_ARGUMENTS, tMOST_CHARACTERS, xOPERATIONS, xRESERVED⟩
  have T : Tx0 w K mg A := {
    F_copied := ⟨⟨_, _, _, _, _, _, _, _, _, _, rfl, l0, c0, .inr ⟨(fun z => nomatch z), _, _, _, _, rfl, dl0, rfl, (.cons ⟨_, rfl⟩ .nil)⟩, .inl rfl⟩, k0⟩,
    g_copied := PySem.W.mg_of X G a0,
    F_lives_init := F1,
    b_lives_init := b1,
    ti_lives_init := i1,
    F_is_whole := F2,
    b_is_whole := b2,
    g_is_whole := PySem.W.mg_of X G a2,
    F_is_int := F3,
    b_is_int := b3,
    g_is_int := PySem.W.mg_of X G a3,
    F_is_name := F4,
    b_is_name := b4,
    g_is_name := PySem.W.mg_of X G a4,
    F_cut := F5,
    b_cut := b5,
    g_cut := PySem.W.mg_of X G a5,
    F_operation := F6,
    b_operation := b6,
    g_operation := PySem.W.mg_of X G a6,
    F_closed := F7,
    b_closed := b7,
    g_closed := PySem.W.mg_of X G a7,
    F_add_node := F8,
    b_add_node := b8,
    g_add_node := PySem.W.mg_of X G a8,
    F_nodes_of := F9,
    b_nodes_of := b9,
    g_nodes_of := PySem.W.mg_of X G a9,
    F_operands_of := F10,
    b_operands_of := b10,
    g_operands_of := PySem.W.mg_of X G a10,
    F_firsts_of := F11,
    b_firsts_of := b11,
    g_firsts_of := PySem.W.mg_of X G a11,
    F_node_text := F12,
    b_node_text := b12,
    g_node_text := PySem.W.mg_of X G a12,
    F_ex_init := F13,
    b_ex_init := b13,
    e_ex_init := ⟨a13, i13, k13⟩,
    F_ex_read := F14,
    b_ex_read := b14,
    cm_ex_read := ⟨a14, ⟨_, pc14⟩, fi14⟩,
    F_ex_nodes := F15,
    b_ex_nodes := b15,
    r_ex_nodes := ⟨a15, pg15, pt15, _, pc15⟩,
    F_ex_first := F16,
    b_ex_first := b16,
    e_ex_first := ⟨a16, i16, k16⟩,
    F_part_text := ⟨⟨_, _, _, _, _, _, _, _, _, _, rfl, l17, c17, .inl ⟨rfl, rfl⟩, .inr ⟨_, rfl, fun q hq => by
      simp only [List.mem_cons, List.not_mem_nil, or_false] at hq
      rcases hq with rfl
      · exact ⟨_, kw17named, rfl⟩⟩⟩, k17⟩,
    e_part_text := ⟨a17, i17, k17⟩,
    F_ex_text := F18,
    b_ex_text := b18,
    e_ex_text := ⟨a18, i18, k18⟩,
    F_ex_eq := F19,
    b_ex_eq := b19,
    e_ex_eq := ⟨a19, i19, k19⟩,
    F_is_row := F20,
    b_is_row := b20,
    g_is_row := PySem.W.mg_of X G a20,
    F_parts_of := F21,
    b_parts_of := b21,
    g_parts_of := PySem.W.mg_of X G a21,
    F_row_init := ⟨⟨_, _, _, _, _, _, _, _, _, _, rfl, l22, c22, .inl ⟨rfl, rfl⟩, .inr ⟨_, rfl, fun q hq => by
      simp only [List.mem_cons, List.not_mem_nil, or_false] at hq
      rcases hq with rfl | rfl
      · exact ⟨_, kw22name, ⟨_, rfl⟩⟩
      · exact ⟨_, kw22expression, rfl⟩⟩⟩, k22⟩,
    e_row_init := ⟨a22, i22, k22⟩,
    F_row_text := F23,
    b_row_text := b23,
    e_row_text := ⟨a23, i23, k23⟩,
    F_row_read := F24,
    b_row_read := b24,
    sm_row_read := ⟨rd24, rg24, a24, ⟨_, pc24⟩, k24⟩,
    F_row_eq := F25,
    b_row_eq := b25,
    e_row_eq := ⟨a25, i25, k25⟩,
    F_draws := F26,
    b_draws := b26,
    g_draws := PySem.W.mg_of X G a26,
    F_take := F27,
    b_take := b27,
    g_take := PySem.W.mg_of X G a27,
    F_name := F28,
    b_name := b28,
    g_name := PySem.W.mg_of X G a28,
    F_functions := F29,
    b_functions := b29,
    g_functions := PySem.W.mg_of X G a29,
    F_add := F30,
    b_add := b30,
    g_add := PySem.W.mg_of X G a30,
    F_expression := F31,
    b_expression := b31,
    g_expression := PySem.W.mg_of X G a31,
    F_words := F32,
    b_words := b32,
    g_words := PySem.W.mg_of X G a32,
    F_lname := F33,
    b_lname := b33,
    g_lname := PySem.W.mg_of X G a33,
    F_wfits := F34,
    b_wfits := b34,
    g_wfits := PySem.W.mg_of X G a34,
    F_lcount := F35,
    b_lcount := b35,
    g_lcount := PySem.W.mg_of X G a35,
    F_lrrow := F36,
    b_lrrow := b36,
    g_lrrow := PySem.W.mg_of X G a36,
    F_lrtext := F37,
    b_lrtext := b37,
    g_lrtext := PySem.W.mg_of X G a37,
    F_lmade := F38,
    b_lmade := b38,
    g_lmade := PySem.W.mg_of X G a38,
    F_lis := F39,
    b_lis := b39,
    g_lis := PySem.W.mg_of X G a39,
    F_built := F40,
    b_built := b40,
    g_built := PySem.W.mg_of X G a40,
    F_ldrow := F41,
    b_ldrow := b41,
    g_ldrow := PySem.W.mg_of X G a41,
    F_spoilt := F42,
    b_spoilt := b42,
    g_spoilt := PySem.W.mg_of X G a42,
    F_rholds := F43,
    b_rholds := b43,
    g_rholds := PySem.W.mg_of X G a43,
    F_law := F44,
    b_law := b44,
    g_law := PySem.W.mg_of X G a44,
    m_ValueError := PySem.W.mg_none_of X G zValueError,
    m_abs := PySem.W.mg_none_of X G zabs,
    m_all := PySem.W.mg_none_of X G zall,
    m_bool := PySem.W.mg_none_of X G zbool,
    m_dict := PySem.W.mg_none_of X G zdict,
    m_enumerate := PySem.W.mg_none_of X G zenumerate,
    m_int := PySem.W.mg_none_of X G zint,
    m_isinstance := PySem.W.mg_none_of X G zisinstance,
    m_len := PySem.W.mg_none_of X G zlen,
    m_list := PySem.W.mg_none_of X G zlist,
    m_max := PySem.W.mg_none_of X G zmax,
    m_min := PySem.W.mg_none_of X G zmin,
    m_range := PySem.W.mg_none_of X G zrange,
    m_reversed := PySem.W.mg_none_of X G zreversed,
    m_str := PySem.W.mg_none_of X G zstr,
    m_tuple := PySem.W.mg_none_of X G ztuple,
    g_LivesError := PySem.W.mg_of X G aCLivesError,
    ex_LivesError := ⟨⟨⟨_, _, _, _, _, _, _, _, _, _, _, _, _, _, _, xL_LivesError, xR_LivesError⟩, sa_LivesError, eC_LivesError, tC_LivesError, kc_LivesError⟩, ii_LivesError, nw_LivesError, ⟨ga_LivesError, gg_LivesError, eC_LivesError, hd_LivesError⟩⟩,
    g_TooLarge := PySem.W.mg_of X G aCTooLarge,
    ex_TooLarge := ⟨⟨⟨_, _, _, _, _, _, _, _, _, _, _, _, _, _, _, xL_TooLarge, xR_TooLarge⟩, sa_TooLarge, eC_TooLarge, tC_TooLarge, kc_TooLarge⟩, ii_TooLarge, nw_TooLarge, ⟨ga_TooLarge, gg_TooLarge, eC_TooLarge, hd_TooLarge⟩⟩,
    xi_TooLarge := ⟨UL.cls_some hd_TooLarge, ga_TooLarge, gg_TooLarge, eC_TooLarge, ha_TooLarge, hnO, htO, hm_TooLarge⟩,
    g_Expression := PySem.W.mg_of X G aCExpression,
    cl_Expression := ⟨pg_Expression, hd_Expression, po_Expression, sa_Expression⟩,
    ty_Expression := ⟨ha_Expression, hnO, htO, hm_Expression⟩,
    mk_Expression := ⟨mk_Expression, a13, i13, kc_Expression⟩,
    cr_Expression := ⟨rd_Expression, rg_Expression⟩,
    cv_Expression_MOST_NODES := ⟨_, cx_Expression_MOST_NODES, ⟨_, rfl⟩⟩,
    na_Expression__nodes := na_Expression__nodes,
    na_Expression__firsts := na_Expression__firsts,
    g_NoPlace := PySem.W.mg_of X G aCNoPlace,
    ex_NoPlace := ⟨⟨⟨_, _, _, _, _, _, _, _, _, _, _, _, _, _, _, xL_NoPlace, xR_NoPlace⟩, sa_NoPlace, eC_NoPlace, tC_NoPlace, kc_NoPlace⟩, ii_NoPlace, nw_NoPlace, ⟨ga_NoPlace, gg_NoPlace, eC_NoPlace, hd_NoPlace⟩⟩,
    xi_NoPlace := ⟨UL.cls_some hd_NoPlace, ga_NoPlace, gg_NoPlace, eC_NoPlace, ha_NoPlace, hnO, htO, hm_NoPlace⟩,
    g_InvalidExpression := PySem.W.mg_of X G aCInvalidExpression,
    ex_InvalidExpression := ⟨⟨⟨_, _, _, _, _, _, _, _, _, _, _, _, _, _, _, xL_InvalidExpression, xR_InvalidExpression⟩, sa_InvalidExpression, eC_InvalidExpression, tC_InvalidExpression, kc_InvalidExpression⟩, ii_InvalidExpression, nw_InvalidExpression, ⟨ga_InvalidExpression, gg_InvalidExpression, eC_InvalidExpression, hd_InvalidExpression⟩⟩,
    xi_InvalidExpression := ⟨UL.cls_some hd_InvalidExpression, ga_InvalidExpression, gg_InvalidExpression, eC_InvalidExpression, ha_InvalidExpression, hnO, htO, hm_InvalidExpression⟩,
    g_Row := PySem.W.mg_of X G aCRow,
    cl_Row := ⟨pg_Row, hd_Row, po_Row, sa_Row⟩,
    ty_Row := ⟨ha_Row, hnO, htO, hm_Row⟩,
    mk_Row := ⟨mk_Row, a22, i22, kc_Row⟩,
    na_Row_kind := na_Row_kind,
    na_Row_name := na_Row_name,
    na_Row_expression := na_Row_expression,
    g_InvalidRow := PySem.W.mg_of X G aCInvalidRow,
    ex_InvalidRow := ⟨⟨⟨_, _, _, _, _, _, _, _, _, _, _, _, _, _, _, xL_InvalidRow, xR_InvalidRow⟩, sa_InvalidRow, eC_InvalidRow, tC_InvalidRow, kc_InvalidRow⟩, ii_InvalidRow, nw_InvalidRow, ⟨ga_InvalidRow, gg_InvalidRow, eC_InvalidRow, hd_InvalidRow⟩⟩,
    xi_InvalidRow := ⟨UL.cls_some hd_InvalidRow, ga_InvalidRow, gg_InvalidRow, eC_InvalidRow, ha_InvalidRow, hnO, htO, hm_InvalidRow⟩,
    te_ii := UL.exm_cls eC_InvalidExpression hd_InvalidExpression tC_InvalidExpression fa_si_ii,
    te_tt := UL.exm_cls eC_TooLarge hd_TooLarge tC_TooLarge fa_si_tt,
    te_ti := UL.exm_cls eC_InvalidExpression hd_InvalidExpression tC_InvalidExpression fa_si_ti,
    ke_own := UL.kit_own,
    ks_str := UL.kit_type_ref hd_Expression fa_tyE fa_sb_str,
    ks_int := UL.kit_type_ref hd_Expression fa_tyE fa_sb_int,
    ks_bool := UL.kit_type_ref hd_Expression fa_tyE fa_sb_bool,
    ks_non := UL.kit_type_ref hd_Expression fa_tyE fa_sb_non,
    kr_str := UL.kit_type_ref hd_Row fa_tyR fa_sbR_str,
    te_rr := UL.exm_cls eC_InvalidRow hd_InvalidRow tC_InvalidRow fa_si_rr,
    te_tr := UL.exm_cls eC_InvalidRow hd_InvalidRow tC_InvalidRow fa_si_tr,
    si_ii := fa_si_ii,
    si_tt := fa_si_tt,
    si_ti := fa_si_ti,
    tyE := fa_tyE,
    sb_str := fa_sb_str,
    sb_int := fa_sb_int,
    sb_bool := fa_sb_bool,
    sb_non := fa_sb_non,
    tyR := fa_tyR,
    sbR_str := fa_sbR_str,
    si_rr := fa_si_rr,
    si_tr := fa_si_tr,
    c_BARE := PySem.W.mg_of X G eBARE,
    q_BARE := fun H => .inr ⟨_, _, _, oBARE, rfl, rfl, (by rw [List.size_toArray, ← Paired.length wBARE]; decide), wBARE⟩,
    o_BARE := ⟨_, oBARE, rfl⟩,
    c_BINDING := PySem.W.mg_of X G eBINDING,
    q_BINDING := fun H => .inr ⟨_, _, _, oBINDING, rfl, rfl, (by rw [List.size_toArray, ← Paired.length wBINDING]; decide), wBINDING⟩,
    o_BINDING := ⟨_, oBINDING, rfl⟩,
    c_DIGITS := PySem.W.mg_of X G eDIGITS,
    c_LETTERS := PySem.W.mg_of X G eLETTERS,
    c_MOST_ARGUMENTS := PySem.W.mg_of X G eMOST_ARGUMENTS,
    c_MOST_CHARACTERS := PySem.W.mg_of X G eMOST_CHARACTERS,
    c_OPERATIONS := PySem.W.mg_of X G eOPERATIONS,
    w_OPERATIONS := ⟨_, _, oOPERATIONS, yOPERATIONS, pOPERATIONS, sOPERATIONS⟩,
    c_RESERVED := PySem.W.mg_of X G eRESERVED,
    q_RESERVED := fun H => .inr ⟨_, _, _, oRESERVED, rfl, rfl, (by rw [List.size_toArray, ← Paired.length wRESERVED]; decide), wRESERVED⟩,
    o_RESERVED := ⟨_, oRESERVED, rfl⟩ }
  exact ⟨_, fun s v => .of_eq rfl, fun base _ _ => ok_law T⟩
end K20
def PySem.Challenge.cw_unnamedlives_k20_row_holds.tw17976541034991906972 : Nat := 0
def PySem.Challenge.cw_unnamedlives_k20_row_holds.tw1976799092054146346 : Nat := 0
def PySem.Challenge.cw_unnamedlives_k20_row_holds.tw4935276038712983601 : Nat := 0
def PySem.Challenge.cw_unnamedlives_k20_row_holds.tw3335044908705966339 : Nat := 0
def PySem.Challenge.cw_unnamedlives_k20_row_holds.tw2488202321071558235 : Nat := 0
def PySem.Challenge.cw_unnamedlives_k20_row_holds.tw7691732220901937831 : Nat := 0
def PySem.Challenge.cw_unnamedlives_k20_row_holds.tw17933634467727694256 : Nat := 0
def PySem.Challenge.cw_unnamedlives_k20_row_holds.tw16520152240136418994 : Nat := 0
def PySem.Challenge.cw_unnamedlives_k20_row_holds.tw3104059478694681763 : Nat := 0
def PySem.Challenge.cw_unnamedlives_k20_row_holds.tw15705299615888045798 : Nat := 0
def PySem.Challenge.cw_unnamedlives_k20_row_holds.tw18283324348383656621 : Nat := 0
def PySem.Challenge.cw_unnamedlives_k20_row_holds.tw3237796743322831039 : Nat := 0
def PySem.Challenge.cw_unnamedlives_k20_row_holds.tw584900567813762430 : Nat := 0
def PySem.Challenge.cw_unnamedlives_k20_row_holds.tw7866971567210210650 : Nat := 0
open PySem PySem.W PyProof.Rows
set_option Elab.async true in
set_option maxHeartbeats 0 in
theorem PySem.Challenge.cw_unnamedlives_k20_row_holds : PySem.Challenge.rw_unnamedlives_k20_row.Holds := by
  w_on; o_law; k_head; (case hw => w_witness2)
  k_fill
  refine L2.walk_of (l := PySem.Challenge.rw_unnamedlives_k20_row) (n := 63) (k := 34) (x := "_law_script") (CX := fun _ => L2.CX0) (sp := fun w => K20.spLaw _) rfl (by decide) rfl ⟨rfl, by decide, by decide⟩ (fun w h Y => PySem.W.kIn_of Y) ?F (fun _ _ a ns hl _ hS => ⟨a, ns, rfl, hS, hl, fun _ => rfl⟩) (fun _ _ _ _ _ h => h)
  case F =>
    intro w mg fa h KX G hmg
    refine' K20.all_mk KX G hmg ?aCLivesError ?aCTooLarge ?aCExpression ?aCNoPlace ?aCInvalidExpression ?aCRow ?aCInvalidRow ?a0 ?l0 ?dl0 ?c0 ?k0 ?a1 ?i1 ?l1 ?c1 ?k1 ?a2 ?l2 ?c2 ?k2 ?a3 ?l3 ?c3 ?k3 ?a4 ?l4 ?c4 ?k4 ?a5 ?l5 ?c5 ?k5 ?a6 ?l6 ?c6 ?k6 ?a7 ?l7 ?c7 ?k7 ?a8 ?l8 ?c8 ?k8 ?a9 ?l9 ?c9 ?k9 ?a10 ?l10 ?c10 ?k10 ?a11 ?l11 ?c11 ?k11 ?a12 ?l12 ?c12 ?k12 ?a13 ?i13 ?l13 ?c13 ?k13 ?a14 ?pc14 ?fi14 ?l14 ?c14 ?k14 ?a15 ?pg15 ?pt15 ?pc15 ?l15 ?c15 ?k15 ?a16 ?i16 ?l16 ?c16 ?k16 ?a17 ?i17 ?l17 ?c17 ?k17 ?kw17named ?a18 ?i18 ?l18 ?c18 ?k18 ?a19 ?i19 ?l19 ?c19 ?k19 ?a20 ?l20 ?c20 ?k20 ?a21 ?l21 ?c21 ?k21 ?a22 ?i22 ?l22 ?c22 ?k22 ?kw22name ?kw22expression ?a23 ?i23 ?l23 ?c23 ?k23 ?a24 ?pc24 ?rd24 ?rg24 ?l24 ?c24 ?k24 ?a25 ?i25 ?l25 ?c25 ?k25 ?a26 ?l26 ?c26 ?k26 ?a27 ?l27 ?c27 ?k27 ?a28 ?l28 ?c28 ?k28 ?a29 ?l29 ?c29 ?k29 ?a30 ?l30 ?c30 ?k30 ?a31 ?l31 ?c31 ?k31 ?a32 ?l32 ?c32 ?k32 ?a33 ?l33 ?c33 ?k33 ?a34 ?l34 ?c34 ?k34 ?a35 ?l35 ?c35 ?k35 ?a36 ?l36 ?c36 ?k36 ?a37 ?l37 ?c37 ?k37 ?a38 ?l38 ?c38 ?k38 ?a39 ?l39 ?c39 ?k39 ?a40 ?l40 ?c40 ?k40 ?a41 ?l41 ?c41 ?k41 ?a42 ?l42 ?c42 ?k42 ?a43 ?l43 ?c43 ?k43 ?a44 ?l44 ?c44 ?k44 ?zValueError ?zabs ?zall ?zbool ?zdict ?zenumerate ?zint ?zisinstance ?zlen ?zlist ?zmax ?zmin ?zrange ?zreversed ?zstr ?ztuple ?xL_LivesError ?xR_LivesError ?sa_LivesError ?eC_LivesError ?tC_LivesError ?kc_LivesError ?nw_LivesError ?ii_LivesError ?ga_LivesError ?gg_LivesError ?hd_LivesError ?xL_TooLarge ?xR_TooLarge ?sa_TooLarge ?eC_TooLarge ?tC_TooLarge ?kc_TooLarge ?nw_TooLarge ?ii_TooLarge ?ga_TooLarge ?gg_TooLarge ?hd_TooLarge ?ha_TooLarge ?hm_TooLarge ?pg_Expression ?hd_Expression ?po_Expression ?sa_Expression ?mk_Expression ?kc_Expression ?ha_Expression ?hm_Expression ?rd_Expression ?rg_Expression ?cx_Expression_MOST_NODES ?na_Expression__nodes ?na_Expression__firsts ?xL_NoPlace ?xR_NoPlace ?sa_NoPlace ?eC_NoPlace ?tC_NoPlace ?kc_NoPlace ?nw_NoPlace ?ii_NoPlace ?ga_NoPlace ?gg_NoPlace ?hd_NoPlace ?ha_NoPlace ?hm_NoPlace ?xL_InvalidExpression ?xR_InvalidExpression ?sa_InvalidExpression ?eC_InvalidExpression ?tC_InvalidExpression ?kc_InvalidExpression ?nw_InvalidExpression ?ii_InvalidExpression ?ga_InvalidExpression ?gg_InvalidExpression ?hd_InvalidExpression ?ha_InvalidExpression ?hm_InvalidExpression ?pg_Row ?hd_Row ?po_Row ?sa_Row ?mk_Row ?kc_Row ?ha_Row ?hm_Row ?na_Row_kind ?na_Row_name ?na_Row_expression ?xL_InvalidRow ?xR_InvalidRow ?sa_InvalidRow ?eC_InvalidRow ?tC_InvalidRow ?kc_InvalidRow ?nw_InvalidRow ?ii_InvalidRow ?ga_InvalidRow ?gg_InvalidRow ?hd_InvalidRow ?ha_InvalidRow ?hm_InvalidRow ?hnO ?htO ?fa_si_ii ?fa_si_tt ?fa_si_ti ?fa_tyE ?fa_sb_str ?fa_sb_int ?fa_sb_bool ?fa_sb_non ?fa_tyR ?fa_sbR_str ?fa_si_rr ?fa_si_tr ?eBARE ?oBARE ?wBARE ?eBINDING ?oBINDING ?wBINDING ?eDIGITS ?eLETTERS ?eMOST_ARGUMENTS ?eMOST_CHARACTERS ?eOPERATIONS ?oOPERATIONS ?yOPERATIONS ?pOPERATIONS ?sOPERATIONS ?eRESERVED ?oRESERVED ?wRESERVED
    (case aCLivesError => k_is)
    (case aCTooLarge => k_is)
    (case aCExpression => k_is)
    (case aCNoPlace => k_is)
    (case aCInvalidExpression => k_is)
    (case aCRow => k_is)
    (case aCInvalidRow => k_is)
    (case a0 => k_is)
    (case l0 => k_is)
    (case dl0 => k_is)
    (case c0 => k_is)
    (case k0 => k_is)
    (case a1 => k_is)
    (case i1 => k_is)
    (case l1 => k_is)
    (case c1 => k_is)
    (case k1 => k_is)
    (case a2 => k_is)
    (case l2 => k_is)
    (case c2 => k_is)
    (case k2 => k_is)
    (case a3 => k_is)
    (case l3 => k_is)
    (case c3 => k_is)
    (case k3 => k_is)
    (case a4 => k_is)
    (case l4 => k_is)
    (case c4 => k_is)
    (case k4 => k_is)
    (case a5 => k_is)
    (case l5 => k_is)
    (case c5 => k_is)
    (case k5 => k_is)
    (case a6 => k_is)
    (case l6 => k_is)
    (case c6 => k_is)
    (case k6 => k_is)
    (case a7 => k_is)
    (case l7 => k_is)
    (case c7 => k_is)
    (case k7 => k_is)
    (case a8 => k_is)
    (case l8 => k_is)
    (case c8 => k_is)
    (case k8 => k_is)
    (case a9 => k_is)
    (case l9 => k_is)
    (case c9 => k_is)
    (case k9 => k_is)
    (case a10 => k_is)
    (case l10 => k_is)
    (case c10 => k_is)
    (case k10 => k_is)
    (case a11 => k_is)
    (case l11 => k_is)
    (case c11 => k_is)
    (case k11 => k_is)
    (case a12 => k_is)
    (case l12 => k_is)
    (case c12 => k_is)
    (case k12 => k_is)
    (case a13 => k_is)
    (case i13 => k_is)
    (case l13 => k_is)
    (case c13 => k_is)
    (case k13 => k_is)
    (case a14 => k_is)
    (case pc14 => k_is)
    (case fi14 => k_is)
    (case l14 => k_is)
    (case c14 => k_is)
    (case k14 => k_is)
    (case a15 => k_is)
    (case pg15 => k_is)
    (case pt15 => k_is)
    (case pc15 => k_is)
    (case l15 => k_is)
    (case c15 => k_is)
    (case k15 => k_is)
    (case a16 => k_is)
    (case i16 => k_is)
    (case l16 => k_is)
    (case c16 => k_is)
    (case k16 => k_is)
    (case a17 => k_is)
    (case i17 => k_is)
    (case l17 => k_is)
    (case c17 => k_is)
    (case k17 => k_is)
    (case kw17named => k_is)
    (case a18 => k_is)
    (case i18 => k_is)
    (case l18 => k_is)
    (case c18 => k_is)
    (case k18 => k_is)
    (case a19 => k_is)
    (case i19 => k_is)
    (case l19 => k_is)
    (case c19 => k_is)
    (case k19 => k_is)
    (case a20 => k_is)
    (case l20 => k_is)
    (case c20 => k_is)
    (case k20 => k_is)
    (case a21 => k_is)
    (case l21 => k_is)
    (case c21 => k_is)
    (case k21 => k_is)
    (case a22 => k_is)
    (case i22 => k_is)
    (case l22 => k_is)
    (case c22 => k_is)
    (case k22 => k_is)
    (case kw22name => k_is)
    (case kw22expression => k_is)
    (case a23 => k_is)
    (case i23 => k_is)
    (case l23 => k_is)
    (case c23 => k_is)
    (case k23 => k_is)
    (case a24 => k_is)
    (case pc24 => k_is)
    (case rd24 => k_is)
    (case rg24 => k_is)
    (case l24 => k_is)
    (case c24 => k_is)
    (case k24 => k_is)
    (case a25 => k_is)
    (case i25 => k_is)
    (case l25 => k_is)
    (case c25 => k_is)
    (case k25 => k_is)
    (case a26 => k_is)
    (case l26 => k_is)
    (case c26 => k_is)
    (case k26 => k_is)
    (case a27 => k_is)
    (case l27 => k_is)
    (case c27 => k_is)
    (case k27 => k_is)
    (case a28 => k_is)
    (case l28 => k_is)
    (case c28 => k_is)
    (case k28 => k_is)
    (case a29 => k_is)
    (case l29 => k_is)
    (case c29 => k_is)
    (case k29 => k_is)
    (case a30 => k_is)
    (case l30 => k_is)
    (case c30 => k_is)
    (case k30 => k_is)
    (case a31 => k_is)
    (case l31 => k_is)
    (case c31 => k_is)
    (case k31 => k_is)
    (case a32 => k_is)
    (case l32 => k_is)
    (case c32 => k_is)
    (case k32 => k_is)
    (case a33 => k_is)
    (case l33 => k_is)
    (case c33 => k_is)
    (case k33 => k_is)
    (case a34 => k_is)
    (case l34 => k_is)
    (case c34 => k_is)
    (case k34 => k_is)
    (case a35 => k_is)
    (case l35 => k_is)
    (case c35 => k_is)
    (case k35 => k_is)
    (case a36 => k_is)
    (case l36 => k_is)
    (case c36 => k_is)
    (case k36 => k_is)
    (case a37 => k_is)
    (case l37 => k_is)
    (case c37 => k_is)
    (case k37 => k_is)
    (case a38 => k_is)
    (case l38 => k_is)
    (case c38 => k_is)
    (case k38 => k_is)
    (case a39 => k_is)
    (case l39 => k_is)
    (case c39 => k_is)
    (case k39 => k_is)
    (case a40 => k_is)
    (case l40 => k_is)
    (case c40 => k_is)
    (case k40 => k_is)
    (case a41 => k_is)
    (case l41 => k_is)
    (case c41 => k_is)
    (case k41 => k_is)
    (case a42 => k_is)
    (case l42 => k_is)
    (case c42 => k_is)
    (case k42 => k_is)
    (case a43 => k_is)
    (case l43 => k_is)
    (case c43 => k_is)
    (case k43 => k_is)
    (case a44 => k_is)
    (case l44 => k_is)
    (case c44 => k_is)
    (case k44 => k_is)
    (case zValueError => k_is)
    (case zabs => k_is)
    (case zall => k_is)
    (case zbool => k_is)
    (case zdict => k_is)
    (case zenumerate => k_is)
    (case zint => k_is)
    (case zisinstance => k_is)
    (case zlen => k_is)
    (case zlist => k_is)
    (case zmax => k_is)
    (case zmin => k_is)
    (case zrange => k_is)
    (case zreversed => k_is)
    (case zstr => k_is)
    (case ztuple => k_is)
    (case xL_LivesError => k_is)
    (case xR_LivesError => decide +kernel)
    (case sa_LivesError => k_is)
    (case eC_LivesError => k_is)
    (case tC_LivesError => k_is)
    (case kc_LivesError => k_is)
    (case nw_LivesError => k_is)
    (case ii_LivesError => k_is)
    (case ga_LivesError => k_is)
    (case gg_LivesError => k_is)
    (case hd_LivesError => k_is)
    (case xL_TooLarge => k_is)
    (case xR_TooLarge => decide +kernel)
    (case sa_TooLarge => k_is)
    (case eC_TooLarge => k_is)
    (case tC_TooLarge => k_is)
    (case kc_TooLarge => k_is)
    (case nw_TooLarge => k_is)
    (case ii_TooLarge => k_is)
    (case ga_TooLarge => k_is)
    (case gg_TooLarge => k_is)
    (case hd_TooLarge => k_is)
    (case ha_TooLarge => k_is)
    (case hm_TooLarge => k_is)
    (case pg_Expression => k_is)
    (case hd_Expression => k_is)
    (case po_Expression => k_is)
    (case sa_Expression => k_is)
    (case mk_Expression => k_is)
    (case kc_Expression => k_is)
    (case ha_Expression => k_is)
    (case hm_Expression => k_is)
    (case rd_Expression => k_is)
    (case rg_Expression => k_is)
    (case cx_Expression_MOST_NODES => k_is)
    (case na_Expression__nodes => k_is)
    (case na_Expression__firsts => k_is)
    (case xL_NoPlace => k_is)
    (case xR_NoPlace => decide +kernel)
    (case sa_NoPlace => k_is)
    (case eC_NoPlace => k_is)
    (case tC_NoPlace => k_is)
    (case kc_NoPlace => k_is)
    (case nw_NoPlace => k_is)
    (case ii_NoPlace => k_is)
    (case ga_NoPlace => k_is)
    (case gg_NoPlace => k_is)
    (case hd_NoPlace => k_is)
    (case ha_NoPlace => k_is)
    (case hm_NoPlace => k_is)
    (case xL_InvalidExpression => k_is)
    (case xR_InvalidExpression => decide +kernel)
    (case sa_InvalidExpression => k_is)
    (case eC_InvalidExpression => k_is)
    (case tC_InvalidExpression => k_is)
    (case kc_InvalidExpression => k_is)
    (case nw_InvalidExpression => k_is)
    (case ii_InvalidExpression => k_is)
    (case ga_InvalidExpression => k_is)
    (case gg_InvalidExpression => k_is)
    (case hd_InvalidExpression => k_is)
    (case ha_InvalidExpression => k_is)
    (case hm_InvalidExpression => k_is)
    (case pg_Row => k_is)
    (case hd_Row => k_is)
    (case po_Row => k_is)
    (case sa_Row => k_is)
    (case mk_Row => k_is)
    (case kc_Row => k_is)
    (case ha_Row => k_is)
    (case hm_Row => k_is)
    (case na_Row_kind => k_is)
    (case na_Row_name => k_is)
    (case na_Row_expression => k_is)
    (case xL_InvalidRow => k_is)
    (case xR_InvalidRow => decide +kernel)
    (case sa_InvalidRow => k_is)
    (case eC_InvalidRow => k_is)
    (case tC_InvalidRow => k_is)
    (case kc_InvalidRow => k_is)
    (case nw_InvalidRow => k_is)
    (case ii_InvalidRow => k_is)
    (case ga_InvalidRow => k_is)
    (case gg_InvalidRow => k_is)
    (case hd_InvalidRow => k_is)
    (case ha_InvalidRow => k_is)
    (case hm_InvalidRow => k_is)
    (case hnO => k_is)
    (case htO => k_is)
    (case fa_si_ii => k_is)
    (case fa_si_tt => k_is)
    (case fa_si_ti => k_is)
    (case fa_tyE => k_is)
    (case fa_sb_str => k_is)
    (case fa_sb_int => k_is)
    (case fa_sb_bool => k_is)
    (case fa_sb_non => k_is)
    (case fa_tyR => k_is)
    (case fa_sbR_str => k_is)
    (case fa_si_rr => k_is)
    (case fa_si_tr => k_is)
    (case eBARE => k_is)
    (case oBARE => k_is)
    (case wBARE => exact UL.vals_of rfl)
    (case eBINDING => k_is)
    (case oBINDING => k_is)
    (case wBINDING => exact UL.vals_of rfl)
    (case eDIGITS => k_is)
    (case eLETTERS => k_is)
    (case eMOST_ARGUMENTS => k_is)
    (case eMOST_CHARACTERS => k_is)
    (case eOPERATIONS => k_is)
    (case oOPERATIONS => k_is)
    (case yOPERATIONS => k_keys)
    (case pOPERATIONS => exact (.cons ⟨_, _, rfl, rfl⟩ (.cons ⟨_, _, rfl, rfl⟩ (.cons ⟨_, _, rfl, rfl⟩ .nil))))
    (case sOPERATIONS => decide +kernel)
    (case eRESERVED => k_is)
    (case oRESERVED => k_is)
    (case wRESERVED => exact UL.vals_of rfl)
