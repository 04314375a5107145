import PyProof.Rows.All
import Wide.All
import OpenK.AllK
import Wide.FinOn
import HandS.ForMost
import HandS.Walk
import HandS.Evl
import HandS.IsInst
import HandS.Exc
import HandS.TryOnly
import HandS.ExcOwn
import HandS.ExcInit
import HandS.ExcField
import HandS.WordsExc
import HandS.Defaults
import HandS.MakeKw
import HandS.MakeKwOnly
import HandS.Property
import KE.KExcIs
import HandS.ClsMeth
import HandS.Star
import OpenK.KMeth
import OpenK.KOps
import HandS.IterVal
import HandS.OwnIter
import HandS.ExcValue
import PyProof.InstNe
import HandS.Iter
import HandS.More
import HandS.CallLocal
import PyProof.Draws
import PyProof.EnumMake
import HandS.Zip
import KE.GoesEnum
import KE.GoesMore
import HandS.Conv
import KE.KDictSum
import KE.KDictList
import KE.GoesRaise
import KE.KOwnIter
import HandS.Set
import HandS.SetFor
import HandS.SetKeys
import PyProof.Rows.SortShellAny
import HandS.DictComp
import HandS.DictEq
import HandS.TupAny
import HandS.SetBool
import HandS.Steps
import HandS.Text
import PySem.Challenge.RW_unnamedlives_k18_way_to_result
set_option Elab.async false
set_option linter.all false
set_option maxRecDepth 100000
/-! own: a list of draws as ONE unchanging thing of the abstract heap; small words -/
namespace UL
open PySem PySem.Spec PyProof.Rows L2 Evl TL

/-! ### draws -/
def Good (ns : List Int) : Prop := (∀ m ∈ ns, 0 ≤ m ∧ m < 1000003) ∧ ns.length ≤ 4000
def drObj (d : Addr) (h : Heap) : Prop := ∃ (ns : List Int) (its : List Value) (n : Nat), Good ns ∧ Vals (ns.map V.int) its ∧ h.get? d = some { cls := .type "list", data := .seq its.toArray n }
def DrO (d : Addr) : HO := .ext (drObj d)
theorem good_sz {ns : List Int} (g : Good ns) : (ns.map V.int).length ≤ sizeLine := by
  rw [List.length_map]
  exact Nat.le_trans g.2 (by decide)
section
variable {X : Cx} {pins : List (Addr × Obj)} {σ : L2.St} {H : Hp} {s : Shared} {d : Addr}
theorem inv_open (I : Inv X pins σ H s) (h : H d = some (DrO d)) : ∃ ns, Good ns ∧ Inv X pins σ (upd H d (.lst (ns.map V.int))) s := by
  obtain ⟨⟨ns, its, n, g, r, e⟩, _, _⟩ := I.hok d _ h
  exact ⟨ns, g, I.write (x := d) (e := d) (h' := s.heap) (t' := s.toks) (by rw [h]; trivial) (.inl rfl) (fun _ _ _ q => q) ⟨_, e⟩ ⟨good_sz g, its, n, r, e⟩⟩
theorem inv_close {ns : List Int} (I : Inv X pins σ H s) (h : H d = some (.lst (ns.map V.int))) (g : Good ns) : Inv X pins σ (upd H d (DrO d)) s := by
  obtain ⟨z, its, n, r, e⟩ := I.hok d _ h
  exact I.write (x := d) (e := d) (h' := s.heap) (t' := s.toks) (by rw [h]; trivial) (.inl rfl) (fun _ _ _ q => q) ⟨_, e⟩
    ⟨⟨ns, its, n, g, r, e⟩, ⟨_, e⟩, fun h1 h2 ⟨ns', its', n', g', r', e'⟩ k => ⟨ns', its', n', g', r', k _ e'⟩⟩
/-- the list of draws in slot i is opened ahead of the statements -/
def tOpen (i : Nat) (t : TS) : TS := fun D σ H => ∃ d, σ[i]? = some (some (.ref d)) ∧ H d = some (DrO d) ∧ ∀ ns, Good ns → t D σ (upd H d (.lst (ns.map V.int)))
theorem pss_open (i : Nat) {sts : List Stmt} {t : TS} (h : PSs X sts t) : PSs X sts (tOpen i t) := by
  refine ⟨fun pins s σ H D I q => ?_⟩
  obtain ⟨d, _, hd, k⟩ := q
  obtain ⟨ns, g, J⟩ := inv_open I hd
  exact h.run pins s σ _ D J (k ns g)
/-- .. and closed behind an expression -/
def tClose (t : TE) : TE := fun σ H Q => t σ H fun v H1 => ∃ d ns, H1 d = some (.lst (ns.map V.int)) ∧ Good ns ∧ Q v (upd H1 d (DrO d))
theorem pe_close {e : Expr} {t : TE} (h : PE X e t) : PE X e (tClose t) := by
  refine ⟨fun pins s σ H Q I q => ?_⟩
  refine thn (h.run pins s σ H _ I q) fun u s1 ⟨v, H1, I1, r, d, ns, hd, g, k⟩ => ?_
  exact ⟨v, _, inv_close I1 hd g, r, k⟩
end
theorem upd_back {H : Hp} {d : Addr} {o u : HO} (h : H d = some o) : upd (upd H d u) d o = H := by
  funext b
  unfold upd
  by_cases e : b = d
  · rw [if_pos e, e, h]
  · rw [if_neg e, if_neg e]
theorem upd_id {H : Hp} {d : Addr} {o : HO} (h : H d = some o) : upd H d o = H := by
  funext b
  unfold upd
  by_cases e : b = d
  · rw [if_pos e, e, h]
  · rw [if_neg e]
theorem same_upd {H : Hp} {p : Addr} {o : HO} (h : H p = none) : Same H (upd H p o) := fun b x e => by
  rw [upd_ne (ne_of_none e h)]
  exact e
theorem _root_.Evl.Ex.free' {H H' : Hp} {p : Addr} (e : Ex H H') (h : H' p = none) : H p = none := fresh_back e h
theorem good_tail {n : Int} {ns : List Int} (g : Good (n :: ns)) : 0 ≤ n ∧ n < 1000003 ∧ Good ns :=
  ⟨(g.1 n List.mem_cons_self).1, (g.1 n List.mem_cons_self).2, fun m hm => g.1 m (List.mem_cons_of_mem _ hm), Nat.le_trans (Nat.le_succ _) g.2⟩
theorem good_nil : Good [] := ⟨fun _ h => (nomatch h), by decide⟩
theorem good_add {ns : List Int} {n : Int} (g : ∀ m ∈ ns, 0 ≤ m ∧ m < 1000003) (h : 0 ≤ n ∧ n < 1000003) : ∀ m ∈ ns ++ [n], 0 ≤ m ∧ m < 1000003 := fun m hm => by
  rcases List.mem_append.mp hm with h1 | h1
  · exact g m h1
  · rw [List.mem_singleton.mp h1]
    exact h

/-! ### text * int -/
theorem op_mul_str {X : Cx} : OpR X (binaryOp .Mult) (fun x y H Q => ∃ (z : Str) (n : Int), x = .str z ∧ y = .int n ∧ MulOk z n ∧ Q (.str (Txt.mul z n)) H) := by
  intro pins s σ H x y v u Q I rx ry h
  obtain ⟨i, j, rfl, rfl, hz, q⟩ := h
  obtain ⟨t, rfl⟩ := rx
  obtain ⟨t', rfl⟩ := ry
  exact SB.mul hz (fun t' tk => ⟨.str (Txt.mul i j), H, I.tok _, ⟨_, rfl⟩, q⟩)
theorem mulOk_small {z : Str} {n : Int} (hz : z.length ≤ 64) (h0 : 0 ≤ n) (h1 : n ≤ 64) : MulOk z n := by
  refine ⟨?_, fun h2 _ => ?_, fun _ _ => ?_⟩
  · rw [decide_eq_false (by omega), decide_eq_false (by omega)]
    rfl
  · intro h
    have h3 : (64 : Int) ≤ (2 ^ 63 - 1) / n := (Int.le_ediv_iff_mul_le (by omega)).mpr (by omega)
    omega
  · unfold PySem.Builtin.Str.tooLong
    refine decide_eq_false ?_
    have h3 : z.length * n.toNat ≤ 64 * 64 := Nat.mul_le_mul hz (by omega)
    have h4 : (64 * 64 : Nat) ≤ sizeLine := by decide
    omega
theorem tl_reps (x : Array Nat) : ∀ (k : Nat) (a : Array Nat), ((List.replicate k x).foldl (· ++ ·) a).toList = a.toList ++ (List.replicate k x.toList).flatten
  | 0, a => by simp
  | k + 1, a => by
    rw [List.replicate_succ, List.foldl_cons, tl_reps x k (a ++ x), List.replicate_succ, List.flatten_cons, Array.toList_append, List.append_assoc]
theorem tl_mul (z : Str) (n : Int) : tl (Txt.mul z n) = (List.replicate n.toNat (tl z)).flatten := by
  unfold Txt.mul
  by_cases h1 : n < 1
  · rw [if_pos h1, show n.toNat = 0 by omega]
    rfl
  · rw [if_neg h1]
    by_cases h2 : (n == 1 || z.length == 0) = true
    · rw [if_pos h2]
      rcases Bool.or_eq_true _ _ ▸ h2 with h3 | h3
      · have : n = 1 := by simpa using h3
        subst this
        show tl z = (List.replicate 1 (tl z)).flatten
        simp
      · have h4 : (tl z) = [] := by
          have : z.length = 0 := by simpa using h3
          rw [len_tl] at this
          exact List.eq_nil_of_length_eq_zero this
        rw [h4]
        simp
    · rw [if_neg h2]
      show ((List.replicate n.toNat z.cps).foldl (· ++ ·) #[]).toList = _
      rw [tl_reps]
      rfl

theorem rel_of {x : V} {u : Value} (h : absV u = some x) : RelV x u := by
  cases u <;> first | (cases h; done) | (cases h; exact rfl) | (cases h; exact ⟨_, rfl⟩)
theorem vals_of : ∀ {xs : List V} {us : List Value}, us.map absV = xs.map some → Vals xs us
  | [], [], _ => .nil
  | [], _ :: _, h => (nomatch h)
  | _ :: _, [], h => (nomatch h)
  | x :: xs, u :: us, h => by
    rw [List.map_cons, List.map_cons] at h
    exact .cons (rel_of (List.cons.inj h).1) (vals_of (List.cons.inj h).2)
theorem dp_strs {K : PySem.W.Frag} {H : Hp} : ∀ zs : List Str, DpAll K H (zs.map V.str) (zs.map PyData.str)
  | [] => .nil
  | z :: r => .cons (.str z) (dp_strs r)
/-! ### loops -/
section
variable {D : Ends} {tb : TS} {j : Nat} {σ : L2.St} {H : Hp}
theorem forR1 {n : Int} (hn : -(2 ^ 62) ≤ n ∧ n < 2 ^ 62) (Pv : Nat → L2.St → Hp → Prop) (h0 : Pv 0 σ H)
    (hs : ∀ (i : Nat) σ' H', (i : Int) < n → Pv i σ' H' → tb { D with nx := Pv (i + 1), ct := Pv (i + 1), bk := D.nx } (σ'.set j (some (.int (i : Int)))) H') (hd : ∀ σ' H', Pv n.toNat σ' H' → D.nx σ' H') :
    -(2 ^ 62) ≤ n ∧ n < 2 ^ 62 ∧ ∃ W : Nat → Nat → L2.St → Hp → Prop, (∃ m, W 0 m σ H) ∧ ∀ i m σ H, W i m σ H →
      ((Itr 0 n.toNat).stop i H ∧ D.nx σ H) ∨ ((Itr 0 n.toNat).go i H ∧ ∃ N : L2.St → Hp → Prop, (∀ σ' H', N σ' H' → ∃ m', m' < m ∧ W (i + 1) m' σ' H') ∧ ∀ x H', (Itr 0 n.toNat).yld i H x H' → gName j x σ H' fun σ2 H2 => tb { D with nx := N, ct := N, bk := D.nx } σ2 H2) :=
  ⟨hn.1, hn.2, for_range (lo := 0) (n := n.toNat) Pv h0 (fun i σ' H' hi p => by
    have e0 : (0 : Int) + (i : Int) = (i : Int) := Int.zero_add _
    show tb { D with nx := Pv (i + 1), ct := Pv (i + 1), bk := D.nx } (σ'.set j (some (.int ((0 : Int) + (i : Int))))) H'
    rw [e0]
    exact hs i σ' H' (by omega) p) hd⟩
end
theorem seq0 (n : Nat) : seqIndex? 0 (n + 1) = some 0 := by
  unfold seqIndex?
  have h : (0 : Int) < ((n + 1 : Nat) : Int) := by omega
  have h2 : (0 ≤ (0 : Int) && decide ((0 : Int) < ((n + 1 : Nat) : Int))) = true := by
    rw [decide_eq_true h]
    rfl
  show (if (0 ≤ (0 : Int) && decide ((0 : Int) < ((n + 1 : Nat) : Int))) = true then some (0 : Int).toNat else none) = some 0
  rw [if_pos h2]
  rfl
theorem at_lt {α : Type} {xs : List α} {n : Int} (h0 : 0 ≤ n) (h1 : n < (xs.length : Int)) : ∃ c, atI xs n = some c := by
  obtain ⟨m, rfl⟩ := Int.eq_ofNat_of_zero_le h0
  have hm : m < xs.length := by omega
  exact ⟨xs[m], atI_nat (List.getElem?_eq_getElem hm)⟩
theorem at_in {α : Type} {xs : List α} {n : Int} (h0 : 0 ≤ n) (h1 : n < (xs.length : Int)) : ∃ c, atI xs n = some c ∧ c ∈ xs := by
  obtain ⟨m, rfl⟩ := Int.eq_ofNat_of_zero_le h0
  have hm : m < xs.length := by omega
  exact ⟨xs[m], atI_nat (List.getElem?_eq_getElem hm), List.getElem_mem hm⟩
theorem emod_in {a : Int} : 0 ≤ a % 1000003 ∧ a % 1000003 < 1000003 := ⟨Int.emod_nonneg _ (by decide), Int.emod_lt_of_pos _ (by decide)⟩
theorem int_get {ns : List Int} {i : Nat} (h : i < ns.length) : (ns.map V.int)[i]? = some (.int ns[i]) := by
  rw [List.getElem?_map, List.getElem?_eq_getElem h]
  rfl
/-! ### comprehensions over a text -/
theorem lc_str {z : Str} {f : Nat → V} {j : Nat} {te : TE} {vs : List Nat} {σ : L2.St} {H1 : Hp} {D : Addr} {Qd : Hp → Prop} (hz : z.length ≤ 100000) (hD : H1 D = none) (hw : ∀ x, wipe ((wipe σ vs).set j (some x)) vs = wipe σ vs)
    (he : ∀ (c : Nat) H', Ex H1 H' → ∀ Q : VK, Q (f c) H' → te ((wipe σ vs).set j (some (.str ⟨#[c]⟩))) H' Q) (hd : Qd (upd H1 D (.lst ((tl z).map f)))) :
    ∃ W : Nat → Nat → Hp → Prop, (∃ m, W 0 m (upd H1 D (.lst []))) ∧ ∀ i m H, W i m H →
      ((Its z).stop i H ∧ Qd H) ∨ ((Its z).go i H ∧ ∃ Nx : Hp → Prop, (∀ H', Nx H' → ∃ m', m' < m ∧ W (i + 1) m' H') ∧ ∀ x H', (Its z).yld i H x H' → gName j x (wipe σ vs) H' fun σ2 H2 => wipe σ2 vs = wipe σ vs ∧ tYes σ2 H2 fun b H3 =>
        if b = true then te σ2 H3 fun y H4 => ∃ acc, H4 D = some (.lst acc) ∧ acc.length < sizeLine ∧ Nx (upd H4 D (.lst (acc ++ [y]))) else Nx H3) := by
  refine lc_it walk_str (fun i H' => H' = upd H1 D (.lst (((tl z).take i).map f))) rfl (fun _ _ _ _ => trivial) ?_ ?_
  · rintro i x H H' hi rfl ⟨rfl, c, hc, rfl⟩
    refine ⟨hw _, ?_⟩
    show te _ _ _
    refine he c _ (Ex.new hD) _ ?_
    have hc' : (tl z)[i]? = some c := by rw [← hc]; exact Array.getElem?_toList
    refine ⟨_, upd_same, ?_, ?_⟩
    · rw [List.length_map, List.length_take]
      exact sz_lt (by have := len_tl z; have hs : i < z.length := hi; omega)
    · rw [upd_upd, List.take_add_one, hc', List.map_append]
      rfl
  · rintro H rfl
    have e : (tl z).take z.cps.size = tl z := List.take_of_length_le (by rw [← len_tl]; exact Nat.le_refl _)
    rw [e]
    exact hd
theorem for_str {z : Str} {j : Nat} {tb : TS} {D : Ends} {σ : L2.St} {H : Hp} (Pv : Nat → L2.St → Hp → Prop) (h0 : Pv 0 σ H)
    (hs : ∀ i c σ' H', (tl z)[i]? = some c → Pv i σ' H' → tb { D with nx := Pv (i + 1), ct := Pv (i + 1), bk := D.nx } (σ'.set j (some (.str ⟨#[c]⟩))) H') (hd : ∀ σ' H', Pv (tl z).length σ' H' → D.nx σ' H') :
    ∃ W : Nat → Nat → L2.St → Hp → Prop, (∃ m, W 0 m σ H) ∧ ∀ i m σ H, W i m σ H →
      ((Its z).stop i H ∧ D.nx σ H) ∨ ((Its z).go i H ∧ ∃ N : L2.St → Hp → Prop, (∀ σ' H', N σ' H' → ∃ m', m' < m ∧ W (i + 1) m' σ' H') ∧ ∀ x H', (Its z).yld i H x H' → gName j x σ H' fun σ2 H2 => tb { D with nx := N, ct := N, bk := D.nx } σ2 H2) := by
  refine for_it walk_str Pv h0 (fun _ _ _ _ _ => trivial) ?_ ?_
  · rintro i x σ' H1 H2 hi p ⟨rfl, c, hc, rfl⟩
    exact hs i c σ' _ (by rw [← hc]; exact Array.getElem?_toList) p
  · intro σ' H' p
    exact hd σ' H' p
/-- [te for _ in range(n)]: things of a kind that stays true, also when a list is written -/
theorem lc_n {G : Hp → V → Prop} {n : Int} {j : Nat} {te : TE} {vs : List Nat} {σ : L2.St} {H1 : Hp} {D : Addr} {Qd : Hp → Prop} (hn : 0 ≤ n ∧ n ≤ 100000) (hD : H1 D = none) (hG : ∀ H H' v, Ex H H' → G H v → G H' v)
    (hG2 : ∀ H xs ys v, H D = some (.lst xs) → G H v → G (upd H D (.lst ys)) v) (hw : ∀ x, wipe ((wipe σ vs).set j (some x)) vs = wipe σ vs)
    (he : ∀ (i : Nat) H', (i : Int) < n → Ex H1 H' → ∀ Q : VK, (∀ v H2, Ex H' H2 → G H2 v → Q v H2) → te ((wipe σ vs).set j (some (.int (i : Int)))) H' Q) (hd : ∀ H' xs, Ex H1 H' → H' D = some (.lst xs) → (xs.length : Int) = n → (∀ x ∈ xs, G H' x) → Qd H') :
    ∃ W : Nat → Nat → Hp → Prop, (∃ m, W 0 m (upd H1 D (.lst []))) ∧ ∀ i m H, W i m H →
      ((Itr 0 n.toNat).stop i H ∧ Qd H) ∨ ((Itr 0 n.toNat).go i H ∧ ∃ Nx : Hp → Prop, (∀ H', Nx H' → ∃ m', m' < m ∧ W (i + 1) m' H') ∧ ∀ x H', (Itr 0 n.toNat).yld i H x H' → gName j x (wipe σ vs) H' fun σ2 H2 => wipe σ2 vs = wipe σ vs ∧ tYes σ2 H2 fun b H3 =>
        if b = true then te σ2 H3 fun y H4 => ∃ acc, H4 D = some (.lst acc) ∧ acc.length < sizeLine ∧ Nx (upd H4 D (.lst (acc ++ [y]))) else Nx H3) := by
  refine lc_range (lo := 0) (n := n.toNat) (fun i H' => ∃ xs : List V, Ex H1 H' ∧ H' D = some (.lst xs) ∧ xs.length = i ∧ ∀ x ∈ xs, G H' x) ⟨[], Ex.new hD, upd_same, rfl, fun _ h => (nomatch h)⟩ ?_ ?_
  · rintro i H' hi ⟨xs, e1, hL, hl, hx⟩
    have e0 : (0 : Int) + (i : Int) = (i : Int) := Int.zero_add _
    show wipe ((wipe σ vs).set j (some (.int ((0 : Int) + (i : Int))))) vs = wipe σ vs ∧ _
    refine ⟨hw _, ?_⟩
    show te ((wipe σ vs).set j (some (.int ((0 : Int) + (i : Int))))) _ _
    rw [e0]
    refine he i H' (by omega) e1 _ fun v H2 e2 g => ⟨xs, e2 _ _ hL, sz_lt (by omega), xs ++ [v], (e1.trans e2).mut hD, upd_same, by rw [List.length_append, hl]; rfl, fun x hm => ?_⟩
    rcases List.mem_append.mp hm with h | h
    · exact hG2 _ _ _ _ (e2 _ _ hL) (hG _ _ _ e2 (hx x h))
    · rw [List.mem_singleton.mp h]
      exact hG2 _ _ _ _ (e2 _ _ hL) g
  · rintro H' ⟨xs, e1, hL, hl, hx⟩
    exact hd H' xs e1 hL (by omega) hx
end UL

set_option Elab.async false
set_option linter.all false
set_option maxRecDepth 100000
/-! own: one of two readings; objects made with keywords where an error may leave; own ==; isinstance of an error that has a dict -/
namespace UL
open PySem PySem.Spec PyProof.Rows L2 Evl TL

/-! ### one of two readings -/
section
variable {X : Cx} {e : Expr} {t1 t2 : TE} {op : CmpOp} {tg iter : Expr} {w1 w2 : TI}
def tAlt (t1 t2 : TE) : TE := fun σ H Q => t1 σ H Q ∨ t2 σ H Q
theorem pe_alt (h1 : PE X e t1) (h2 : PE X e t2) : PE X e (tAlt t1 t2) :=
  ⟨fun pins s σ H Q I h => h.elim (fun q => h1.run pins s σ H Q I q) (fun q => h2.run pins s σ H Q I q)⟩
def iAlt (w1 w2 : TI) : TI := fun σ H R => w1 σ H R ∨ w2 σ H R
theorem pi_alt (h1 : PI X tg iter w1) (h2 : PI X tg iter w2) : PI X tg iter (iAlt w1 w2) :=
  ⟨fun pins s σ H R I h => h.elim (fun q => h1.run pins s σ H R I q) (fun q => h2.run pins s σ H R I q)⟩
def rAlt (r1 r2 : R2) : R2 := fun x y H Q => r1 x y H Q ∨ r2 x y H Q
theorem op_alt {f : Value → Value → Sem Value} {r1 r2 : R2} (h1 : OpR X f r1) (h2 : OpR X f r2) : OpR X f (rAlt r1 r2) :=
  fun pins s σ H x y v u Q I rx ry h => h.elim (fun q => h1 pins s σ H x y v u Q I rx ry q) (fun q => h2 pins s σ H x y v u Q I rx ry q)
def cAlt (r1 r2 : List V → Hp → VK → Prop) : List V → Hp → VK → Prop := fun xs H Q => r1 xs H Q ∨ r2 xs H Q
theorem call_alt {f : Value} {r1 r2 : List V → Hp → VK → Prop} (h1 : CallR X f r1) (h2 : CallR X f r2) : CallR X f (cAlt r1 r2) :=
  fun pins s σ H xs us Q I r h => h.elim (fun q => h1 pins s σ H xs us Q I r q) (fun q => h2 pins s σ H xs us Q I r q)
end

/-! ### C(e, .., k = v, ..) where what is raised is wished for at the caller's slots -/
def tMakeS (C : Addr) (n m : Nat) (sp : Sp) (gV : List V → List V → List V) (E : L2.St → XK) (t tk : TA) : TE := fun σ H Q => t σ H fun vs H1 => tk σ H1 fun zs H2 => vs.length = n ∧ zs.length = m ∧
  ∀ x dx, H2 x = none → H2 dx = none → dx ≠ x → sp (gV (.ref x :: vs) zs) (upd (upd H2 dx (.own x)) x (.ins C dx [])) (fun v H3 => v = .non ∧ Q (.ref x) H3) (E σ)
section
variable {X : Cx} {CX : CXT} {k n : Nat} {f C : Addr} {fd : FuncData} {ps ks : List Str} {sp : Sp} {E : L2.St → XK} {x : Str} {p pos : Pos} {e : Expr} {es : List Expr} {kws : List Keyword} {t tk : TA} {g : List Value → List Value → List Value} {gV : List V → List V → List V}
theorem mk_run {pins : List (Addr × Obj)} {σ : L2.St} {H : Hp} {s : Shared} {Q : VK} {us ws : List Value} {vs zs : List V} (M : Mk X.K C f) (F : FnOk X.prog X.w X.K X.mg X.base CX k f fd ps sp) (hr : Room (k + 1) X.A)
    (hb : KBn X.K fd ps (n + 1) ks g gV) (hx : PassesAt CX X σ (E σ)) (I : Inv X pins σ H s) (r : Vals vs us) (rz : Vals zs ws) (l1 : vs.length = n) (l2 : zs.length = ks.length)
    (h : ∀ x dx, H x = none → H dx = none → dx ≠ x → sp (gV (.ref x :: vs) zs) (upd (upd H dx (.own x)) x (.ins C dx [])) (fun v H2 => v = .non ∧ Q (.ref x) H2) (E σ)) :
    wpAny (model X.prog X.w) X.A (call (.ref C) us (ks.zip ws)) (EP X pins σ Q) X.xe s := by
  let sz := s.heap.objs.size
  have J := Inv.made (C := C) I
  have q0 := h (sz + 1) sz (I.hok.fresh (Nat.le_succ _)) (I.hok.fresh (Nat.le_refl _)) (Nat.ne_of_lt (Nat.lt_succ_self _))
  have ra : Vals (V.ref (sz + 1) :: vs) (Value.ref (sz + 1) :: us) := .cons rfl r
  have na : (Value.ref (sz + 1) :: us).length = n + 1 := by rw [← ra.length, List.length_cons, l1]
  have run := F.run _ X.stack _ _ ⟨Value.ref (sz + 1) :: us, ks.zip ws⟩ (g (Value.ref (sz + 1) :: us) ws) _ _ (E σ) (hr.make C us (ks.zip ws)) (J.env0.make C us (ks.zip ws)) (hb.to _ (Value.ref (sz + 1) :: us) ws J.kIn na (rz.length.symm.trans l2)) (hb.rel ra rz) q0
  refine wpAny_call (make_map (f := f) I.kIn M.makes M.init (beq_iff_eq.mp M.fn) (codeAny_mono run fun rr s' z => ?_))
  match rr, z with
  | .error er, z => exact hx pins _ _ er s' J z
  | .ok (.ret u), z =>
    obtain ⟨v, H', J', rv, ev, q⟩ := J.after z
    subst ev
    exact ⟨rv, ⟨V.ref (sz + 1), H', J', rfl, q⟩⟩
  | .ok .next, z => exact False.elim z
  | .ok .brk, z => exact False.elim z
  | .ok .cont, z => exact False.elim z
theorem pe_makeS (M : Mk X.K C f) (F : FnOk X.prog X.w X.K X.mg X.base CX k f fd ps sp) (hr : Room (k + 1) X.A) (hg : Gl X x) (hm : X.mg x = some (.ref C)) (hb : KBn X.K fd ps (n + 1) ks g gV) (hx : ∀ σ, PassesAt CX X σ (E σ)) (ha : PA X (e :: es) t) (hkw : PK X kws tk)
    (a1 : (backToKw pos (keywordEach kws X.env)).all (·.1.isSome) = true := by rfl) (a2 : (backToKw pos (keywordEach kws X.env)).filterMap (·.1) = ks := by rfl) (a3 : (x == ("__debug__" : Str)) = false := by decide)
    (a4 : starEach (e :: es) X.env = (false, eval e X.env) :: starEach es X.env := by rfl) (a5 : ((backTo pos (starEach (e :: es) X.env)).any (·.1) || (backToKw pos (keywordEach kws X.env)).any (·.1.isNone)) = false := by rfl) :
    PE X (.Call (.Name x p) (e :: es) kws pos) (tMakeS C n ks.length sp gV E t tk) := by
  refine ⟨fun pins s σ H Q I h => wpAny_Call_Name_kw (ld_glob I hg hm ?_ a3)⟩
  refine PySem.W.callWith_KW (h₀ := X.base) I.ok.mod.kin M.kp a1 (thn (ha.run pos pins s σ H _ I h) fun us s1 hh => ?_) a5 a4
  obtain ⟨vs, H1, I1, r, q⟩ := hh
  refine thn (hkw.run pos pins s1 σ H1 _ I1 q) fun ws s2 hh => ?_
  obtain ⟨zs, H2, I2, rz, l1, l2, q2⟩ := hh
  exact ⟨I2.kIn, by rw [a2]; exact mk_run M F hr hb (hx σ) I2 r rz l1 l2 q2⟩
end
/-- what leaves a call is wished for wherever the slots stand -/
theorem passAny {X : Cx} {W : WX} (tk : Takes X W) : ∀ σ, PassesAt (L2.CX X.prog X.w) X σ (WE W σ) := fun σ => passAt tk σ
/-- .. in a def that lets it out: the wish E is the caller's -/
theorem passOut {X : Cx} {E : XK} (tk : Takes X fun cls d _ H => E cls d H) : ∀ σ, PassesAt (L2.CX X.prog X.w) X σ E := fun σ => passAt tk σ

/-! ### own == -/
/-- what may stand on the right of an own ==: of its class, or of a type beside it -/
def RSide (K : PySem.W.Frag) (C : Addr) (y : V) (H : Hp) : Prop := (∃ b dy gs, y = .ref b ∧ H b = some (.ins C dy gs)) ∨ (∃ z, y = .str z ∧ PySem.W.subIn K (.type "str") (.ref C) = some false) ∨ ∃ b ys, y = .ref b ∧ H b = some (.tup ys) ∧ PySem.W.subIn K (.type "tuple") (.ref C) = some false
def rOwnEq (K : PySem.W.Frag) (C : Addr) (sp : Sp) (E : XK) : R2 := fun x y H Q => ∃ a dx fs, x = .ref a ∧ H a = some (.ins C dx fs) ∧ RSide K C y H ∧ sp [.ref a, y] H (fun v H' => (∃ b, v = .bl b) ∧ Q v H') E
section
variable {X : Cx} {CX : CXT} {k : Nat} {f C : Addr} {fd : FuncData} {ps : List Str} {sp : Sp} {E : XK}
theorem op_ownEq (F : FnOk X.prog X.w X.K X.mg X.base CX k f fd ps sp) (hr : Room k X.A) (hs : PySem.W.findIn X.K (.ref C) "__eq__" = some (some (.ref f))) (hf : PySem.W.isFn X.K (.ref f) = true) (hb : L2.Binds X.K fd ps []) (hx : Passes CX X E) :
    OpR X (compareOp .Eq) (rOwnEq X.K C sp E) := by
  intro pins s σ H x y v u Q I rx ry h
  obtain ⟨a, dx, fs, rfl, ha, hy, q⟩ := h
  cases rx
  obtain ⟨mA, J, _⟩ := ins_get I.hok ha
  obtain ⟨od, J, _⟩ := J.look
  obtain ⟨m, hF⟩ := I.fr
  have side : ∃ tb, PySem.W.Looks (model X.prog X.w) s.heap (typeOf u) tb ∧ PySem.W.notFirst X.K C tb = true := by
    rcases hy with ⟨b, dy, gs, rfl, hb2⟩ | ⟨z, rfl, hn⟩ | ⟨b, ys, rfl, hb2, hn⟩
    · cases ry
      obtain ⟨mB, J', _⟩ := ins_get I.hok hb2
      obtain ⟨od', J', _⟩ := J'.look
      exact ⟨_, J'.type, by simp [PySem.W.notFirst]⟩
    · obtain ⟨t, rfl⟩ := ry
      exact ⟨.type "str", .now, by simp [PySem.W.notFirst, hn]⟩
    · cases ry
      obtain ⟨z, its, r, o, hg, hc, n, hd⟩ := I.hok b _ hb2
      exact ⟨.type "tuple", hc ▸ (PySem.W.Looks.ld hg).andThen .now, by simp [PySem.W.notFirst, hn]⟩
  obtain ⟨tb, ty, nf⟩ := side
  show wpAny _ _ (richCompare .Eq (.ref a) u) _ _ _
  refine PySem.W.cmp_K (op := .Eq) (tb := tb) hr.units0 hF I.ok.mod.kin J ty nf hs hf ?_
  have r2 : Vals [V.ref a, y] [Value.ref a, u] := .cons rfl (.cons ry .nil)
  have hl : [Value.ref a, u].length = ps.length := by rw [← r2.length]; exact F.len _ _ _ _ q
  have bd := hb s [Value.ref a, u] I.kIn (by rw [List.append_nil]; exact hl)
  rw [List.append_nil] at bd
  refine wpAny_call (codeAny_mono (F.run X.A X.stack s H ⟨[.ref a, u], []⟩ [.ref a, u] [.ref a, y] _ E hr I.env0 bd r2 q) fun rr s' z => ?_)
  match rr, z with
  | .error er, z => exact hx pins σ H s er s' I z
  | .ok (.ret w), z =>
    obtain ⟨v, H', I', rv, ⟨b, rfl⟩, q'⟩ := I.after z
    cases rv
    exact ⟨V.bl b, H', I', rfl, q'⟩
  | .ok .next, z => exact False.elim z
  | .ok .brk, z => exact False.elim z
  | .ok .cont, z => exact False.elim z
end

/-! ### isinstance of a caught error that has a dict -/
def rIsX (K : PySem.W.Frag) (D a : Addr) (cls : Value) (d : Option Addr) : List V → Hp → VK → Prop := fun xs H Q => ∃ (c : V) (cv : Value) (b : Bool) (dd : Addr) (fs : List (Str × V)), xs = [.ref a, c] ∧ cls = .ref D ∧ (∀ u, RelV c u → u = cv) ∧ d = some dd ∧ H dd = some (.xd fs) ∧ PySem.W.kitOne K (.ref D) cv = some b ∧ Q (.bl b) H
structure ExI (K : PySem.W.Frag) (D : Addr) : Prop where
  c1 : (PySem.W.clsIn K D).isSome = true
  c2 : PySem.W.findIn K (.ref D) "__getattribute__" = some (some (.builtin "BaseException.__getattribute__"))
  c3 : PySem.W.findIn K (.ref D) "__getattr__" = some none
  c4 : PySem.W.subIn K (.ref D) (.type "BaseException") = some true
  c5 : PySem.W.findIn K (.ref D) "__class__" = some (some (.builtin "object.__class__"))
  c6 : PySem.W.specialIn K (.builtin "object.__class__") "__get__" = some (some (.builtin "getset_descriptor.__get__"))
  c7 : PySem.W.takesIn K (.builtin "object.__class__") = some true
  c8 : PySem.W.mroIn K D (.type "object") = some true
theorem call_isX {X : Cx} {a D : Addr} {cls : Value} {d : Option Addr} {oe : Obj} {pn : List (Addr × Obj)} (T : ExI X.K D) (hz : Zc cls d oe) (hf : ∃ vs, oe.data = .fields vs) : CallR (X.suite a ((a, oe) :: pn)) (.builtin "isinstance") (rIsX X.K D a cls d) := by
  intro pins s σ H xs us Q I r h
  obtain ⟨c, cv, b, dd, fs, rfl, rfl, hcv, rfl, hd, ek, q⟩ := h
  obtain ⟨u1, w1, e1, r1, rr1⟩ : ∃ u1 w1, us = [u1, w1] ∧ RelV (.ref a) u1 ∧ RelV c w1 := by
    cases r with
    | cons q1 q2 =>
      cases q2 with
      | cons q3 q4 =>
        cases q4
        exact ⟨_, _, rfl, q1, q3⟩
  subst e1
  cases r1
  have e2 := hcv _ rr1
  subst e2
  obtain ⟨hget, _⟩ := I.pin (a, oe) (List.mem_append.mpr (.inl List.mem_cons_self))
  obtain ⟨vs, hv⟩ := hf
  have hx : ObjOk X.prog X.w H s.heap dd (.xd fs) := I.hok dd _ hd
  obtain ⟨mA, hns, _⟩ := hx
  obtain ⟨od, ho, _⟩ := lookIn_ns hns
  have J : PySem.W.InstAt s.heap a oe D (some od) := ⟨hget, hz.1, by unfold PySem.W.notCls; rw [hv] <;> rfl, by rw [hz.2]; exact ho⟩
  exact PySem.W.kia_one (PySem.W.kitx_exc T.c1 T.c2 T.c3 T.c4 T.c5 T.c6 T.c7 T.c8) I.kIn J ek (fun z => nomatch z) fun tk => ⟨.bl b, H, I.kept (t' := tk) fun _ _ z => z, rfl, q⟩
/-! ### what the written part says of a class -/
structure TyF (K : PySem.W.Frag) (C : Addr) : Prop where
  ha : PySem.W.findIn K (.ref C) "__class__" = some (some (.builtin "object.__class__"))
  hn : PySem.W.specialIn K (.builtin "object.__class__") "__get__" = some (some (.builtin "getset_descriptor.__get__"))
  ht : PySem.W.takesIn K (.builtin "object.__class__") = some true
  hm : PySem.W.mroIn K C (.type "object") = some true
theorem tyx_ins {K : PySem.W.Frag} {H : Hp} {a C dx : Addr} {fs : List (Str × V)} (e : H a = some (.ins C dx fs)) (c : Cls K C) (t : TyF K C) : TyX K H (.ref a) (.ref C) := .base (.ins e c t.ha t.hn t.ht t.hm)
structure ExF (K : PySem.W.Frag) (C I : Addr) : Prop where
  ox : OexC K C
  ii : PySem.W.findIn K (.ref C) "__init__" = some (some (.ref I))
  nw : PySem.W.findIn K (.ref C) "what" = some none
  xf : XfC K C

/-! ### errors that keep what they are made with -/
/-- the promise of the base class's __init__: self.what = what -/
def spWhat (K : PySem.W.Frag) : Sp := fun vs H Q _ => ∃ (a C : Addr) (v : V), vs = [.ref a, v] ∧ flatV v = true ∧ H a = some (exo a C none) ∧ OexC K C ∧ PySem.W.findIn K (.ref C) "what" = some none ∧
  ∀ dx, H dx = none → dx ≠ a → Q .non (upd (upd H dx (exd dx [("what", v)])) a (exo a C (some dx)))
theorem raise_what {K : PySem.W.Frag} {C I : Addr} {H : Hp} {v : V} {Q : XK} (F : ExF K C I) (hv : flatV v = true) (k : ∀ d H', Ex H H' → H' d = some (.xd [("what", v)]) → Q (.ref C) (some d) H') :
    ∀ a, H a = none → spWhat K [.ref a, v] (upd H a (exo a C none)) (fun u H2 => u = .non ∧ ∃ (d : Addr) (fs : List (Str × V)), H2 a = some (exo a C (some d)) ∧ H2 d = some (exd d fs) ∧ H d = none ∧ Q (.ref C) (some d) (upd (L2.del H2 a) d (.xd fs))) (fun _ _ _ => False) := by
  intro a ha
  refine ⟨a, C, v, rfl, hv, upd_same, F.ox, F.nw, fun dx hd hne => ⟨rfl, dx, [("what", v)], upd_same, ?_, ?_, ?_⟩⟩
  · rw [upd_ne hne, upd_same]
  · rw [upd_ne hne] at hd
    exact hd
  · have hd0 : H dx = none := by
      rw [upd_ne hne] at hd
      exact hd
    refine k dx _ (fun b o hb => ?_) upd_same
    have b1 : b ≠ a := ne_of_none hb ha
    have b2 : b ≠ dx := ne_of_none hb hd0
    rw [upd_ne b2]
    show (if b = a then none else _) = _
    rw [if_neg b1, upd_ne b1, upd_ne b2, upd_ne b1]
    exact hb
theorem flat_ty {K : PySem.W.Frag} {H : Hp} {v : V} (h : flatV v = true) : ∃ t, TyX K H v t ∧ PySem.W.kitOne K t (.type "list") = some false ∧ PySem.W.kitOne K t (.type "tuple") = some false ∧ PySem.W.kitOne K t (.type "dict") = some false := by
  cases v with
  | non => exact ⟨_, .base .non, kit_ty (r := false) (by decide +kernel), kit_ty (r := false) (by decide +kernel), kit_ty (r := false) (by decide +kernel)⟩
  | bl b => exact ⟨_, .base (.bl b), kit_ty (r := false) (by decide +kernel), kit_ty (r := false) (by decide +kernel), kit_ty (r := false) (by decide +kernel)⟩
  | int i => exact ⟨_, .base (.int i), kit_ty (r := false) (by decide +kernel), kit_ty (r := false) (by decide +kernel), kit_ty (r := false) (by decide +kernel)⟩
  | str z => exact ⟨_, .base (.str z), kit_ty (r := false) (by decide +kernel), kit_ty (r := false) (by decide +kernel), kit_ty (r := false) (by decide +kernel)⟩
  | _ => cases h

/-! ### sequences: a list or a tuple -/
section
variable {K : PySem.W.Frag} {H H' : Hp} {v : V} {xs : List V}
def SeqV (K : PySem.W.Frag) (H : Hp) (v : V) (xs : List V) : Prop := ∃ a, v = .ref a ∧ (H a = some (.lst xs) ∨ H a = some (.tup xs) ∨ (SqT K H a xs ∧ ∃ o, K.lookup a = some o ∧ o.cls = .type "tuple"))
theorem SeqV.mono (e : Ex H H') (h : SeqV K H v xs) : SeqV K H' v xs := by
  obtain ⟨a, rfl, h | h | ⟨h, o⟩⟩ := h
  · exact ⟨a, rfl, .inl (e _ _ h)⟩
  · exact ⟨a, rfl, .inr (.inl (e _ _ h))⟩
  · exact ⟨a, rfl, .inr (.inr ⟨ex_t e h, o⟩)⟩
theorem SeqV.ty (h : SeqV K H v xs) : ∃ t, TyX K H v t ∧ PySem.W.kitAny K t [.type "list", .type "tuple"] = some true := by
  obtain ⟨a, rfl, h | h | ⟨_, o, ho, hc⟩⟩ := h
  · exact ⟨_, .base (.lst h), rfl⟩
  · exact ⟨_, .base (.tup h), rfl⟩
  · exact ⟨_, .kTuple ho hc, rfl⟩
theorem SeqV.two (h : SeqV K H v xs) : ∃ a, v = .ref a ∧ (SqL K H a xs ∨ SqT K H a xs) := by
  obtain ⟨a, rfl, h | h | ⟨h, o⟩⟩ := h
  · exact ⟨a, rfl, .inl (SqL.of h)⟩
  · exact ⟨a, rfl, .inr (SqT.of h)⟩
  · exact ⟨a, rfl, .inr h⟩
def NSeq (H : Hp) (v : V) : Prop := v = .non ∨ (∃ b, v = .bl b) ∨ (∃ i, v = .int i) ∨ (∃ z, v = .str z) ∨ ∃ a kvs, v = .ref a ∧ H a = some (.dK kvs)
theorem NSeq.mono (e : Ex H H') (h : NSeq H v) : NSeq H' v := by
  rcases h with h | h | h | h | ⟨a, kvs, h, h1⟩
  · exact .inl h
  · exact .inr (.inl h)
  · exact .inr (.inr (.inl h))
  · exact .inr (.inr (.inr (.inl h)))
  · exact .inr (.inr (.inr (.inr ⟨a, kvs, h, e _ _ h1⟩)))
theorem NSeq.ty (h : NSeq H v) : ∃ t, TyX K H v t ∧ PySem.W.kitAny K t [.type "list", .type "tuple"] = some false := by
  rcases h with rfl | ⟨b, rfl⟩ | ⟨i, rfl⟩ | ⟨z, rfl⟩ | ⟨a, kvs, rfl, h⟩
  · exact ⟨_, .base .non, rfl⟩
  · exact ⟨_, .base (.bl b), rfl⟩
  · exact ⟨_, .base (.int i), rfl⟩
  · exact ⟨_, .base (.str z), rfl⟩
  · exact ⟨_, .base (.dK h), rfl⟩
theorem for_seq {a : Addr} {tl : TE} {g : TG} {tb : TS} {D : Ends} {σ : L2.St} (htl : ∀ Q : VK, Q (.ref a) H → tl σ H Q) (hx : SqL K H a xs ∨ SqT K H a xs) (Pv : Nat → L2.St → Hp → Prop) (h0 : Pv 0 σ H) (stay : ∀ i σ' H', Pv i σ' H' → Ex H H')
    (hs : ∀ i x σ' H', xs[i]? = some x → Pv i σ' H' → g x σ' H' fun σ2 H2 => tb { D with nx := Pv (i + 1), ct := Pv (i + 1), bk := D.nx } σ2 H2) (hd : ∀ σ' H', Pv xs.length σ' H' → D.nx σ' H') : tFor (iAlt (iList K tl) (iTup K tl)) g tb D σ H := by
  rcases hx with hx | hx
  · exact .inl (htl _ ⟨a, rfl, ⟨_, hx⟩, for_list Pv h0 (fun i σ' H' _ p => ex_l (stay i σ' H' p) hx) hs hd⟩)
  · exact .inr (htl _ ⟨a, rfl, ⟨_, hx⟩, for_tup Pv h0 (fun i σ' H' _ p => ex_t (stay i σ' H' p) hx) hs hd⟩)
end

theorem del_at {H : Hp} {x b : Addr} {o : HO} (h : H b = some o) (n : b ≠ x) : L2.del H x b = some o := by
  show (if b = x then none else H b) = _
  rw [if_neg n]
  exact h
theorem sqT_del {K : PySem.W.Frag} {H : Hp} {x a C dx : Addr} {fs : List (Str × V)} {xs : List V} (hx : H x = some (.ins C dx fs)) (h : SqT K H a xs) : SqT K (L2.del H x) a xs := by
  rcases h with (h | ⟨o, h⟩) | h
  · exact .inl (.inl (del_at h (ne_of h hx (by intro z; cases z))))
  · exact .inl (.inr ⟨o, del_at h (ne_of h hx (by intro z; cases z))⟩)
  · exact .inr h
/-- all but the object at x stands -/
theorem ex_del {H H1 H' : Hp} {x : Addr} (e : Ex H H1) (k : ∀ b o, b ≠ x → H1 b = some o → H' b = some o) : Ex (L2.del H x) H' := fun b o hb => by
  by_cases n : b = x
  · rw [show L2.del H x b = none from if_pos n] at hb
    cases hb
  · rw [show L2.del H x b = H b from if_neg n] at hb
    exact k b o n (e b o hb)

def rLen (K : PySem.W.Frag) : List V → Hp → VK → Prop := fun xs H Q => ∃ p ys, xs = [.ref p] ∧ (SqL K H p ys ∨ SqT K H p ys) ∧ Q (.int ys.length) H
theorem cutV_mem {xs : List V} {lo hi : Option Int} : (∀ x ∈ cutV xs lo hi, x ∈ xs) ∧ (cutV xs lo hi).length ≤ xs.length := by
  unfold cutV
  refine ⟨fun x hx => List.mem_of_mem_drop (List.mem_of_mem_take hx), ?_⟩
  rw [List.length_take, List.length_drop]
  omega

theorem made_in {H : Hp} {x dx C : Addr} (hx : H x = none) (hd : H dx = none) : Ex H (upd (upd H dx (.own x)) x (.ins C dx [])) := fun b o hb => by
  rw [upd_ne (ne_of_none hb hx), upd_ne (ne_of_none hb hd)]
  exact hb
theorem made_ex {H H' : Hp} {x dx C : Addr} (hx : H x = none) (hd : H dx = none) (e : Ex (L2.del (upd (upd H dx (.own x)) x (.ins C dx [])) x) H') : Ex H H' := fun b o hb =>
  e b o (del_at (made_in hx hd b o hb) (ne_of_none hb hx))
theorem sqT_ty {K : PySem.W.Frag} {H : Hp} {t : Addr} {xs : List V} (h : SqT K H t xs) : TyX K H (.ref t) (.type "tuple") := by
  rcases h with (h | ⟨o, h⟩) | ⟨o, its, n, ho, hc, _⟩
  · exact .base (.tup h)
  · exact .fTuple h
  · exact .kTuple ho hc

theorem SeqV.isl {K : PySem.W.Frag} {H : Hp} {v : V} {xs : List V} (h : SeqV K H v xs) : (∃ a, v = .ref a ∧ H a = some (.lst xs) ∧ TyX K H v (.type "list")) ∨ (∃ a, v = .ref a ∧ SqT K H a xs ∧ TyX K H v (.type "tuple")) := by
  obtain ⟨a, rfl, h | h | ⟨h, o, ho, hc⟩⟩ := h
  · exact .inl ⟨a, rfl, h, .base (.lst h)⟩
  · exact .inr ⟨a, rfl, SqT.of h, .base (.tup h)⟩
  · exact .inr ⟨a, rfl, h, .kTuple ho hc⟩

theorem cut_one (xs : List V) : cutV xs (some 1) none = xs.drop 1 := by
  unfold cutV
  rw [show HT.sIx xs.length 0 (some 1) = min 1 xs.length from HT.sIx_nat xs.length 0 1, HT.sIx_none]
  cases xs with
  | nil => rfl
  | cons x r =>
    rw [show min 1 (x :: r).length = 1 by rw [List.length_cons]; omega]
    exact List.take_of_length_le (by rw [List.length_drop]; omega)

section
variable {K : PySem.W.Frag} {C D : Addr} {T : String} {b : Bool}
theorem cls_some (h : PySem.W.hasDictIn K C = true) : (PySem.W.clsIn K C).isSome = true := by
  obtain ⟨cd, hc, _⟩ := PySem.W.any_some h
  rw [hc]
  rfl
theorem kit_own : PySem.W.kitOne K (.ref C) (.ref C) = some true := by
  unfold PySem.W.kitOne
  rw [if_pos (beq_self_eq_true _)]
theorem both_cls (h1 : PySem.W.hasDictIn K C = true) (h2 : PySem.W.typeIn K (.ref C) = some (.type "type")) : ((PySem.W.clsIn K C).isSome && PySem.W.typeIn K (.ref C) == some (.type "type")) = true := by
  rw [cls_some h1, h2] <;> rfl
theorem kit_type_ref (h1 : PySem.W.hasDictIn K C = true) (h2 : PySem.W.typeIn K (.ref C) = some (.type "type")) (h3 : PySem.W.subIn K (.type T) (.ref C) = some b) : PySem.W.kitOne K (.type T) (.ref C) = some b := by
  unfold PySem.W.kitOne
  rw [if_neg (by intro z; cases (beq_iff_eq.mp z))]
  exact (show PySem.W.kitCls K (.type T) (.ref C) = PySem.W.subIn K (.type T) (.ref C) from if_pos (both_cls h1 h2)).trans h3
theorem kit_ref_type (hm : PySem.W.kitMeta T = true) (h : PySem.W.subIn K (.ref D) (.type T) = some b) : PySem.W.kitOne K (.ref D) (.type T) = some b := by
  unfold PySem.W.kitOne
  rw [if_neg (by intro z; cases (beq_iff_eq.mp z))]
  exact (show PySem.W.kitCls K (.ref D) (.type T) = PySem.W.subIn K (.ref D) (.type T) from if_pos hm).trans h
theorem kit_ref_ref (ne : D ≠ C) (h1 : PySem.W.hasDictIn K C = true) (h2 : PySem.W.typeIn K (.ref C) = some (.type "type")) (h3 : PySem.W.subIn K (.ref D) (.ref C) = some b) : PySem.W.kitOne K (.ref D) (.ref C) = some b := by
  unfold PySem.W.kitOne
  rw [if_neg (by intro z; exact ne (Value.ref.inj (beq_iff_eq.mp z)))]
  exact (show PySem.W.kitCls K (.ref D) (.ref C) = PySem.W.subIn K (.ref D) (.ref C) from if_pos (both_cls h1 h2)).trans h3
theorem exm_cls (h0 : PySem.W.subIn K (.ref C) (.type "BaseException") = some true) (h1 : PySem.W.hasDictIn K C = true) (h2 : PySem.W.typeIn K (.ref C) = some (.type "type")) (h3 : PySem.W.subIn K (.ref D) (.ref C) = some b) : PySem.W.exmOne K (.ref D) (.ref C) = some b := by
  have e1 : (PySem.W.subIn K (.ref C) (.type "BaseException") == some true) = true := by rw [h0] <;> rfl
  show (if (PySem.W.subIn K (.ref C) (.type "BaseException") == some true) = true then (if ((PySem.W.clsIn K C).isSome && PySem.W.typeIn K (.ref C) == some (.type "type")) = true then PySem.W.subIn K (.ref D) (.ref C) else none) else none) = some b
  rw [if_pos e1, if_pos (both_cls h1 h2)]
  exact h3
end

theorem cut_from (xs : List V) (k : Nat) : cutV xs (some (k : Int)) none = xs.drop k := by
  unfold cutV
  rw [HT.sIx_nat, HT.sIx_none]
  by_cases h : k ≤ xs.length
  · rw [Nat.min_eq_left h]
    exact List.take_of_length_le (by rw [List.length_drop]; omega)
  · rw [Nat.min_eq_right (by omega), List.drop_length, List.drop_eq_nil_of_le (by omega), List.take_nil]
end UL

set_option Elab.async false
set_option linter.all false
set_option maxRecDepth 100000
/-! own: a static method called off its class -/
namespace UL
open PySem PySem.Spec PyProof.Rows L2 Evl TL

/-- C.m is a staticmethod: its record at p, its def at g -/
structure SMet (K : PySem.W.Frag) (C : Addr) (mc : Value) (m : Str) (p g : Addr) : Prop where
  rd : PySem.W.readsIn K C mc = true
  ga : PySem.W.specialIn K (.ref C) "__getattribute__" = some (some (.builtin "type.__getattribute__"))
  fc : PySem.W.findCls K (.ref C) mc m = some (.get (.builtin "staticmethod.__get__") (.ref p) .none (.ref C))
  rc : ∃ rest, PySem.W.recIn K p "staticmethod" = some (.ref g :: rest)
  kg : PySem.W.keepIn K (.ref g) = true
def tSm (C : Addr) (sp : Sp) (E : L2.St → XK) (ta : TE) (t : TA) : TE := fun σ H Q => ta σ H fun x H1 => x = .ref C ∧ t σ H1 fun vs H2 => sp vs H2 Q (E σ)
section
variable {X : Cx} {CX : CXT} {k : Nat} {C p g : Addr} {mc : Value} {fd : FuncData} {ps : List Str} {sp : Sp} {E : L2.St → XK} {o e : Expr} {es : List Expr} {m : Str} {pos apos : Pos} {ta : TE} {t : TA} {pl : Sem Bool}
theorem pe_smS (he : PE X o ta) (c : SMet X.K C mc m p g) (F : FnOk X.prog X.w X.K X.mg X.base CX k g fd ps sp) (hr : Room k X.A) (hb : L2.Binds X.K fd ps []) (hx : ∀ σ, PassesAt CX X σ (E σ)) (ha : PA X (e :: es) t)
    (h1 : starEach (e :: es) X.env = (false, eval e X.env) :: starEach es X.env := by rfl) (h2 : (backTo pos (starEach es X.env)).any (·.1) = false := by rfl)
    (h3 : eval (.Call (.Attribute o m apos) (e :: es) [] pos) X.env = (do
      let who ← eval o X.env
      standAt apos.atName
      let (fn, fst) ← holding [who] (getMethod who m pl)
      callWith pos fn fst (backTo pos (starEach (e :: es) X.env)) (backToKw pos (keywordEach [] X.env))) := by rfl) :
    PE X (.Call (.Attribute o m apos) (e :: es) [] pos) (tSm C sp E ta t) := by
  refine ⟨fun pins s σ H Q I h => PySem.W.methodCall_KW (pl := pl) (thn (he.run pins s σ H _ I h) fun u s1 hh => ?_) h3⟩
  obtain ⟨x, H1, I1, rx, rfl, q⟩ := hh
  obtain rfl : u = Value.ref C := rx
  obtain ⟨rest, hrc⟩ := c.rc
  refine PySem.W.method_cls I1.kIn c.ga (PySem.W.cls_bind I1.kIn c.rd c.fc (wpAny_call (PySem.W.sm_get (s := { s1 with toks := s1.toks + 1 }) I1.kIn hrc (PySem.W.handed_on rfl ?_))))
  have I2 : Inv X pins σ H1 { s1 with toks := s1.toks + 1 } := I1.tok _
  refine PySem.W.callWith_K (h₀ := X.base) I1.ok.mod.kin c.kg (thn (ha.run pos pins _ σ H1 _ I2 q) fun us s3 hh => ?_) h1 h2
  obtain ⟨vs, H2, I3, rv, q2⟩ := hh
  exact ⟨I3.kIn, run_fnS F hr hb (hx σ) I3 rv q2⟩
end

/-- [f x for x in a sequence]: any walk over fixed items, an element each, nothing else changed -/
theorem lc_map {K : PySem.W.Frag} {J : It} {xs : List V} {G : Hp → Prop} {f : V → V} {j : Nat} {te : TE} {vs : List Nat} {σ : L2.St} {H1 : Hp} {D : Addr} {Qd : Hp → Prop} (w : L2.Walk J xs.length G (YAt xs)) (hz : xs.length ≤ 100000) (hD : H1 D = none)
    (hG : ∀ H', Ex H1 H' → G H') (hw : ∀ x, wipe ((wipe σ vs).set j (some x)) vs = wipe σ vs) (he : ∀ x H', x ∈ xs → Ex H1 H' → ∀ Q : VK, Q (f x) H' → te ((wipe σ vs).set j (some x)) H' Q) (hd : Qd (upd H1 D (.lst (xs.map f)))) :
    ∃ W : Nat → Nat → Hp → Prop, (∃ m, W 0 m (upd H1 D (.lst []))) ∧ ∀ i m H, W i m H →
      (J.stop i H ∧ Qd H) ∨ (J.go i H ∧ ∃ Nx : Hp → Prop, (∀ H', Nx H' → ∃ m', m' < m ∧ W (i + 1) m' H') ∧ ∀ x H', J.yld i H x H' → gName j x (wipe σ vs) H' fun σ2 H2 => wipe σ2 vs = wipe σ vs ∧ tYes σ2 H2 fun b H3 =>
        if b = true then te σ2 H3 fun y H4 => ∃ acc, H4 D = some (.lst acc) ∧ acc.length < sizeLine ∧ Nx (upd H4 D (.lst (acc ++ [y]))) else Nx H3) := by
  refine lc_it w (fun i H' => H' = upd H1 D (.lst ((xs.take i).map f))) rfl (fun i H' _ h => by rw [h]; exact hG _ (Ex.new hD)) ?_ ?_
  · rintro i x H H' hi rfl ⟨rfl, hx⟩
    refine ⟨hw _, ?_⟩
    show te _ _ _
    refine he x _ (List.mem_of_getElem? hx) (Ex.new hD) _ ⟨_, upd_same, ?_, ?_⟩
    · rw [List.length_map, List.length_take]
      exact sz_lt (by omega)
    · rw [upd_upd, List.take_add_one, hx, List.map_append]
      rfl
  · rintro H rfl
    rw [List.take_length]
    exact hd
/-- [f x for x in a sequence if p x] -/
theorem lc_filter {K : PySem.W.Frag} {J : It} {xs : List V} {G : Hp → Prop} {p : V → Bool} {f : V → V} {j : Nat} {tt : TT} {te : TE} {vs : List Nat} {σ : L2.St} {H1 : Hp} {D : Addr} {Qd : Hp → Prop} (w : L2.Walk J xs.length G (YAt xs)) (hz : xs.length ≤ 100000) (hD : H1 D = none)
    (hG : ∀ H', Ex H1 H' → G H') (hw : ∀ x, wipe ((wipe σ vs).set j (some x)) vs = wipe σ vs) (ht : ∀ x H', x ∈ xs → Ex H1 H' → ∀ Q : Bool → Hp → Prop, Q (p x) H' → tt ((wipe σ vs).set j (some x)) H' Q)
    (he : ∀ x H', x ∈ xs → p x = true → Ex H1 H' → ∀ Q : VK, Q (f x) H' → te ((wipe σ vs).set j (some x)) H' Q) (hd : Qd (upd H1 D (.lst ((xs.filter p).map f)))) :
    ∃ W : Nat → Nat → Hp → Prop, (∃ m, W 0 m (upd H1 D (.lst []))) ∧ ∀ i m H, W i m H →
      (J.stop i H ∧ Qd H) ∨ (J.go i H ∧ ∃ Nx : Hp → Prop, (∀ H', Nx H' → ∃ m', m' < m ∧ W (i + 1) m' H') ∧ ∀ x H', J.yld i H x H' → gName j x (wipe σ vs) H' fun σ2 H2 => wipe σ2 vs = wipe σ vs ∧ tt σ2 H2 fun b H3 =>
        if b = true then te σ2 H3 fun y H4 => ∃ acc, H4 D = some (.lst acc) ∧ acc.length < sizeLine ∧ Nx (upd H4 D (.lst (acc ++ [y]))) else Nx H3) := by
  refine lc_it w (fun i H' => H' = upd H1 D (.lst (((xs.take i).filter p).map f))) rfl (fun i H' _ h => by rw [h]; exact hG _ (Ex.new hD)) ?_ ?_
  · rintro i x H H' hi rfl ⟨rfl, hx⟩
    refine ⟨hw _, ?_⟩
    refine ht x _ (List.mem_of_getElem? hx) (Ex.new hD) _ ?_
    have e1 : (xs.take (i + 1)).filter p = (xs.take i).filter p ++ [x].filter p := by
      rw [List.take_add_one, hx, List.filter_append]
      rfl
    cases hp : p x with
    | true =>
      refine iteT (he x _ (List.mem_of_getElem? hx) hp (Ex.new hD) _ ⟨_, upd_same, ?_, ?_⟩)
      · rw [List.length_map]
        refine sz_lt (Nat.lt_of_le_of_lt (List.length_filter_le _ _) ?_)
        rw [List.length_take]
        omega
      · rw [upd_upd, e1, List.map_append]
        simp [hp]
    | false =>
      refine iteF ?_
      rw [e1]
      simp [hp]
  · rintro H rfl
    rw [List.take_length]
    exact hd
end UL

set_option Elab.async false
set_option linter.all false
set_option maxRecDepth 100000
/-! own module: `in`, an index and len of an object of an own class -/
namespace UL
open PySem PySem.Spec PyProof.Rows L2 Evl TL
section
variable {X : Cx} {CX : CXT} {k : Nat} {f C : Addr} {fd : FuncData} {ps : List Str} {sp : Sp} {E : XK}
/-- x in y, y of an own class; the answer is a truth -/
def rOwnIn (C : Addr) (neg : Bool) (sp : Sp) (E : XK) : R2 := fun x y H Q => ∃ a dx fs, y = .ref a ∧ H a = some (.ins C dx fs) ∧ sp [.ref a, x] H (fun v H' => ∃ b, v = .bl b ∧ Q (.bl (if neg then !b else b)) H') E
theorem op_ownIn (F : FnOk X.prog X.w X.K X.mg X.base CX k f fd ps sp) (hr : Room k X.A) (hs : PySem.W.findIn X.K (.ref C) "__contains__" = some (some (.ref f))) (hf : PySem.W.isFn X.K (.ref f) = true) (hb : L2.Binds X.K fd ps []) (hx : Passes CX X E) :
    OpR X (compareOp .In) (rOwnIn C false sp E) := by
  intro pins s σ H x y v u Q I rx ry h
  obtain ⟨a, dx, fs, rfl, ha, q⟩ := h
  cases ry
  obtain ⟨mA, J, _⟩ := ins_get I.hok ha
  obtain ⟨od, J, _⟩ := J.look
  obtain ⟨m, hF⟩ := I.fr
  refine PySem.W.in_K hF I.ok.mod.kin J hs hf ?_
  have r2 : Vals [V.ref a, x] [Value.ref a, v] := .cons rfl (.cons rx .nil)
  have hl : [Value.ref a, v].length = ps.length := by rw [← r2.length]; exact F.len _ _ _ _ q
  have bd := hb s [Value.ref a, v] I.kIn (by rw [List.append_nil]; exact hl)
  rw [List.append_nil] at bd
  refine wpAny_call (codeAny_mono (F.run X.A X.stack s H ⟨[.ref a, v], []⟩ [.ref a, v] [.ref a, x] _ E hr I.env0 bd r2 q) fun rr s' z => ?_)
  match rr, z with
  | .error er, z => exact hx pins σ H s er s' I z
  | .ok (.ret w), z =>
    obtain ⟨v, H', I', rv, b, rfl, q'⟩ := I.after z
    cases rv
    exact wpAny_pure ⟨V.bl b, H', I', rfl, q'⟩
  | .ok .next, z => exact False.elim z
  | .ok .brk, z => exact False.elim z
  | .ok .cont, z => exact False.elim z
theorem op_ownNotIn (F : FnOk X.prog X.w X.K X.mg X.base CX k f fd ps sp) (hr : Room k X.A) (hs : PySem.W.findIn X.K (.ref C) "__contains__" = some (some (.ref f))) (hf : PySem.W.isFn X.K (.ref f) = true) (hb : L2.Binds X.K fd ps []) (hx : Passes CX X E) :
    OpR X (compareOp .NotIn) (rOwnIn C true sp E) := by
  intro pins s σ H x y v u Q I rx ry h
  obtain ⟨a, dx, fs, rfl, ha, q⟩ := h
  cases ry
  obtain ⟨mA, J, _⟩ := ins_get I.hok ha
  obtain ⟨od, J, _⟩ := J.look
  obtain ⟨m, hF⟩ := I.fr
  refine PySem.W.notIn_K hF I.ok.mod.kin J hs hf ?_
  have r2 : Vals [V.ref a, x] [Value.ref a, v] := .cons rfl (.cons rx .nil)
  have hl : [Value.ref a, v].length = ps.length := by rw [← r2.length]; exact F.len _ _ _ _ q
  have bd := hb s [Value.ref a, v] I.kIn (by rw [List.append_nil]; exact hl)
  rw [List.append_nil] at bd
  refine wpAny_call (codeAny_mono (F.run X.A X.stack s H ⟨[.ref a, v], []⟩ [.ref a, v] [.ref a, x] _ E hr I.env0 bd r2 q) fun rr s' z => ?_)
  match rr, z with
  | .error er, z => exact hx pins σ H s er s' I z
  | .ok (.ret w), z =>
    obtain ⟨v, H', I', rv, b, rfl, q'⟩ := I.after z
    cases rv
    exact wpAny_pure ⟨V.bl (!b), H', I', rfl, q'⟩
  | .ok .next, z => exact False.elim z
  | .ok .brk, z => exact False.elim z
  | .ok .cont, z => exact False.elim z
/-- a[b], a of an own class -/
def rOwnIx (C : Addr) (sp : Sp) (E : XK) : R2 := fun x y H Q => ∃ a dx fs, x = .ref a ∧ H a = some (.ins C dx fs) ∧ sp [.ref a, y] H Q E
theorem pe_ixOwn {a b : Expr} {ta tb : TE} {pos : Pos} (F : FnOk X.prog X.w X.K X.mg X.base CX k f fd ps sp) (hr : Room (k + 1) X.A) (hs : PySem.W.findIn X.K (.ref C) "__getitem__" = some (some (.ref f))) (hi : PySem.W.fnIn X.K f = true) (hf : PySem.W.isFn X.K (.ref f) = true) (hb0 : L2.Binds X.K fd ps []) (hx : Passes CX X E)
    (ha : PE X a ta) (hb : PE X b tb) (hsl : ∀ x i, subscripted b true (.ref x) i = runValue (.builtin "lifetime.subscript" ⟨[.ref x, i], []⟩) := by intros; with_unfolding_all rfl) : PE X (.Subscript a b pos) (tOp (rOwnIx C sp E) ta tb) := by
  refine ⟨fun pins s0 σ H0 Q I h => ?_⟩
  refine Subscript_ (binT ha hb I h fun v u s x y H I rx ry q => ?_)
  obtain ⟨p, dx, fs, rfl, hp, q⟩ := q
  cases rx
  obtain ⟨mA, J, _⟩ := ins_get I.hok hp
  obtain ⟨od, J, _⟩ := J.look
  obtain ⟨m, hF⟩ := I.fr
  refine PySem.W.sub_K hF I.ok.mod.kin J hs hi hf ?_ (hsl _ _)
  have r2 : Vals [V.ref p, y] [Value.ref p, u] := .cons rfl (.cons ry .nil)
  have hl : [Value.ref p, u].length = ps.length := by rw [← r2.length]; exact F.len _ _ _ _ q
  have bd := hb0 s [Value.ref p, u] I.kIn (by rw [List.append_nil]; exact hl)
  rw [List.append_nil] at bd
  refine wpAny_call (codeAny_mono (F.run X.A.in1 X.stack s H ⟨[.ref p, u], []⟩ [.ref p, u] [.ref p, y] Q E hr.in1 I.env0.in1 bd r2 q) fun rr s' z => ?_)
  match rr, z with
  | .error er, z => exact hx pins σ H s er s' I z
  | .ok (.ret w), z => exact I.after z
  | .ok .next, z => exact False.elim z
  | .ok .brk, z => exact False.elim z
  | .ok .cont, z => exact False.elim z
/-- len of an object of an own class -/
theorem call_lenOwn (F : FnOk X.prog X.w X.K X.mg X.base CX k f fd ps sp) (hr : Room (k + 1) X.A) (hs : PySem.W.findIn X.K (.ref C) "__len__" = some (some (.ref f))) (hf : PySem.W.isFn X.K (.ref f) = true) (hb : L2.Binds X.K fd ps []) (hx : Passes CX X E) :
    CallR X (.builtin "len") (fun xs H Q => ∃ a dx fs, xs = [.ref a] ∧ H a = some (.ins C dx fs) ∧ sp [.ref a] H (fun v H' => ∃ n : Int, v = .int n ∧ 0 ≤ n ∧ n < 2 ^ 63 ∧ Q (.int n) H') E) := by
  intro pins s σ H xs us Q I r h
  obtain ⟨a, dx, fs, rfl, ha, q⟩ := h
  obtain ⟨u, rfl, ru⟩ := vals1 r
  obtain rfl : u = Value.ref a := ru
  obtain ⟨mA, J, _⟩ := ins_get I.hok ha
  obtain ⟨od, J, _⟩ := J.look
  obtain ⟨m, hF⟩ := I.fr
  refine PySem.W.len_K hF I.ok.mod.kin J hs hf ?_
  have r2 : Vals [V.ref a] [Value.ref a] := .cons rfl .nil
  have hl : [Value.ref a].length = ps.length := by rw [← r2.length]; exact F.len _ _ _ _ q
  have bd := hb s [Value.ref a] I.kIn (by rw [List.append_nil]; exact hl)
  rw [List.append_nil] at bd
  refine wpAny_call (codeAny_mono (F.run X.A.in1 X.stack s H ⟨[.ref a], []⟩ [.ref a] [.ref a] _ E hr.in1 I.env0.in1 bd r2 q) fun rr s' z => ?_)
  match rr, z with
  | .error er, z => exact hx pins σ H s er s' I z
  | .ok (.ret w), z =>
    obtain ⟨v, H', I', rv, n, rfl, n0, n1, q'⟩ := I.after z
    obtain ⟨t, rfl⟩ := rv
    exact ⟨⟨n0, n1⟩, V.int n, H', I'.tok _, ⟨_, rfl⟩, q'⟩
  | .ok .next, z => exact False.elim z
  | .ok .brk, z => exact False.elim z
  | .ok .cont, z => exact False.elim z
end
end UL

set_option Elab.async false
set_option linter.all false
set_option maxRecDepth 100000
/-! own: a try with several clauses, each 'except C as n' with the same n -/
namespace UL
open PySem PySem.Spec PyProof.Rows L2 Evl TL

/-- the clauses, and what they wish together of an error of the body -/
inductive AsOk (X : Cx) (i : Nat) (n : Str) : List ExceptHandler → (WX → Ends → WX) → Prop
  | nil : AsOk X i n [] (fun W _ => W)
  | cons {y : Str} {k : Value} {su : Addr → Value → Option Addr → TS} {st : Stmt} {sts : List Stmt} {q q' : Pos} {rest : List ExceptHandler} {f : WX → Ends → WX} (cn : Names X y k)
      (run : ∀ (a : Addr) (ob : Obj) (cls : Value) (d : Option Addr) (ps : List (Addr × Obj)), Zc cls d ob → (∃ z, ob.data = .fields z) → PSs (X.suite a ((a, ob) :: ps)) (st :: sts) (su a cls d)) (tl : AsOk X i n rest f) :
      AsOk X i n (.ExceptHandler (some (.Name y q)) (some n) (st :: sts) q' :: rest) (fun W D => wAs X.K k i su (f W D) D)
section
variable {X : Cx} {n : Str} {i : Nat} {body : List Stmt} {c0 : ExceptHandler} {cs : List ExceptHandler} {f : WX → Ends → WX} {tb : WX → TS} {W0 : WX} {pos : Pos}
theorem ps_try_asMany (e1 : X.stack = X.env :: X.outer) (e2 : X.env.frame = some X.env.locals) (nd : X.N.Nodup) (at_ : X.N[i]? = some n) (lo : X.env.kindOf n = some .local) (tk : Takes X W0)
    (hb : ∀ (W : WX) (pn : List (Addr × Obj)) (xe : Value → Shared → Prop), Takes (X.tr pn xe) W → PassesOwn (model X.prog X.w) X.A X.env xe → PSs (X.tr pn xe) body (tb W)) (hc : AsOk X i n (c0 :: cs) f) :
    PS X (.Try body (c0 :: cs) [] [] pos) (fun D σ H => tb (f W0 D) D σ H) := by
  refine ⟨fun pins s σ H D I h => wpAny_Try_except ?_⟩
  have ok := I.ok
  have fr : X.A.frames = some (X.env :: X.outer) := ok.frames.trans (by rw [e1])
  refine wpAny_mono ((hb (f W0 D) (X.pn ++ pins) (fun e s₁ => wpAny (model X.prog X.w) X.A (noteFrame e X.env) (fun _ s₂ => wpAny (model X.prog X.w) X.A (setFlight e none) (fun _ s₃ =>
    wpAny (model X.prog X.w) X.A (handleBy e X.env (c0 :: cs)) (SP X pins D) X.xe s₃) X.xe s₂) X.xe s₁) (fun u t xx => ?_) PassesOwn.looking).run [] s σ H D (I.toTry _) h) (fun fl s1 q => ?_) (fun _ _ z => z)
  · obtain ⟨a, B, t0, pins1, σ1, H1, cls, d, rfl, J1, nb, up, sky, na, os, ag, wish⟩ := xx
    have J := J1.ofTry (pins := pins) ok
    show wpAny _ X.A (noteFrame (.ref a) X.env) _ _ _
    refine Sky.land Zc.steady fr e2 (by rw [← e1]; exact sky) fun h3 fl3 up3 => ?_
    have J3 := J.landed (s' := { t with heap := h3 }) nb fl3.1 (up.trans up3) os ag
    obtain ⟨o3, z3, g3, k3, d3⟩ := fl3.there
    have nfr : a ∉ frs (X.env :: X.outer) := fun hm => by
      obtain ⟨_, o4, g4, nf⟩ := fl3.2.2.1.mem hm
      rw [g3] at g4
      cases g4
      exact nf _ d3
    have nL : a ≠ X.env.locals := fun z => nfr (List.mem_filterMap.mpr ⟨X.env, List.mem_cons_self, by rw [e2, z]⟩)
    have nF : a ∉ X.fs := fun hm => by
      obtain ⟨v, hv, q⟩ := List.mem_filterMap.mp hm
      exact nfr (List.mem_filterMap.mpr ⟨v, List.mem_cons_of_mem _ hv, q⟩)
    have S3 := J3.suite g3 d3 na nL nF
    have down : ∀ {l : List ExceptHandler} {g : WX → Ends → WX}, AsOk X i n l g → g W0 D cls d σ1 H1 → wpAny (model X.prog X.w) X.A (handleBy (.ref a) X.env l) (SP X pins D) X.xe { t with heap := h3 } := by
      intro l g hl
      induction hl with
      | nil =>
        intro w
        refine wpAny_handleBy_nil ?_
        obtain ⟨_, _, _, _, _, T, _, _, gz, _, dz, slot, _⟩ := id fl3
        unfold PySem.passOn
        refine wpAny_bind (wpAny_field gz dz slot ?_)
        rw [if_neg (by simp)]
        have go : wpAny (model X.prog X.w) X.A (setFlight (.ref a) X.env.frame) (fun _ t4 => wpAny (model X.prog X.w) X.A (throw (.ref a) : Sem Flow) (SP X pins D) X.xe t4) X.xe { t with heap := h3 } := by
          rw [e2]
          exact HandSPX.setFlight_upZ fl3 fun h4 hh4 up4 => wpAny_throw (tk _ _ ⟨a, B, t0, pins, σ1, H1, cls, d, rfl, J, nb, (up.trans up3).trans up4, .inr (.inr (by rw [e1]; exact hh4)), na, os, ag, w⟩)
        first
          | exact wpAny_bind go
          | exact wpAny_bind (wpAny_pure (wpAny_bind go))
      | @cons y k su st sts q q' rest g cn run tl ih =>
        rintro ⟨b, hb1, yes, no⟩
        refine wpAny_handleBy_cons (codeAny_handlers_test ?_) (fun z => nomatch z)
        have ty : PySem.W.Looks (model X.prog X.w) h3 (typeOf (.ref a)) cls := fun A Q E s k q => wpAny_typeOf_ref (k _ _ g3) (by rw [k3.1]; exact q)
        have look := PySem.W.exm_one (M := model X.prog X.w) J3.kIn ty hb1
        have seen : ∀ {Q : Value → Shared → Prop} {E : Value → Shared → Prop}, Q k { t with heap := h3 } → wpAny (model X.prog X.w) (X.A.mark (some (.ref a))) (eval (.Name y q) X.env) Q E { t with heap := h3 } := fun {Q E} p => by
          obtain ⟨c1, c2, c3 | ⟨c3, c4, c5⟩⟩ := cn
          · exact ld_glob (X := X.suite a ((a, o3) :: (X.pn ++ pins))) S3 c1 c3 p c2
          · exact ld_blt (X := X.suite a ((a, o3) :: (X.pn ++ pins))) S3 c1 c3 c4 p c5 c2
        refine seen (look.here ?_)
        cases b with
        | false => exact ih (no rfl)
        | true =>
          refine codeAny_handlers_suite_as (HandSPX.lands_againZ fl3 fun h4 fl4 up4 => ?_)
          have J4 := J.landed (s' := { t with heap := h4 }) nb fl4.1 ((up.trans up3).trans up4) os ag
          obtain ⟨o4, z4, g4, k4, d4⟩ := fl4.there
          refine store_ok (X := X.suite a ((a, o4) :: (X.pn ++ pins))) (v := .ref a) (J4.suite g4 d4 na nL nF) nd at_ (.inl lo) rfl (fun t5 S5 => ?_) (.inr lo)
          refine wpAny_mono ((run a o4 cls d (X.pn ++ pins) k4 ⟨_, d4⟩).run [] t5 _ H1 _ S5 (yes rfl a na)) (fun fl t6 r => ?_) (fun _ _ z => z.elim)
          have fin : ∀ {σ6 : L2.St} {H6 : Hp} {Q : Shared → Prop}, Inv (X.suite a ((a, o4) :: (X.pn ++ pins))) [] σ6 H6 t6 → (∀ t7, Inv X pins (σ6.set i none) H6 t7 → Q t7) →
              wpAny (model X.prog X.w) X.A (do bindName X.env n .none; unbindBehindTheSuite X.env n q') (fun _ t7 => Q t7) X.xe t6 := fun {σ6 H6 Q} S6 p => gone_ok (S6.unsuite ok) nd at_ lo p
          cases fl with
          | ret u =>
            obtain ⟨v, σ6, H6, S6, rv, p⟩ := r
            exact fin S6 fun t7 J7 => ⟨v, _, _, J7, rv, p⟩
          | next =>
            obtain ⟨σ6, H6, S6, p⟩ := r
            exact fin S6 fun t7 J7 => ⟨_, _, J7, p⟩
          | brk =>
            obtain ⟨σ6, H6, S6, p⟩ := r
            exact fin S6 fun t7 J7 => ⟨_, _, J7, p⟩
          | cont =>
            obtain ⟨σ6, H6, S6, p⟩ := r
            exact fin S6 fun t7 J7 => ⟨_, _, J7, p⟩
    exact down hc wish
  · cases fl with
    | ret u =>
      obtain ⟨v, σ1, H1, J, rv, p⟩ := q
      exact ⟨v, _, _, J.ofTry ok, rv, p⟩
    | next =>
      obtain ⟨σ1, H1, J, p⟩ := q
      exact wpAny_execs_nil ⟨_, _, J.ofTry ok, p⟩
    | brk =>
      obtain ⟨σ1, H1, J, p⟩ := q
      exact ⟨_, _, J.ofTry ok, p⟩
    | cont =>
      obtain ⟨σ1, H1, J, p⟩ := q
      exact ⟨_, _, J.ofTry ok, p⟩
end
end UL

set_option Elab.async false
set_option linter.all false
set_option maxRecDepth 100000
/-! own: defs with a star, C() of such a class, an index in a try, iter of a tuple, list of an object whose __iter__ hands out such an iterator and that has a length -/
namespace UL
open PySem PySem.Spec PyProof.Rows L2 Evl TL

/-! ### a def with one parameter and a star -/
section
variable {P : Program} {w : World} {K : PySem.W.Frag} {mg : Str → Option Value} {base : Heap} {x qual : Str} {st : Stmt} {f : Addr} {fd : FuncData} {N : List Str} {a b : Str} {k : Nat} {sp : Sp}
/-- what the caller promises, from what the body wants -/
def spStar (sp : Sp) : Sp := fun vs H Q E => ∃ v rest, vs = v :: rest ∧ rest.length ≤ 1000 ∧ ∀ p, H p = none → sp [v, .ref p] (upd H p (.tup rest)) Q E
theorem starFn (F : L2.Fun K x qual st f fd) (S : FnScope N [a, b] (defScope st))
    (h0 : ∀ (kV doc pm : Value) (an : Option Addr) (cdv ct : Value) (v : Value), bindArgs (PySem.W.fnOf x qual (defArgs st) (defBody st) (defScope st) .none kV doc pm an cdv ct) ⟨[v], []⟩ = (newTuple [] >>= fun t => pure [(a, v), (b, t)]))
    (h1 : ∀ (kV doc pm : Value) (an : Option Addr) (cdv ct : Value) (v r : Value) (rs : List Value), bindArgs (PySem.W.fnOf x qual (defArgs st) (defBody st) (defScope st) .none kV doc pm an cdv ct) ⟨v :: r :: rs, []⟩ = (newTuple (r :: rs) >>= fun t => pure [(a, v), (b, t)]))
    (body : ∀ (cdv : Value) (A : Around) (outer : List Env) (s : Shared) (H : Hp) (vs : List V) (Q : VK) (E : XK), Room k (A.deeper (envOfC qual (defScope st) s.heap.objs.size f cdv)) → sp vs H Q E →
      ∃ t, PSs (cxOf (L2.CX P w) P w K mg base N qual (defScope st) f cdv A outer s H E) (defBody st) t ∧ t { nx := fun _ H' => Q .non H', rt := Q } (start N vs) H) : FnR P w K mg base (L2.CX P w) (k + 1) f (spStar sp) := by
  obtain ⟨oc, od, kV, doc, pm, an, cdv, ct, osl, rfl, lk, code⟩ := F.ex
  have R := StX.fn_star (ps := [a]) (pv := b) lk code S StX.cxUp (fun us rest hl => StX.bind_star1 (B := fun zs => bindArgs (PySem.W.fnOf x qual (defArgs st) (defBody st) (defScope st) .none kV doc pm an cdv ct) ⟨zs, []⟩) (h0 kV doc pm an cdv ct) (h1 kV doc pm an cdv ct) us rest hl) fun A outer s H vs Q E hr h => body cdv A outer s H vs Q E hr h
  refine R.imp fun vs H Q E h => ?_
  obtain ⟨v, rest, rfl, hz, q⟩ := h
  exact ⟨[v], rest, rfl, rfl, Nat.le_trans hz (by decide), q⟩
end
section
variable {X : Cx} {CX : CXT} {k : Nat} {f C : Addr} {sp : Sp} {E : XK} {x : Str} {p pos : Pos}
/-- C() -/
theorem pe_makeR0 (M : Mk X.K C f) (F : FnR X.prog X.w X.K X.mg X.base CX k f sp) (room : Room (k + 1) X.A) (g1 : Gl X x) (g2 : X.mg x = some (.ref C)) (out : Passes CX X E) (g3 : (x == ("__debug__" : Str)) = false := by decide) :
    PE X (.Call (.Name x p) [] [] pos) (StX.tMakeR C sp E tNil) :=
  ⟨fun pins s σ H Q I h => wpAny_Call_Name_kw (ld_glob I g1 g2 (PySem.W.callWith_K0 I.kIn M.kp (StX.run_makeR M F room out I .nil h)) g3)⟩
end

/-! ### a[b] of an own class where what is raised is wished for at the slots -/
def tIxOwnS (C : Addr) (sp : Sp) (E : L2.St → XK) (ta tb : TE) : TE := fun σ H Q => ta σ H fun x H1 => tb σ H1 fun y H2 => rOwnIx C sp (E σ) x y H2 Q
section
variable {X : Cx} {CX : CXT} {k : Nat} {f C : Addr} {fd : FuncData} {ps : List Str} {sp : Sp} {E : L2.St → XK}
theorem pe_ixOwnS {a b : Expr} {ta tb : TE} {pos : Pos} (F : FnOk X.prog X.w X.K X.mg X.base CX k f fd ps sp) (hr : Room (k + 1) X.A) (hs : PySem.W.findIn X.K (.ref C) "__getitem__" = some (some (.ref f))) (hi : PySem.W.fnIn X.K f = true) (hf : PySem.W.isFn X.K (.ref f) = true) (hb0 : L2.Binds X.K fd ps []) (out : ∀ σ, PassesAt CX X σ (E σ))
    (ha : PE X a ta) (hb : PE X b tb) (hsl : ∀ x i, subscripted b true (.ref x) i = runValue (.builtin "lifetime.subscript" ⟨[.ref x, i], []⟩) := by intros; with_unfolding_all rfl) : PE X (.Subscript a b pos) (tIxOwnS C sp E ta tb) := by
  refine ⟨fun pins s0 σ H0 Q I h => ?_⟩
  have h' : tOp (rOwnIx C sp (E σ)) ta tb σ H0 Q := h
  refine Subscript_ (binT ha hb I h' fun v u s x y H I rx ry q => ?_)
  obtain ⟨p, dx, fs, rfl, hp, q⟩ := q
  cases rx
  obtain ⟨_, J, _⟩ := ins_get I.hok hp
  obtain ⟨_, J, _⟩ := J.look
  obtain ⟨m, fr⟩ := I.fr
  refine PySem.W.sub_K fr I.ok.mod.kin J hs hi hf ?_ (hsl _ _)
  have r2 : Vals [V.ref p, y] [Value.ref p, u] := .cons rfl (.cons ry .nil)
  have n2 : [Value.ref p, u].length = ps.length := r2.length.symm.trans (F.len _ _ _ _ q)
  have bd := hb0 s [Value.ref p, u] I.kIn (by rw [List.append_nil]; exact n2)
  rw [List.append_nil] at bd
  refine wpAny_call (codeAny_mono (F.run X.A.in1 X.stack s H ⟨[.ref p, u], []⟩ [.ref p, u] [.ref p, y] Q (E σ) hr.in1 I.env0.in1 bd r2 q) fun rr s' z => ?_)
  match rr, z with
  | .error er, z => exact out σ pins H s er s' I z
  | .ok (.ret w), z => exact I.after z
  | .ok .next, z => exact False.elim z
  | .ok .brk, z => exact False.elim z
  | .ok .cont, z => exact False.elim z
end

/-- what leaves a call leaves the def, too -/
theorem passX {X : Cx} {E : XK} (tk : Takes X fun cls d _ H => E cls d H) : Passes (L2.CX X.prog X.w) X E := fun pins σ H s e s' I c => passAt (W := fun cls d _ H => E cls d H) tk σ pins H s e s' I c

/-! ### iter of a tuple -/
def ItTup (t it : Addr) (i : Nat) : HO := .ext fun h => h.IsTupleIter it t i
theorem itTup_ok {P : Program} {w : World} {H : Hp} {h : Heap} {t it : Addr} {i : Nat} (e : h.IsTupleIter it t i) : ObjOk P w H h it (ItTup t it i) :=
  ⟨e, let ⟨o, ho, _⟩ := e; ⟨o, ho⟩, fun _ _ ⟨o, ho, r⟩ k => ⟨o, k _ ho, r⟩⟩
section
variable {X : Cx}
def rIterT (K : PySem.W.Frag) : List V → Hp → VK → Prop := fun xs H Q => ∃ t zs, xs = [.ref t] ∧ SqT K H t zs ∧ ∀ it, H it = none → Q (.ref it) (upd H it (ItTup t it 0))
theorem call_iterT : CallR X (.builtin "iter") (rIterT X.K) := by
  intro pins s σ H xs us Q I r h
  obtain ⟨t, zs, rfl, hq, q⟩ := h
  obtain ⟨u, rfl, ru⟩ := vals1 r
  cases ru
  obtain ⟨its, rv, pl, hz⟩ := I.tuple hq
  refine Calls.call_function_entry (by decide +kernel) (by decide +kernel) PySem.W.kdk_entry_iter (PySem.W.kdk_args_iter _) ?_
  unfold Builtin.«iter»
  refine wpAny_bind (m := someArgs "iter" 1 2 _) (wpAny_of_eq (a := [Value.ref t]) (by first | rfl | kernel_rfl!) ?_)
  show wpAny _ _ (pyIter (.ref t) >>= _) _ _ s
  refine wpAny_bind (wpAny_pyIter_tuple pl (wpAny_pure ⟨_, rfl, ?_⟩))
  exact ⟨.ref s.heap.objs.size, _, I.laid (t' := s.toks) (fun _ _ e => Heap.get?_push_of_some _ e) (Nat.le_refl _) (itTup_ok ⟨_, Heap.get?_push_size _ rfl, rfl, rfl⟩), rfl, q _ (I.hok.fresh (Nat.le_refl _))⟩
end

/-! ### list of such an object -/
structure ItL (K : PySem.W.Frag) (C fi fl : Addr) : Prop where
  it : PySem.W.findIn K (.ref C) "__iter__" = some (some (.ref fi))
  itF : PySem.W.isFn K (.ref fi) = true
  ln : PySem.W.findIn K (.ref C) "__len__" = some (some (.ref fl))
  lnF : PySem.W.isFn K (.ref fl) = true
section
variable {X : Cx} {pins : List (Addr × Obj)} {σ : L2.St} {H : Hp} {s : Shared} {A1 : Around} {t it q : Addr} {zs : List V}
/-- the turns: the iterator hands out what is left, the list grows -/
theorem itT_loop {R : Result → Shared → Prop} (calm : A1.in1.handled = none) (ex0 : X.ex = []) (hz : zs.length ≤ sizeLine) (nq : it ≠ q) (old : Fr0 X.H_0 it)
    (fin : ∀ (H' : Hp) s', Inv X pins σ (delH H' it) s' → H' q = some (.lst zs) → (∀ b, b ≠ it → b ≠ q → H' b = H b) → R (.ok (.ret .none)) s') :
    ∀ (n i : Nat) (H' : Hp) (s' : Shared), zs.length - i = n → i ≤ zs.length → Inv X pins σ H' s' → H' it = some (ItTup t it i) → H' q = some (.lst (zs.take i)) → SqT X.K H' t zs → t ≠ it → t ≠ q → (∀ b, b ≠ it → b ≠ q → H' b = H b) →
      codeAny (model X.prog X.w) A1 (.builtin "list.extend.loop" ⟨[.ref q, .ref it, .none], []⟩) R s' := by
  intro n
  induction n with
  | zero =>
    intro i H' s' hn hi I hit hq ht n1 n2 same
    obtain rfl : i = zs.length := by omega
    refine codeAny_builtin PySem.F.entry_extend_loop ?_
    rw [Around.under_plainId PySem.F.plain_extend_loop _]
    show wpAny _ A1.in1 (pyNext (.ref it) >>= _) _ _ s'
    obtain ⟨its, rv, pl, _⟩ := I.tuple ht
    refine wpAny_bind (wpAny_pyNext_tuple_end calm (I.hok it _ hit).1 pl (by rw [List.getElem?_toArray]; exact rv.none_of (List.getElem?_eq_none (Nat.le_refl _))) fun h' eb => ?_)
    obtain ⟨G, g1, g2, J⟩ := I.untrack hit old ex0
    have J2 : Inv X pins σ (delH H' it) { s' with heap := h' } := J.kept (h' := h') (t' := s'.toks) fun b o e => eb b o (fun z => by rw [z, g2] at e; cases e) (g1 b o e)
    exact wpAny_pure (fin H' _ J2 (by rw [hq, List.take_length]) same)
  | succ n ih =>
    intro i H' s' hn hi I hit hq ht n1 n2 same
    have hlt : i < zs.length := by omega
    refine codeAny_builtin PySem.F.entry_extend_loop ?_
    rw [Around.under_plainId PySem.F.plain_extend_loop _]
    show wpAny _ A1.in1 (pyNext (.ref it) >>= _) _ _ s'
    obtain ⟨its, rv, pl, _⟩ := I.tuple ht
    obtain ⟨u, hu, ru⟩ := rv.get (List.getElem?_eq_getElem hlt)
    refine wpAny_bind (wpAny_pyNext_tuple_item (I.hok it _ hit).1 pl (by rw [List.getElem?_toArray]; exact hu) fun h' e' sb => ?_)
    have J : Inv X pins σ (upd H' it (ItTup t it (i + 1))) { s' with heap := h' } := I.write (x := it) (e := it) (t' := s'.toks) (by rw [hit]; exact True.intro) (.inl rfl) (fun b o nb z => (sb.2 b nb).trans z) (let ⟨o, ho, _⟩ := e'; ⟨o, ho⟩) (itTup_ok e')
    have hq2 : upd H' it (ItTup t it (i + 1)) q = some (.lst (zs.take i)) := by rw [upd_ne (Ne.symm nq)]; exact hq
    obtain ⟨z, ls, k, r2, hl, e⟩ := J.lstM hq2
    have len : zs.take i = zs.take i := rfl
    have hl2 : (zs.take i).length = i := by rw [List.length_take]; omega
    have nx : zs.take i ++ [zs[i]] = zs.take (i + 1) := by rw [List.take_add_one, List.getElem?_eq_getElem hlt]; rfl
    show wpAny _ A1.in1 (updateSeq q (·.push u) >>= _) _ _ _
    refine wpAny_bind (wpAny_updateSeq e rfl (wpAny_pure ⟨plainId_quiet PySem.F.plain_extend_loop _, ?_⟩) (by rw [List.size_toArray]; omega) (by show (ls.toArray.push u).size ≤ sizeLine + 1; rw [Array.size_push, List.size_toArray]; omega))
    have J2 := J.lset (f := (·.push u)) (its' := ls ++ [u]) (ys := zs.take (i + 1)) (t' := s'.toks) hq2 e (by simp) (by rw [← nx]; exact r2.append (.cons ru .nil)) (by rw [List.length_take]; omega)
    refine ih (i + 1) _ _ (by omega) (by omega) J2 ?_ upd_same ?_ n1 n2 ?_
    · rw [upd_ne nq, upd_same]
    · rcases ht with (h | ⟨o, h⟩) | h
      · exact .inl (.inl (by rw [upd_ne n2, upd_ne n1]; exact h))
      · exact .inl (.inr ⟨o, by rw [upd_ne n2, upd_ne n1]; exact h⟩)
      · exact .inr h
    · intro b b1 b2
      rw [upd_ne b2, upd_ne b1]
      exact same b b1 b2
end
section
variable {X : Cx} {pins : List (Addr × Obj)} {σ : L2.St} {H : Hp} {s : Shared} {CI : CXT} {C fi fl a : Addr} {fdI fdL : FuncData} {psI psL : List Str} {spI spL : Sp} {EI EL : XK} {n : Nat} {A1 : Around}
/-- below the running body: the environment of a call -/
theorem env0_sub (sb : Sub X n A1) (I : Inv X pins σ H s) : Env0 X.prog X.w X.K X.mg X.base A1 X.stack s H := by
  have e := I.env0
  exact ⟨sb.fr.trans e.frames, e.mod, e.bs, e.bsz, e.funs, e.frf, e.hok, e.bare⟩
/-- the length is asked for: whatever is said of it -/
theorem lenHint {Q : Bool → Shared → Prop} {dx : Addr} {fs : List (Str × V)} {m : Int} (sb : Sub X n A1.in1) (hc : ItL X.K C fi fl) (FL : FnOk X.prog X.w X.K X.mg X.base CX0 n fl fdL psL spL) (bL : L2.Binds X.K fdL psL []) 
    (I : Inv X pins σ H s) (ha : H a = some (.ins C dx fs)) (hm : 0 ≤ m ∧ m ≤ 1000) (hsp : spL [.ref a] H (fun v H' => v = .int m ∧ H' = H) EL) (k : ∀ b s', Inv X pins σ H s' → Q b s') :
    wpAny (model X.prog X.w) A1 (Builtin.List.listLengthHint (.ref a)) Q X.xe s := by
  obtain ⟨_, J, _⟩ := ins_get I.hok ha
  obtain ⟨_, J, _⟩ := J.look
  obtain ⟨_, fr⟩ := I.fr
  unfold Builtin.List.listLengthHint
  refine wpAny_bind (wpAny_bind (J.type.here ((PySem.W.looks_findIn I.kIn hc.ln).here ?_)))
  refine PySem.W.KFB.if_not rfl ?_
  refine wpAny_ite_split (fun _ => ?_) (fun z => absurd rfl z)
  refine wpAny_bind (wpAny_rule (wpAny_bind (wpAny_attempt (PySem.W.len_K fr I.ok.mod.kin J hc.ln hc.lnF ?_))))
  have r2 : Vals [V.ref a] [Value.ref a] := .cons rfl .nil
  have n2 : [Value.ref a].length = psL.length := r2.length.symm.trans (FL.len _ _ _ _ hsp)
  have bd := bL s [Value.ref a] I.kIn (by rw [List.append_nil]; exact n2)
  rw [List.append_nil] at bd
  refine wpAny_call (codeAny_mono (FL.run A1.in1 X.stack s H ⟨[.ref a], []⟩ [.ref a] [.ref a] _ EL sb.room (env0_sub sb I) bd r2 hsp) fun rr s' z => ?_)
  match rr, z with
  | .error er, z => exact False.elim z
  | .ok (.ret w), z =>
    obtain ⟨v, H', I', rv, rfl, rfl⟩ := I.after z
    obtain ⟨t, rfl⟩ := rv
    refine ⟨⟨hm.1, by omega⟩, ?_⟩
    refine wpAny_bind (wpAny_pure ?_)
    refine wpAny_ite_split (fun z => ?_) (fun _ => wpAny_pure (k _ _ (I'.tok _)))
    rw [notLongL (Nat.le_trans (by omega : m.toNat ≤ 1000) (by decide))] at z
    cases z
  | .ok .next, z => exact False.elim z
  | .ok .brk, z => exact False.elim z
  | .ok .cont, z => exact False.elim z
/-- what list(o) asks: the two methods' promises, at any heap that has all that stands now -/
def rListOwnT (K : PySem.W.Frag) (H0 : Hp) (C : Addr) (spI spL : Sp) (EI EL : XK) : List V → Hp → VK → Prop := fun xs H Q => ∃ a dx fs t zs, xs = [.ref a] ∧ H a = some (.ins C dx fs) ∧ H t = some (.tup zs) ∧ zs.length ≤ 1000 ∧
  (∀ H', Ex H H' → spI [.ref a] H' (fun v H2 => ∃ it, v = .ref it ∧ H' it = none ∧ Fr0 H0 it ∧ H2 = upd H' it (ItTup t it 0)) EI) ∧ (∀ H', Ex H H' → spL [.ref a] H' (fun v H2 => v = .int (zs.length : Int) ∧ H2 = H') EL) ∧ ∀ q, H q = none → Q (.ref q) (upd H q (.lst zs))
theorem call_listOwnT (calm : X.calm = true) (ex0 : X.ex = []) (hc : ItL X.K C fi fl) (FI : FnOk X.prog X.w X.K X.mg X.base CX0 n fi fdI psI spI) (bI : L2.Binds X.K fdI psI []) (FL : FnOk X.prog X.w X.K X.mg X.base CX0 n fl fdL psL spL) (bL : L2.Binds X.K fdL psL []) (room : Room (n + 3) X.A) :
    CallR X (.type "list") (rListOwnT X.K X.H_0 C spI spL EI EL) := by
  intro pins s σ H xs us Q I rv h
  obtain ⟨a, dx, fs, t, zs, rfl, ha, ht, hz, hI, hL, hq⟩ := h
  obtain ⟨u, rfl, ru⟩ := rv.one
  cases ru
  have sb3 : Sub X (n + 3) X.A := ⟨room, rfl⟩
  have sb1 : Sub X (n + 1) X.A.in1.in1 := sb3.in1.in1
  have sb0 : Sub X n X.A.in1.in1.in1 := sb1.in1
  have fr : H s.heap.objs.size = none := I.hok.fresh (Nat.le_refl _)
  generalize eq : s.heap.objs.size = q at fr
  refine callType_codes (Q₁ := fun ob s1 => ob = .ref s.heap.objs.size ∧ s1 = { s with heap := s.heap.push { cls := .type "list", data := .seq #[] } }) PySem.F.called_list (PySem.F.typeCall_list_1 _) PySem.F.entry_list_init (code_list_new _ ⟨rfl, rfl⟩) fun ob s1 e1 => ?_
  obtain ⟨rfl, rfl⟩ := e1
  have g0 : (s.heap.push { cls := .type "list", data := .seq #[] }).get? s.heap.objs.size = some { cls := .type "list", data := .seq #[] } := Heap.get?_push_size _ rfl
  refine ⟨⟨_, g0, rfl⟩, PySem.F.args_list_init_2 _ _, ?_⟩
  have I1 : Inv X pins σ (upd H s.heap.objs.size (.lst [])) { s with heap := s.heap.push { cls := .type "list", data := .seq #[] } } := I.lnew (its := []) (t' := s.toks) .nil (Nat.zero_le _)
  show wpAny _ _ (do let old ← Builtin.List.listItems (.ref s.heap.objs.size); Builtin.List.listUpdate (.ref s.heap.objs.size) (fun _ => #[]); letGo old.toList.reverse; Builtin.List.listExtendWith (.ref s.heap.objs.size) (.ref a) .none) _ _ _
  unfold Builtin.List.listItems
  refine wpAny_bind (wpAny_bind (wpAny_seqItems g0 rfl (wpAny_pure ?_)))
  have I2 := I1.lset (f := fun _ => #[]) (its := []) (its' := []) (ys := []) (t' := s.toks) upd_same g0 rfl .nil (Nat.zero_le _)
  rw [upd_upd] at I2
  show wpAny _ _ (updateSeq s.heap.objs.size (fun _ => #[]) >>= fun _ => letGo (#[] : Array Value).toList.reverse >>= fun _ => Builtin.List.listExtendWith (.ref s.heap.objs.size) (.ref a) .none) _ _ _
  refine wpAny_bind (wpAny_updateSeq g0 rfl (wpAny_bind (wpAny_letGo ?_)))
  rw [eq] at I2 ⊢
  have ex : Ex H (upd H q (.lst [])) := Ex.new fr
  have ha2 := ex _ _ ha
  have nqa : q ≠ a := fun z => by rw [← z, fr] at ha; cases ha
  obtain ⟨_, J, _⟩ := ins_get I2.hok ha2
  obtain ⟨_, J, _⟩ := J.look
  obtain ⟨_, frm⟩ := I2.fr
  unfold Builtin.List.listExtendWith
  refine wpAny_bind (J.type.here ?_)
  have b1 : Builtin.List.listSameRef (.ref q) (.ref a) = false := by simp [Builtin.List.listSameRef, nqa]
  have b2 : (Value.ref C == Value.type "list") = false := rfl
  have b3 : (Value.ref C == Value.type "tuple") = false := rfl
  simp only [b1, b2, b3, Bool.or_false, Bool.false_eq_true, if_false]
  refine wpAny_bind (PySem.W.owit_iter frm I2.ok.mod.kin J hc.it hc.itF ?_)
  have q1 := hI _ ex
  have r2 : Vals [V.ref a] [Value.ref a] := .cons rfl .nil
  have n2 : [Value.ref a].length = psI.length := r2.length.symm.trans (FI.len _ _ _ _ q1)
  have bd := bI _ [Value.ref a] I2.kIn (by rw [List.append_nil]; exact n2)
  rw [List.append_nil] at bd
  refine wpAny_call (codeAny_mono (FI.run X.A.in1.in1 X.stack _ _ ⟨[.ref a], []⟩ [.ref a] [.ref a] _ EI (sb1.mono (Nat.le_succ n)).room (env0_sub (sb1.mono (Nat.le_succ n)) I2) bd r2 q1) fun rr s' z => ?_)
  match rr, z with
  | .error er, z => exact False.elim z
  | .ok .next, z => exact False.elim z
  | .ok .brk, z => exact False.elim z
  | .ok .cont, z => exact False.elim z
  | .ok (.ret w), z =>
    obtain ⟨v, H', I3, rv, it, rfl, hit, old, rfl⟩ := I2.after z
    cases rv
    have nit : it ≠ q := fun z => by rw [z, upd_same] at hit; cases hit
    have hitH : H it = none := by rw [upd_ne nit] at hit; exact hit
    have ex3 : Ex (upd H q (.lst [])) (upd (upd H q (.lst [])) it (ItTup t it 0)) := Ex.new hit
    have hT : s'.TypeIs (.ref it) "tuple_iterator" := by
      obtain ⟨o, ho, hc, _⟩ := (I3.hok it _ upd_same).1
      exact ⟨o, ho, hc⟩
    unfold PySem.W.OwitIt
    refine wpAny_specialOf hT PySem.F.slot_tuple_iterator_next.lookup ?_
    refine wpAny_bind (wpAny_holding (lenHint (m := (zs.length : Int)) sb0 hc FL bL I3 (ex3 _ _ ha2) ⟨by omega, by omega⟩ (hL _ (ex.trans ex3)) fun b s4 I4 => ?_))
    have nta : t ≠ it ∧ t ≠ q := ⟨ne_of_none ht hitH, ne_of_none ht fr⟩
    have go : ∀ s5, Inv X pins σ (upd (upd H q (.lst [])) it (ItTup t it 0)) s5 → codeAny (model X.prog X.w) X.A.in1 (.builtin "list.extend.loop" ⟨[.ref q, .ref it, .none], []⟩) (wants (fun r s₂ => r = .none ∧ EP X pins σ Q (.ref q) s₂) X.xe) s5 := fun s5 I5 => by
      refine itT_loop (A1 := X.A.in1) (R := wants (fun r s₂ => r = .none ∧ EP X pins σ Q (.ref q) s₂) X.xe) (H := upd H q (.lst [])) (show X.A.in1.in1.handled = none from I.ok.hd calm) ex0 (by rw [sizeLine_eq]; omega) nit old (fun H6 s6 I6 e6 k6 => ⟨rfl, .ref q, _, I6, rfl, ?_⟩) zs.length 0 _ s5 rfl (Nat.zero_le _) I5 upd_same ?_ ?_ nta.1 nta.2 (fun b b1 b2 => by rw [upd_ne b1])
      · have e : delH H6 it = upd H q (.lst zs) := by
          funext b
          by_cases h1 : b = it
          · rw [h1, upd_ne nit, hitH]
            exact if_pos rfl
          · rw [show delH H6 it b = H6 b from if_neg h1]
            by_cases h2 : b = q
            · rw [h2, upd_same, e6]
            · rw [k6 b h1 h2, upd_ne h2, upd_ne h2]
        rw [e]
        exact hq q fr
      · rw [upd_ne (Ne.symm nit), upd_same]
        rfl
      · exact SqT.of ((ex.trans ex3) _ _ ht)
    have h4q : upd (upd H q (.lst [])) it (ItTup t it 0) q = some (.lst []) := by rw [upd_ne (Ne.symm nit), upd_same]
    refine wpAny_ite_split (fun _ => ?_) (fun _ => wpAny_pure ⟨plainId_quiet PySem.F.plain_extend_loop _, go s4 I4⟩)
    refine wpAny_bind (wpAny_rule (wpAny_bind ?_))
    show wpAny _ _ (updateSeq q (·.push .none) >>= fun _ => updateSeq q (·.pop)) _ _ _
    obtain ⟨_, ls, k, r5, _, g5⟩ := I4.lstM h4q
    cases r5
    refine wpAny_bind (wpAny_updateSeq g5 rfl ?_)
    have I6 := I4.lset (f := (·.push Value.none)) (its' := [Value.none]) (ys := [.non]) (t' := s4.toks) h4q g5 (by simp) (.cons rfl .nil) (by rw [List.length_singleton, sizeLine_eq]; decide)
    obtain ⟨_, ls6, k6, r6, _, g6⟩ := I6.lstM upd_same
    obtain ⟨u6, rfl, _⟩ := r6.one
    refine wpAny_updateSeq g6 rfl ?_ (by show 1 ≤ sizeLine; rw [sizeLine_eq]; decide) (by show 0 ≤ sizeLine + 1; exact Nat.zero_le _)
    have I7 := I6.lset (f := (·.pop)) (its := [u6]) (its' := []) (ys := []) (t' := s4.toks) upd_same g6 (by rfl) .nil (Nat.zero_le _)
    rw [upd_upd, upd_id h4q] at I7
    exact wpAny_pure ⟨plainId_quiet PySem.F.plain_extend_loop _, go _ I7⟩
end
/-! ### lists by their length -/
theorem len1 {α : Type} {xs : List α} (h : xs.length = 1) : ∃ a0, xs = [a0] := by
  obtain ⟨a0, t0, rfl⟩ := List.exists_cons_of_length_eq_add_one h; have h1 := Nat.succ.inj h
  obtain rfl := List.eq_nil_of_length_eq_zero h1
  exact ⟨_, rfl⟩
theorem len2 {α : Type} {xs : List α} (h : xs.length = 2) : ∃ a0 a1, xs = [a0, a1] := by
  obtain ⟨a0, t0, rfl⟩ := List.exists_cons_of_length_eq_add_one h; have h1 := Nat.succ.inj h; obtain ⟨a1, t1, rfl⟩ := List.exists_cons_of_length_eq_add_one h1; have h2 := Nat.succ.inj h1
  obtain rfl := List.eq_nil_of_length_eq_zero h2
  exact ⟨_, _, rfl⟩
theorem len3 {α : Type} {xs : List α} (h : xs.length = 3) : ∃ a0 a1 a2, xs = [a0, a1, a2] := by
  obtain ⟨a0, t0, rfl⟩ := List.exists_cons_of_length_eq_add_one h; have h1 := Nat.succ.inj h; obtain ⟨a1, t1, rfl⟩ := List.exists_cons_of_length_eq_add_one h1; have h2 := Nat.succ.inj h1; obtain ⟨a2, t2, rfl⟩ := List.exists_cons_of_length_eq_add_one h2; have h3 := Nat.succ.inj h2
  obtain rfl := List.eq_nil_of_length_eq_zero h3
  exact ⟨_, _, _, rfl⟩
theorem len4 {α : Type} {xs : List α} (h : xs.length = 4) : ∃ a0 a1 a2 a3, xs = [a0, a1, a2, a3] := by
  obtain ⟨a0, t0, rfl⟩ := List.exists_cons_of_length_eq_add_one h; have h1 := Nat.succ.inj h; obtain ⟨a1, t1, rfl⟩ := List.exists_cons_of_length_eq_add_one h1; have h2 := Nat.succ.inj h1; obtain ⟨a2, t2, rfl⟩ := List.exists_cons_of_length_eq_add_one h2; have h3 := Nat.succ.inj h2; obtain ⟨a3, t3, rfl⟩ := List.exists_cons_of_length_eq_add_one h3; have h4 := Nat.succ.inj h3
  obtain rfl := List.eq_nil_of_length_eq_zero h4
  exact ⟨_, _, _, _, rfl⟩
theorem len5 {α : Type} {xs : List α} (h : xs.length = 5) : ∃ a0 a1 a2 a3 a4, xs = [a0, a1, a2, a3, a4] := by
  obtain ⟨a0, t0, rfl⟩ := List.exists_cons_of_length_eq_add_one h; have h1 := Nat.succ.inj h; obtain ⟨a1, t1, rfl⟩ := List.exists_cons_of_length_eq_add_one h1; have h2 := Nat.succ.inj h1; obtain ⟨a2, t2, rfl⟩ := List.exists_cons_of_length_eq_add_one h2; have h3 := Nat.succ.inj h2; obtain ⟨a3, t3, rfl⟩ := List.exists_cons_of_length_eq_add_one h3; have h4 := Nat.succ.inj h3; obtain ⟨a4, t4, rfl⟩ := List.exists_cons_of_length_eq_add_one h4; have h5 := Nat.succ.inj h4
  obtain rfl := List.eq_nil_of_length_eq_zero h5
  exact ⟨_, _, _, _, _, rfl⟩
theorem len12 {α : Type} {xs : List α} (h : xs.length = 12) : ∃ a0 a1 a2 a3 a4 a5 a6 a7 a8 a9 a10 a11, xs = [a0, a1, a2, a3, a4, a5, a6, a7, a8, a9, a10, a11] := by
  obtain ⟨a0, t0, rfl⟩ := List.exists_cons_of_length_eq_add_one h; have h1 := Nat.succ.inj h; obtain ⟨a1, t1, rfl⟩ := List.exists_cons_of_length_eq_add_one h1; have h2 := Nat.succ.inj h1; obtain ⟨a2, t2, rfl⟩ := List.exists_cons_of_length_eq_add_one h2; have h3 := Nat.succ.inj h2; obtain ⟨a3, t3, rfl⟩ := List.exists_cons_of_length_eq_add_one h3; have h4 := Nat.succ.inj h3; obtain ⟨a4, t4, rfl⟩ := List.exists_cons_of_length_eq_add_one h4; have h5 := Nat.succ.inj h4; obtain ⟨a5, t5, rfl⟩ := List.exists_cons_of_length_eq_add_one h5; have h6 := Nat.succ.inj h5; obtain ⟨a6, t6, rfl⟩ := List.exists_cons_of_length_eq_add_one h6; have h7 := Nat.succ.inj h6; obtain ⟨a7, t7, rfl⟩ := List.exists_cons_of_length_eq_add_one h7; have h8 := Nat.succ.inj h7; obtain ⟨a8, t8, rfl⟩ := List.exists_cons_of_length_eq_add_one h8; have h9 := Nat.succ.inj h8; obtain ⟨a9, t9, rfl⟩ := List.exists_cons_of_length_eq_add_one h9; have h10 := Nat.succ.inj h9; obtain ⟨a10, t10, rfl⟩ := List.exists_cons_of_length_eq_add_one h10; have h11 := Nat.succ.inj h10; obtain ⟨a11, t11, rfl⟩ := List.exists_cons_of_length_eq_add_one h11; have h12 := Nat.succ.inj h11
  obtain rfl := List.eq_nil_of_length_eq_zero h12
  exact ⟨_, _, _, _, _, _, _, _, _, _, _, _, rfl⟩
theorem len13 {α : Type} {xs : List α} (h : xs.length = 13) : ∃ a0 a1 a2 a3 a4 a5 a6 a7 a8 a9 a10 a11 a12, xs = [a0, a1, a2, a3, a4, a5, a6, a7, a8, a9, a10, a11, a12] := by
  obtain ⟨a0, t0, rfl⟩ := List.exists_cons_of_length_eq_add_one h; have h1 := Nat.succ.inj h; obtain ⟨a1, t1, rfl⟩ := List.exists_cons_of_length_eq_add_one h1; have h2 := Nat.succ.inj h1; obtain ⟨a2, t2, rfl⟩ := List.exists_cons_of_length_eq_add_one h2; have h3 := Nat.succ.inj h2; obtain ⟨a3, t3, rfl⟩ := List.exists_cons_of_length_eq_add_one h3; have h4 := Nat.succ.inj h3; obtain ⟨a4, t4, rfl⟩ := List.exists_cons_of_length_eq_add_one h4; have h5 := Nat.succ.inj h4; obtain ⟨a5, t5, rfl⟩ := List.exists_cons_of_length_eq_add_one h5; have h6 := Nat.succ.inj h5; obtain ⟨a6, t6, rfl⟩ := List.exists_cons_of_length_eq_add_one h6; have h7 := Nat.succ.inj h6; obtain ⟨a7, t7, rfl⟩ := List.exists_cons_of_length_eq_add_one h7; have h8 := Nat.succ.inj h7; obtain ⟨a8, t8, rfl⟩ := List.exists_cons_of_length_eq_add_one h8; have h9 := Nat.succ.inj h8; obtain ⟨a9, t9, rfl⟩ := List.exists_cons_of_length_eq_add_one h9; have h10 := Nat.succ.inj h9; obtain ⟨a10, t10, rfl⟩ := List.exists_cons_of_length_eq_add_one h10; have h11 := Nat.succ.inj h10; obtain ⟨a11, t11, rfl⟩ := List.exists_cons_of_length_eq_add_one h11; have h12 := Nat.succ.inj h11; obtain ⟨a12, t12, rfl⟩ := List.exists_cons_of_length_eq_add_one h12; have h13 := Nat.succ.inj h12
  obtain rfl := List.eq_nil_of_length_eq_zero h13
  exact ⟨_, _, _, _, _, _, _, _, _, _, _, _, _, rfl⟩
end UL

set_option Elab.async false
set_option linter.all false
set_option maxRecDepth 100000
/-! own: an operator of an own class, != of a class that has == alone, C(*xs) -/
namespace UL
open PySem PySem.Spec PyProof.Rows L2 Evl TL

/-! ### an operator -/
section
variable {X : Cx} {CX : CXT} {k : Nat} {f C : Addr} {fd : FuncData} {ps : List Str} {sp : Sp}
/-- x op y, both of the class at C; the answer is an object -/
def rOwnBin (C : Addr) (sp : Sp) (E : XK) : R2 := fun x y H Q => ∃ a b dx fs dy gs, x = .ref a ∧ y = .ref b ∧ H a = some (.ins C dx fs) ∧ H b = some (.ins C dy gs) ∧ sp [.ref a, .ref b] H (fun v H' => ∃ c, v = .ref c ∧ Q (.ref c) H') E
/-- .. what is raised is wished for at the slots -/
def tOwnBin (C : Addr) (sp : Sp) (E : L2.St → XK) (ta tb : TE) : TE := fun σ H Q => ta σ H fun x H1 => tb σ H1 fun y H2 => rOwnBin C sp (E σ) x y H2 Q
theorem own_bin {op : Operator} {E : XK} {pins : List (Addr × Obj)} {σ : L2.St} {H : Hp} {s : Shared} {x y : V} {v u : Value} {Q : VK} (F : FnOk X.prog X.w X.K X.mg X.base CX k f fd ps sp) (hr : Room k X.A) (hc : PySem.W.selfFirst X.K C = true) (hs : PySem.W.findIn X.K (.ref C) (PySem.dunder op.info.2) = some (some (.ref f)))
    (hf : PySem.W.isFn X.K (.ref f) = true) (hb : L2.Binds X.K fd ps []) (out : PassesAt CX X σ E) (I : Inv X pins σ H s) (rx : RelV x v) (ry : RelV y u) (h : rOwnBin C sp E x y H Q) : wpAny (model X.prog X.w) X.A (binaryOp op v u) (EP X pins σ Q) X.xe s := by
  obtain ⟨a, b, dx, fs, dy, gs, rfl, rfl, ha, hb2, q⟩ := h
  cases rx
  cases ry
  obtain ⟨_, J, _⟩ := ins_get I.hok ha
  obtain ⟨_, J, _⟩ := J.look
  obtain ⟨_, J', _⟩ := ins_get I.hok hb2
  obtain ⟨_, J', _⟩ := J'.look
  obtain ⟨_, fr⟩ := I.fr
  refine PySem.W.binop_K fr I.ok.mod.kin J J'.type hc hs hf ?_
  have r2 : Vals [V.ref a, V.ref b] [Value.ref a, Value.ref b] := .cons rfl (.cons rfl .nil)
  have n2 : [Value.ref a, Value.ref b].length = ps.length := r2.length.symm.trans (F.len _ _ _ _ q)
  have bd := hb s [Value.ref a, Value.ref b] I.kIn (by rw [List.append_nil]; exact n2)
  rw [List.append_nil] at bd
  refine wpAny_call (codeAny_mono (F.run X.A X.stack s H ⟨[.ref a, .ref b], []⟩ [.ref a, .ref b] [.ref a, .ref b] _ E hr I.env0 bd r2 q) fun rr s' z => ?_)
  match rr, z with
  | .error er, z => exact out pins H s er s' I z
  | .ok (.ret w), z =>
    obtain ⟨v, H', I', rv, c, rfl, q'⟩ := I.after z
    cases rv
    exact ⟨V.ref c, H', I', rfl, q'⟩
  | .ok .next, z => exact False.elim z
  | .ok .brk, z => exact False.elim z
  | .ok .cont, z => exact False.elim z
theorem op_ownBin {op : Operator} {E : XK} (F : FnOk X.prog X.w X.K X.mg X.base CX k f fd ps sp) (hr : Room k X.A) (hc : PySem.W.selfFirst X.K C = true) (hs : PySem.W.findIn X.K (.ref C) (PySem.dunder op.info.2) = some (some (.ref f))) (hf : PySem.W.isFn X.K (.ref f) = true) (hb : L2.Binds X.K fd ps []) (out : Passes CX X E) :
    OpR X (binaryOp op) (rOwnBin C sp E) := fun pins s σ H x y v u Q I rx ry h => own_bin F hr hc hs hf hb (fun pins H s e s' I c => out pins σ H s e s' I c) I rx ry h
theorem pe_ownBinS {a b : Expr} {ta tb : TE} {pos : Pos} {op : Operator} {E : L2.St → XK} (F : FnOk X.prog X.w X.K X.mg X.base CX k f fd ps sp) (hr : Room k X.A) (hc : PySem.W.selfFirst X.K C = true) (hs : PySem.W.findIn X.K (.ref C) (PySem.dunder op.info.2) = some (some (.ref f))) (hf : PySem.W.isFn X.K (.ref f) = true) (hb : L2.Binds X.K fd ps []) (out : ∀ σ, PassesAt CX X σ (E σ))
    (ha : PE X a ta) (hb2 : PE X b tb) : PE X (.BinOp a op b pos) (tOwnBin C sp E ta tb) := by
  refine ⟨fun pins s σ H Q I h => ?_⟩
  have h' : tOp (rOwnBin C sp (E σ)) ta tb σ H Q := h
  exact wpAny_BinOp (binT ha hb2 I h' fun v u s2 x y H2 I2 rx ry q => own_bin F hr hc hs hf hb (out σ) I2 rx ry q)
end

/-! ### x != y, the class has == alone -/
structure NeC (K : PySem.W.Frag) (C f : Addr) : Prop where
  ne : PySem.W.findIn K (.ref C) "__ne__" = some (some (.builtin "object.__ne__"))
  eq : PySem.W.findIn K (.ref C) "__eq__" = some (some (.ref f))
  fn : PySem.W.isFn K (.ref f) = true
  ob : PySem.W.subIn K (.ref C) (.type "object") = some true
section
variable {prog : Program} {w : World} {A : Around} {E : Value → Shared → Prop} {s : Shared} {K : PySem.W.Frag} {C x f : Addr} {ox : Obj} {od : Option Obj} {b : Value}
theorem slotNe : Slot "object" "__ne__" "object.__ne__" := PySem.F.cmp_object.ne
theorem own_ne {Q : Value → Shared → Prop} (T : NeC K C f) (hK : K.In s.heap) (J : PySem.W.InstAt s.heap x ox C od) (hb : PySem.W.Looks (model prog w) s.heap (typeOf b) (.ref C)) (hu : A.units + 1 < cLine)
    (h : wpAny (model prog w) A.in1 (call (.ref f) [.ref x, b]) (fun v s' => ∃ r, v = .bool r ∧ Q (.bool (!r)) s') E s) : wpAny (model prog w) A (richCompare .NotEq (.ref x) b) Q E s := by
  have inner : wpAny (model prog w) A (call (.builtin "object.__ne__") [.ref x, b]) (fun v s' => ∃ r, v = .bool r ∧ Q (.bool r) s') E s := by
    refine wpAny_call (codeAny_call_builtin slotNe.plain PySem.F.cmpEntry_ne ?_)
    simp only [checkBuiltinCall, PySem.F.cmpKind_ne, PySem.F.cmpSplit_ne]
    refine wpAny_bind ?_
    unfold isInstance
    refine wpAny_bind (J.type.here ((PySem.W.looks_subIn hK T.ob).here ?_))
    refine wpAny_ite_split (fun z => absurd z (by decide)) (fun _ => ?_)
    have body : wpAny (model prog w) A.in1 (Builtin.«object.__ne__» { pos := [Value.ref x, b] }) (fun fin s' => ∃ r, fin = .done (.ret (.bool r)) ∧ Q (.bool r) s') E s := by
      have lim : A.in1.units < cLine := by show A.units + 1 < cLine; exact hu
      unfold Builtin.«object.__ne__»
      repeat (first
        | refine wpAny_bind (m := callSpecialIfBound? (.ref x) (Str.ofString "__eq__") [b]) (PySem.W.ifBound_K hK J T.eq T.fn (wpAny_mono h (fun r t hr => (?_ : (fun z y => _) (some r) t)) fun _ _ z => z))
        | with_reducible refine wpAny_cRoomFor lim ?_
        | wp_step)
      obtain ⟨r0, rfl, hq⟩ := hr
      exact wpAny_bind (m := truthy (.bool r0)) (wpAny_truthy_bool (wpAny_pure ⟨_, rfl, hq⟩))
    have done : ∀ s', s' = s → wpAny (model prog w) A.in1 (Builtin.«object.__ne__» { pos := [Value.ref x, b] }) (fun fin s' => match fin with | .done f => (match (Except.ok f : Result) with | .ok (.ret v) => ∃ r, v = .bool r ∧ Q (.bool r) s' | .ok _ => False | .error e => E e s') | .again c' => c'.quiet = true ∧ codeAny (model prog w) A c' (fun r s' => match r with | .ok (.ret v) => ∃ r, v = .bool r ∧ Q (.bool r) s' | .ok _ => False | .error e => E e s') s') (fun e s' => E e s') s' := by
      rintro _ rfl
      refine wpAny_mono body (fun fin s' z => ?_) fun _ _ z => z
      obtain ⟨r, rfl, q⟩ := z
      exact ⟨r, rfl, q⟩
    have ok := PySem.F.cmpArgs_ne (.ref x) b
    cases sg : Manifest.signature? "object.__ne__" with
    | none => exact wpAny_pure (done s rfl)
    | some sig =>
      simp only [argsOk, sg] at ok
      have ok2 : Bind.checkArgs "object.__ne__" sig ⟨[.ref x, b], []⟩ = pure () := ok
      show wpAny _ A.in1 (Bind.checkArgs "object.__ne__" sig ⟨[.ref x, b], []⟩) _ _ _
      rw [ok2]
      exact wpAny_pure (done s rfl)
  unfold richCompare
  simp only [oneThing_ref]
  refine wpAny_holding (wpAny_bind (wpAny_cRoomFor (by omega) ?_))
  refine wpAny_bind (J.type.here (wpAny_bind (hb.here ?_)))
  have one : wpAny (model prog w) A (tryCompare (.ref x) (cmpInfo .NotEq).2.1 b) (fun r s' => ∃ v, r = some v ∧ Q v s') E s := by
    unfold tryCompare
    refine wpAny_bind ?_
    simp only [callSpecialIfBound?, bindSpecialIfBound?]
    refine wpAny_holding (wpAny_bind (wpAny_bind (wpAny_bind (J.type.here ((PySem.W.looks_findIn hK T.ne).here ?_)))))
    simp only [slotNe.bind]
    refine wpAny_bind (wpAny_askSetting (wpAny_ite ?_))
    have fin : wpAny (model prog w) A (call (.builtin "object.__ne__") ([.ref x] ++ [b]) >>= fun v => pure (some v)) (fun r s' => wpAny (model prog w) A (match r with | some .notImplemented => pure Option.none | Option.none => pure Option.none | some v => pure (some v)) (fun r s' => ∃ v, r = some v ∧ Q v s') E s') E s :=
      wpAny_bind (wpAny_mono inner (fun v s' z => wpAny_pure (by obtain ⟨r, rfl, q⟩ := z; exact wpAny_pure ⟨_, rfl, q⟩)) fun _ _ z => z)
    split
    · exact wpAny_bind (wpAny_pure (wpAny_pure (by exact fin)))
    · exact wpAny_tryCatch (wpAny_bind (wpAny_pure (wpAny_pure (by exact fin))))
  split
  · rename_i q
    simp at q
  · refine wpAny_bind (wpAny_pure ?_)
    simp only [Bool.false_eq_true, if_false]
    refine wpAny_bind (wpAny_mono one (fun r s' z => ?_) fun _ _ e => e)
    obtain ⟨v, rfl, hq⟩ := z
    exact wpAny_pure hq
end
section
variable {X : Cx} {CX : CXT} {k : Nat} {f C : Addr} {fd : FuncData} {ps : List Str} {sp : Sp} {E : XK}
def rOwnNe (C : Addr) (sp : Sp) (E : XK) : R2 := fun x y H Q => ∃ a b dx fs dy gs, x = .ref a ∧ y = .ref b ∧ H a = some (.ins C dx fs) ∧ H b = some (.ins C dy gs) ∧ sp [.ref a, .ref b] H (fun v H' => ∃ c, v = .bl c ∧ Q (.bl (!c)) H') E
theorem op_ownNe (F : FnOk X.prog X.w X.K X.mg X.base CX k f fd ps sp) (hr : Room (k + 1) X.A) (T : NeC X.K C f) (hb : L2.Binds X.K fd ps []) (out : Passes CX X E) : OpR X (compareOp .NotEq) (rOwnNe C sp E) := by
  intro pins s σ H x y v u Q I rx ry h
  obtain ⟨a, b, dx, fs, dy, gs, rfl, rfl, ha, hb2, q⟩ := h
  cases rx
  cases ry
  obtain ⟨_, J, _⟩ := ins_get I.hok ha
  obtain ⟨_, J, _⟩ := J.look
  obtain ⟨_, J', _⟩ := ins_get I.hok hb2
  obtain ⟨_, J', _⟩ := J'.look
  show wpAny _ _ (richCompare .NotEq (.ref a) (.ref b)) _ _ _
  refine own_ne T I.kIn J J'.type (by have := hr.units; omega) ?_
  have r2 : Vals [V.ref a, V.ref b] [Value.ref a, Value.ref b] := .cons rfl (.cons rfl .nil)
  have n2 : [Value.ref a, Value.ref b].length = ps.length := r2.length.symm.trans (F.len _ _ _ _ q)
  have bd := hb s [Value.ref a, Value.ref b] I.kIn (by rw [List.append_nil]; exact n2)
  rw [List.append_nil] at bd
  refine wpAny_call (codeAny_mono (F.run X.A.in1 X.stack s H ⟨[.ref a, .ref b], []⟩ [.ref a, .ref b] [.ref a, .ref b] _ E hr.in1 I.env0.in1 bd r2 q) fun rr s' z => ?_)
  match rr, z with
  | .error er, z => exact out pins σ H s er s' I z
  | .ok (.ret w), z =>
    obtain ⟨v, H', I', rv, c, rfl, q'⟩ := I.after z
    cases rv
    exact ⟨c, rfl, V.bl (!c), H', I', rfl, q'⟩
  | .ok .next, z => exact False.elim z
  | .ok .brk, z => exact False.elim z
  | .ok .cont, z => exact False.elim z
end

/-! ### C(*xs) -/
section
variable {X : Cx} {CX : CXT} {k : Nat} {f C : Addr} {sp : Sp} {E : XK} {x : Str} {e : Expr} {te : TE} {p q pos : Pos}
def tMakeStar (K : PySem.W.Frag) (C : Addr) (sp : Sp) (E : XK) (te : TE) : TE := fun σ H Q => te σ H fun y H1 => ∃ a xs, y = V.ref a ∧ (SqT K H1 a xs ∨ SqL K H1 a xs) ∧ ∀ x dx, H1 x = none → H1 dx = none → dx ≠ x →
  sp (V.ref x :: xs) (upd (upd H1 dx (.own x)) x (.ins C dx [])) (fun v H2 => v = .non ∧ Q (.ref x) H2) E
theorem pe_makeStar (M : Mk X.K C f) (F : FnR X.prog X.w X.K X.mg X.base CX k f sp) (room : Room (k + 1) X.A) (g1 : Gl X x) (g2 : X.mg x = some (.ref C)) (out : Passes CX X E) (he : PE X e te) (g3 : (x == ("__debug__" : Str)) = false := by decide)
    (one : starEach [.Starred e q] X.env = [(true, eval e X.env)] := by rfl) : PE X (.Call (.Name x p) [.Starred e q] [] pos) (tMakeStar X.K C sp E te) := by
  refine ⟨fun pins s σ H Q I h => wpAny_Call_Name_kw (ld_glob I g1 g2 ?_ g3)⟩
  refine PySem.W.callWith_S (h₀ := X.base) I.ok.mod.kin M.kp (thn (he.run pins s σ H _ I h) fun v t ⟨y, H1, I1, ry, a, xs, ey, hxs, z⟩ => ?_) one
  subst ey
  obtain rfl : v = Value.ref a := ry
  exact StX.star_any I1 hxs fun us t2 I2 rv => ⟨I2.kIn, StX.run_makeR M F room out I2 rv z⟩
end
end UL

set_option Elab.async false
set_option linter.all false
set_option maxRecDepth 100000
/-! own: enumerate of a text, C(e) with C in a local name, a written dict of numbers by text -/
namespace UL
open PySem PySem.Spec PyProof.Rows L2 Evl TL

/-! ### enumerate(text) -/
def Ites (x : Str) : It :=
  ⟨fun i _ => i < x.cps.size, fun i H v H' => ∃ T c, v = .ref T ∧ H T = none ∧ H' = upd H T (.tup [.int (i : Nat), .str ⟨#[c]⟩]) ∧ x.cps[i]? = some c, fun i _ => i = x.cps.size⟩
theorem turn_enumS {P : Program} {w : World} {K : PySem.W.Frag} {elts : List Expr} {kk : Nat} {tpos : Pos} (x : Str) (t : Tok) (ty : String) (hty : ty = "str_ascii_iterator" ∨ ty = "str_iterator") (e it : Addr) :
    Turn P w K (.Tuple elts kk tpos) (Ites x) [e, it] e (fun i h => (∃ old, IsEnum h e it ((i : Nat) : Int) old) ∧ h.IsStrIter it ty x t i ∧ e ≠ it) where
  mem := by simp
  obj := fun i h st b hb => by
    obtain ⟨⟨old, he⟩, ⟨o, ho, hc, hd⟩, _⟩ := st
    have e' : b = e ∨ b = it := by simpa using hb
    rcases e' with z | z
    · rw [z]; exact ⟨_, he, fun v q => nomatch q⟩
    · rw [z]; exact ⟨o, ho, fun v q => by rw [hd] at q; cases q⟩
  keep := fun i h h' st k => let ⟨⟨old, he⟩, ⟨o, ho, r⟩, hne⟩ := st; ⟨⟨old, k e (by simp) _ he⟩, ⟨o, k it (by simp) o ho, r⟩, hne⟩
  item := by
    intro X hP hw hK hc i pins s σ H E I hf st hg
    subst hP hw hK
    obtain ⟨⟨old, he⟩, hit, hne⟩ := st
    have hel : e < s.heap.objs.size := Heap.lt_size he
    have hil : it < s.heap.objs.size := by obtain ⟨_, q, _⟩ := hit; exact Heap.lt_size q
    have D : Draws X.prog X.w X.A.in1 it [it] x.cps.size (fun i v => ∃ c u, x.cps[i]? = some c ∧ v = .str ⟨#[c]⟩ u) (fun i h => h.IsStrIter it ty x t i) := by
      rcases hty with q | q
      · rw [q]; exact Draws.strAscii (A := X.A.in1) (I.ok.hd hc) it x t
      · rw [q]; exact Draws.strWide (A := X.A.in1) (I.ok.hd hc) it x t
    refine wpAny_pyNext_enum_itemD D he hit hg hne (fun q => hne (by simpa using q)) fun u h' tk hP ho hit' hT hsz hk => ?_
    obtain ⟨c, tu, hcx, rfl⟩ := hP
    refine ⟨_, rfl, wpAny_letOwnedTupleGo_enum (s := { s with heap := h', toks := tk + 1 }) ho fun h'' he' sb => ?_⟩
    have hT2 : h''.get? s.heap.objs.size = some { cls := .type "tuple", data := .seq #[.int i tk, .str ⟨#[c]⟩ tu] } := (sb.2 _ (Nat.ne_of_gt hel)).trans hT
    have new : ObjOk X.prog X.w (upd H s.heap.objs.size (.tup [.int (i : Nat), .str ⟨#[c]⟩])) h'' s.heap.objs.size (.tup [.int (i : Nat), .str ⟨#[c]⟩]) :=
      ⟨by show 2 ≤ sizeLine; decide, [.int i tk, .str ⟨#[c]⟩ tu], .cons ⟨_, rfl⟩ (.cons ⟨_, rfl⟩ .nil), ⟨_, hT2, rfl, _, rfl⟩⟩
    have I1 : Inv X pins σ (upd H s.heap.objs.size (.tup [.int (i : Nat), .str ⟨#[c]⟩])) { s with heap := h'', toks := tk + 1 } :=
      I.turnedNew (ch := [e, it]) (fun b ob hb q => (sb.2 b (fun z => hb (by simp [z]))).trans (hk b ob (fun z => hb (by simp [z])) (fun z => hb (by simp [z])) q)) hf (Nat.le_refl _) new
    refine ⟨.ref s.heap.objs.size, _, I1, rfl, ⟨_, c, rfl, I.hok.fresh (Nat.le_refl _), rfl, hcx⟩, ⟨⟨.str ⟨#[c]⟩ tu, ?_⟩, ?_, hne⟩, fun b hb => ?_⟩
    · have e1 : ((i + 1 : Nat) : Int) = (i : Int) + 1 := by omega
      rw [e1]; exact he'
    · obtain ⟨o, ho2, r⟩ := hit'
      exact ⟨o, (sb.2 it (Ne.symm hne)).trans ho2, r⟩
    · have hb' : b < s.heap.objs.size := by
        have e' : b = e ∨ b = it := by simpa using hb
        rcases e' with z | z
        · rw [z]; exact hel
        · rw [z]; exact hil
      rw [upd_ne (Nat.ne_of_lt hb')]
      exact (hf b hb).1
  done := by
    intro X hP hw hK hc i pins s σ H E I hf st hg
    subst hP hw hK
    obtain ⟨⟨old, he⟩, hit, hne⟩ := st
    obtain ⟨f0, f1, f2, f3, f4, f5⟩ := hf it (by simp)
    have D : Draws X.prog X.w X.A.in1 it [it] x.cps.size (fun i v => ∃ c u, x.cps[i]? = some c ∧ v = .str ⟨#[c]⟩ u) (fun i h => h.IsStrIter it ty x t i) := by
      rcases hty with q | q
      · rw [q]; exact Draws.strAscii (A := X.A.in1) (I.ok.hd hc) it x t
      · rw [q]; exact Draws.strWide (A := X.A.in1) (I.ok.hd hc) it x t
    obtain rfl : i = x.cps.size := hg
    exact wpAny_pyNext_enum_endD D he hit fun h' eb => ⟨rfl, I.turned (t' := s.toks) (fun b o hb q => eb b o hb q) f0 f1 f3 f4 f5⟩
  self := fun A i s Q E st h => let ⟨⟨_, he⟩, _⟩ := st; wpAny_pyIter_enum he h
def iEnumS (ta : TA) : TI := fun σ H R => ta σ H fun vs H1 => ∃ x, vs = [.str x] ∧ R (Ites x) H1
theorem pi_enumS {X : Cx} {e : Expr} {ta : TA} {p pos tpos : Pos} {elts : List Expr} {kk : Nat} (hg : Gl X "enumerate") (hm : X.mg "enumerate" = none) (ha : PA X [e] ta) (hs : starEach [e] X.env = [(false, eval e X.env)] := by rfl) :
    PI X (.Tuple elts kk tpos) (.Call (.Name "enumerate" p) [e] [] pos) (iEnumS ta) := by
  refine ⟨fun pins s σ H R I h => ?_⟩
  refine Call_ (ld_blt I hg hm boot_enumerate (PyProof.Rows.callWith_type1 (thn (ha.run pos pins s σ H _ I h) fun us s1 ⟨vs, H1, I1, r1, q1⟩ => ?_) hs rfl))
  obtain ⟨x, ex, q⟩ := q1
  subst ex
  cases r1 with
  | cons r rr =>
    cases rr
    obtain ⟨t, rfl⟩ := r
    refine call_enumerate_str fun h' he hit hsz hk => wpAny_pyIter_enum he ?_
    have I2 : Inv X pins σ H1 { s1 with heap := h' } := I1.kept (t' := s1.toks) hk
    have fp : ∀ b ∈ [s1.heap.objs.size + 1, s1.heap.objs.size], FpOk X pins H1 b := fun b hb => by
      have e' : b = s1.heap.objs.size + 1 ∨ b = s1.heap.objs.size := by simpa using hb
      have hle : s1.heap.objs.size ≤ b := by
        rcases e' with z | z
        · rw [z]; exact Nat.le_add_right _ _
        · rw [z]; exact Nat.le_refl _
      exact I1.fpOk hle (I1.hok.fresh hle)
    cases hasc : x.cps.all (· < 128)
    · have hit' : h'.IsStrIter s1.heap.objs.size "str_iterator" x t 0 := by simpa [strIterType, hasc] using hit
      exact ⟨s1.heap.objs.size + 1, [s1.heap.objs.size + 1, s1.heap.objs.size], _, _, H1, rfl, I2, turn_enumS x t "str_iterator" (.inr rfl) (s1.heap.objs.size + 1) s1.heap.objs.size, ⟨⟨.none, he⟩, hit', Nat.succ_ne_self _⟩, fp, q⟩
    · have hit' : h'.IsStrIter s1.heap.objs.size "str_ascii_iterator" x t 0 := by simpa [strIterType, hasc] using hit
      exact ⟨s1.heap.objs.size + 1, [s1.heap.objs.size + 1, s1.heap.objs.size], _, _, H1, rfl, I2, turn_enumS x t "str_ascii_iterator" (.inl rfl) (s1.heap.objs.size + 1) s1.heap.objs.size, ⟨⟨.none, he⟩, hit', Nat.succ_ne_self _⟩, fp, q⟩
theorem walk_enumS {z : Str} : L2.Walk (Ites z) z.cps.size (fun _ => True) (fun i H v H' => ∃ T c, v = .ref T ∧ H T = none ∧ H' = upd H T (.tup [.int (i : Nat), .str ⟨#[c]⟩]) ∧ z.cps[i]? = some c) :=
  ⟨fun _ _ hi _ => hi, fun _ _ => rfl, fun _ _ _ _ _ _ y => y⟩

/-! ### C(e, ..) with C in a local name -/
def tMakeL (i : Nat) (C : Addr) (sp : Sp) (dvs : List V) (E : XK) (t : TA) : TE := fun σ H Q => σ[i]? = some (some (.ref C)) ∧ t σ H fun vs H1 => ∀ x dx, H1 x = none → H1 dx = none → dx ≠ x → sp (.ref x :: (vs ++ dvs)) (upd (upd H1 dx (.own x)) x (.ins C dx [])) (fun v H2 => v = .non ∧ Q (.ref x) H2) E
section
variable {X : Cx} {CX : CXT} {x : Str} {i : Nat} {C f : Addr} {k : Nat} {fd : FuncData} {ps : List Str} {sp : Sp} {ds : List Value} {dvs : List V} {E : XK} {e : Expr} {es : List Expr} {t : TA} {p pos : Pos}
theorem pe_makeL (M : Mk X.K C f) (F : FnOk X.prog X.w X.K X.mg X.base CX k f fd ps sp) (hr : Room (k + 1) X.A) (hN : X.N[i]? = some x) (hv : Vis X.env.scope x) (hb : L2.Binds X.K fd ps ds) (hd : Vals dvs ds) (hx : Passes CX X E)
    (ha : PA X (e :: es) t) (hdb : (x == ("__debug__" : Str)) = false := by decide) (hcd : (x == ("__classdict__" : Str)) = false := by decide) (he : starEach (e :: es) X.env = (false, eval e X.env) :: starEach es X.env := by rfl) (hpl : (backTo pos (starEach es X.env)).any (·.1) = false := by rfl) :
    PE X (.Call (.Name x p) (e :: es) [] pos) (tMakeL i C sp dvs E t) := by
  refine ⟨fun pins s σ H Q I h => ?_⟩
  obtain ⟨hs, ht⟩ := h
  refine wpAny_Call_Name_kw (thn ((pe_var (pos := p) hN hv hdb hcd).run pins s σ H (fun v H1 => v = .ref C ∧ H1 = H) I ⟨.ref C, hs, rfl, rfl⟩) fun u s1 ⟨v, H1, I1, r1, q1⟩ => ?_)
  obtain ⟨rfl, rfl⟩ := q1
  cases r1
  refine PySem.W.callWith_K (h₀ := X.base) I.ok.mod.kin M.kp (thn (ha.run pos pins s1 σ _ _ I1 ht) fun us s2 ⟨vs, H2, I2, r, q⟩ => ⟨I2.kIn, ?_⟩) he hpl
  exact run_make M F hr hb hd hx I2 r q
end

/-! ### a written dict -/
/-- at d the dict of these, told by the written part -/
structure WD (K : PySem.W.Frag) (w : World) (d : Addr) (kvs : List (Str × Int)) : Prop where
  ex : ∃ es n, K.lookup d = some ⟨.type "dict", none, .dict es n, #[]⟩ ∧ PySem.W.KeysLit w.params es.toList ∧ Paired (fun (e : DictEntry) (kv : Str × Int) => ∃ t u, e.key = .str kv.1 t ∧ e.val = .int kv.2 u) es.toList kvs ∧ (d == sysModules) = false
theorem lookup_put2 {z k : Str} {v : Int} {l : List (Str × Int)} (h : z ≠ k) : ((k, v) :: l).lookup z = l.lookup z := by
  have e : (z == k) = false := by simpa using h
  simp [List.lookup, e]
theorem wd_ns {K : PySem.W.Frag} {d : Addr} {es : Array DictEntry} {n : Nat} {kvs : List (Str × Int)} (h : K.lookup d = some ⟨.type "dict", none, .dict es n, #[]⟩) (p : Paired (fun (e : DictEntry) (kv : Str × Int) => ∃ t u, e.key = .str kv.1 t ∧ e.val = .int kv.2 u) es.toList kvs) (z : Str) :
    (∃ i u, kvs.lookup z = some i ∧ PySem.W.nsIn K d z = some (some (.int i u))) ∨ (kvs.lookup z = none ∧ PySem.W.nsIn K d z = some none) := by
  unfold PySem.W.nsIn
  rw [h]
  show (∃ i u, _ ∧ (match es.toList.find? (·.key.isStr z) with | some e => some (some e.val) | none => if es.toList.any (·.refKey) then none else some none) = _) ∨ (_ ∧ (match es.toList.find? (·.key.isStr z) with | some e => some (some e.val) | none => if es.toList.any (·.refKey) then none else some none) = _)
  generalize es.toList = l at p
  have hr : l.any (·.refKey) = false := by
    clear h
    induction p with
    | nil => rfl
    | cons q _ ih =>
      obtain ⟨t, u, hk, hv⟩ := q
      rw [List.any_cons, ih]
      unfold DictEntry.refKey
      rw [hk]
      rfl
  rw [hr]
  clear h hr
  induction p with
  | nil => exact .inr ⟨rfl, rfl⟩
  | @cons e kv l kvs q pr ih =>
    obtain ⟨k, v⟩ := kv
    obtain ⟨t, u, hk, hv⟩ := q
    dsimp only at hk hv
    by_cases e1 : z = k
    · subst e1
      refine .inl ⟨v, u, by simp [List.lookup], ?_⟩
      rw [List.find?_cons_of_pos (by rw [hk]; simp [Value.isStr])]
      show some (some e.val) = _
      rw [hv]
    · rw [List.find?_cons_of_neg (by rw [hk]; simp [Value.isStr]; exact fun z => e1 z.symm), lookup_put2 e1]
      exact ih
section
variable {X : Cx}
theorem op_inW : OpR X (compareOp .In) (fun x y H Q => ∃ (z : Str) (d : Addr) (kvs : List (Str × Int)), x = .str z ∧ y = .ref d ∧ WD X.K X.w d kvs ∧ Q (.bl (kvs.lookup z).isSome) H) := by
  intro pins s σ H x y v u Q I rx ry h
  obtain ⟨z, d, kvs, rfl, rfl, ⟨es, n, hl, hk, hp, low⟩, q⟩ := h
  rcases wd_ns hl hp z with ⟨i, t, e1, e2⟩ | ⟨e1, e2⟩
  · rw [e1] at q
    exact op_in_kd ⟨hl, hk, low⟩ pins s σ H _ _ v u Q I rx ry ⟨z, _, rfl, rfl, e2, q⟩
  · rw [e1] at q
    exact op_in_kd ⟨hl, hk, low⟩ pins s σ H _ _ v u Q I rx ry ⟨z, _, rfl, rfl, e2, q⟩
theorem ix_W : IxR X (fun x y H Q => ∃ (z : Str) (d : Addr) (kvs : List (Str × Int)) (i : Int), x = .ref d ∧ y = .str z ∧ WD X.K X.w d kvs ∧ kvs.lookup z = some i ∧ Q (.int i) H) := by
  intro value slice pins s σ H x y v u Q I rx ry h hs
  obtain ⟨z, d, kvs, i, rfl, rfl, ⟨es, n, hl, hk, hp, low⟩, e, q⟩ := h
  rcases wd_ns hl hp z with ⟨j, t, e1, e2⟩ | ⟨e1, e2⟩
  · rw [e] at e1
    cases e1
    exact ix_kdict value slice pins s σ H _ _ v u Q I rx ry ⟨d, z, .int i, rfl, rfl, ⟨es, n, _, hl, hk, e2, ⟨_, rfl⟩⟩, q⟩ hs
  · rw [e] at e1
    cases e1
end
end UL

set_option Elab.async false
set_option linter.all false
set_option maxRecDepth 100000
/-! own: the reader of expressions as a machine over pieces, without a heap -/
namespace UL
open PySem PySem.Spec PyProof.Rows L2 Evl TL

/-- the string of these signs -/
def ofL (l : List Nat) : Str := ⟨l.toArray⟩
theorem tl_ofL (l : List Nat) : tl (ofL l) = l := by simp [tl, ofL]
theorem ofL_tl (z : Str) : ofL (tl z) = z := by
  cases z
  simp [tl, ofL]
theorem ofL_inj {a b : List Nat} (h : ofL a = ofL b) : a = b := by rw [← tl_ofL a, h, tl_ofL]
/-- a node -/
inductive Nd where
  | name (w : Str)
  | call (w : Str) (os : List Nat)
  | op (w : Str) (os : List Nat)
  deriving DecidableEq
/-! ### cutting -/
def cutGo : List Nat → List Nat → List (List Nat)
  | p, [] => if p = [] then [] else [p]
  | p, c :: r => if c = 40 then (p ++ [c]) :: cutGo [] r else if c = 44 ∨ c = 41 then (if p = [] then [] else [p]) ++ [c] :: cutGo [] r else cutGo (p ++ [c]) r
theorem cutGo_nil (p : List Nat) : cutGo p [] = if p = [] then [] else [p] := by rw [cutGo]
theorem cutGo_cons (p : List Nat) (c : Nat) (r : List Nat) : cutGo p (c :: r) = if c = 40 then (p ++ [c]) :: cutGo [] r else if c = 44 ∨ c = 41 then (if p = [] then [] else [p]) ++ [c] :: cutGo [] r else cutGo (p ++ [c]) r := by rw [cutGo]
/-- no sign of these three -/
def plainL (w : List Nat) : Prop := ∀ c ∈ w, c ≠ 40 ∧ c ≠ 41 ∧ c ≠ 44
theorem cut_plain : ∀ (w p r : List Nat), plainL w → cutGo p (w ++ r) = cutGo (p ++ w) r
  | [], p, r, _ => by rw [List.nil_append, List.append_nil]
  | c :: w, p, r, h => by
    have hc := h c List.mem_cons_self
    rw [List.cons_append, cutGo_cons, if_neg hc.1, if_neg (by omega), cut_plain w _ r fun d hd => h d (List.mem_cons_of_mem _ hd), List.append_assoc]
    rfl
theorem cut_word {w : List Nat} (h : plainL w) (h0 : w ≠ []) : cutGo [] w = [w] := by
  have e := cut_plain w [] [] h
  rw [List.append_nil, List.nil_append] at e
  rw [e, cutGo_nil, if_neg h0]
theorem cut_open {w : List Nat} (h : plainL w) (r : List Nat) : cutGo [] (w ++ 40 :: r) = (w ++ [40]) :: cutGo [] r := by
  rw [cut_plain w [] _ h, List.nil_append, cutGo_cons, if_pos rfl]
theorem cut_at {c : Nat} (hc : c = 44 ∨ c = 41) : ∀ (t p r : List Nat), cutGo p (t ++ c :: r) = cutGo p t ++ [c] :: cutGo [] r
  | [], p, r => by
    rw [List.nil_append, cutGo_cons, if_neg (by omega), if_pos hc, cutGo_nil]
  | d :: t, p, r => by
    rw [List.cons_append, cutGo_cons, cutGo_cons]
    by_cases h1 : d = 40
    · rw [if_pos h1, if_pos h1, cut_at hc t [] r, List.cons_append]
    · rw [if_neg h1, if_neg h1]
      by_cases h2 : d = 44 ∨ d = 41
      · rw [if_pos h2, if_pos h2, cut_at hc t [] r, List.append_assoc]
        rfl
      · rw [if_neg h2, if_neg h2, cut_at hc t _ r]
/-! ### the machine -/
def opsT : List (Str × Int) := [("part", 1), ("pick", 2), ("then", 2)]
def oper (okw : Str → Bool) (w : Str) (os : List Nat) : Option Nd :=
  match opsT.lookup w with
  | some n => if (os.length : Int) = n then some (.op w os) else none
  | none => if okw w = true ∧ os.length ≤ 4 then some (.call w os) else none
theorem oper_at {okw : Str → Bool} {w : Str} {os : List Nat} {n : Int} (h : opsT.lookup w = some n) : oper okw w os = if (os.length : Int) = n then some (.op w os) else none := by
  unfold oper
  rw [h]
theorem oper_no {okw : Str → Bool} {w : Str} {os : List Nat} (h : opsT.lookup w = none) : oper okw w os = if okw w = true ∧ os.length ≤ 4 then some (.call w os) else none := by
  unfold oper
  rw [h]
theorem some_if {α : Type} {p : Prop} [Decidable p] {a b : α} (h : (if p then some a else none) = some b) : p ∧ a = b := by
  by_cases e : p
  · rw [if_pos e] at h
    exact ⟨e, Option.some.inj h⟩
  · rw [if_neg e] at h
    cases h
/-- the operations that wait, the innermost last -/
abbrev Wt := List (Str × List Nat)
def addTop (W : Wt) (n : Nat) : Wt := match W.getLast? with
  | none => W
  | some (w, os) => W.dropLast ++ [(w, os ++ [n])]
theorem addTop_snoc (W : Wt) (w : Str) (os : List Nat) (n : Nat) : addTop (W ++ [(w, os)]) n = W ++ [(w, os ++ [n])] := by
  unfold addTop
  rw [List.getLast?_concat, List.dropLast_concat]
theorem addTop_nil (n : Nat) : addTop [] n = [] := rfl
structure Rd where
  N : List Nd
  W : Wt
  b : Bool
def rstep (okw : Str → Bool) (s : Rd) (p : List Nat) : Option Rd :=
  if p = [44] then (if s.W = [] ∨ s.b = false then none else some ⟨s.N, s.W, false⟩)
  else if p = [41] then
    (match s.W.getLast? with
    | none => none
    | some (w, os) => if os ≠ [] ∧ s.b = false then none else
      match oper okw w os with
      | none => none
      | some nd => some ⟨s.N ++ [nd], addTop s.W.dropLast s.N.length, true⟩)
  else if s.b = true then none
  else if p.getLast? = some 40 then some ⟨s.N, s.W ++ [(ofL p.dropLast, [])], s.b⟩
  else if okw (ofL p) = true then some ⟨s.N ++ [.name (ofL p)], addTop s.W s.N.length, true⟩
  else none
def rrun (okw : Str → Bool) : Rd → List (List Nat) → Option Rd
  | s, [] => some s
  | s, p :: ps => (rstep okw s p).bind fun s' => rrun okw s' ps
theorem rrun_append (okw : Str → Bool) : ∀ (ps qs : List (List Nat)) (s : Rd), rrun okw s (ps ++ qs) = (rrun okw s ps).bind fun s' => rrun okw s' qs
  | [], qs, s => rfl
  | p :: ps, qs, s => by
    rw [List.cons_append, rrun, rrun]
    cases rstep okw s p with
    | none => rfl
    | some s' => exact rrun_append okw ps qs s'
/-- the text is that of an expression whose nodes, from the lo-th on, are ns -/
def GoodE (okw : Str → Bool) (t : List Nat) (lo : Nat) (ns : List Nd) : Prop :=
  ns ≠ [] ∧ ∀ N W, N.length = lo → rrun okw ⟨N, W, false⟩ (cutGo [] t) = some ⟨N ++ ns, addTop W (lo + ns.length - 1), true⟩
/-- texts behind one another -/
abbrev It1 := List Nat × List Nd
def Stk (okw : Str → Bool) : Nat → List It1 → Prop
  | _, [] => True
  | lo, (t, ns) :: r => GoodE okw t lo ns ∧ Stk okw (lo + ns.length) r
def flat (l : List It1) : List Nd := l.flatMap (·.2)
def rootsL : Nat → List It1 → List Nat
  | _, [] => []
  | lo, (_, ns) :: r => (lo + ns.length - 1) :: rootsL (lo + ns.length) r
theorem stk_append (okw : Str → Bool) : ∀ (a b : List It1) (lo : Nat), Stk okw lo (a ++ b) ↔ Stk okw lo a ∧ Stk okw (lo + (flat a).length) b
  | [], b, lo => by simp [Stk, flat]
  | (t, ns) :: a, b, lo => by
    show GoodE okw t lo ns ∧ Stk okw (lo + ns.length) (a ++ b) ↔ (GoodE okw t lo ns ∧ Stk okw (lo + ns.length) a) ∧ _
    rw [stk_append okw a b, show (flat ((t, ns) :: a)).length = ns.length + (flat a).length by simp [flat], ← Nat.add_assoc, and_assoc]
theorem roots_append : ∀ (a b : List It1) (lo : Nat), rootsL lo (a ++ b) = rootsL lo a ++ rootsL (lo + (flat a).length) b
  | [], b, lo => by simp [rootsL, flat]
  | (t, ns) :: a, b, lo => by
    show (lo + ns.length - 1) :: rootsL (lo + ns.length) (a ++ b) = (lo + ns.length - 1) :: rootsL (lo + ns.length) a ++ _
    rw [roots_append a b, show (flat ((t, ns) :: a)).length = ns.length + (flat a).length by simp [flat], ← Nat.add_assoc]
    rfl
theorem roots_len : ∀ (a : List It1) (lo : Nat), (rootsL lo a).length = a.length
  | [], _ => rfl
  | (t, ns) :: a, lo => by simp [rootsL, roots_len a]
def joinC : List (List Nat) → List Nat
  | [] => []
  | [t] => t
  | t :: u :: r => t ++ 44 :: joinC (u :: r)
theorem args_run (okw : Str → Bool) : ∀ (b : List It1) (lo : Nat) (N : List Nd) (W : Wt) (w : Str) (os : List Nat) (T : List Nat), b ≠ [] → Stk okw lo b → N.length = lo →
    rrun okw ⟨N, W ++ [(w, os)], false⟩ (cutGo [] (joinC (b.map (·.1)) ++ 41 :: T)) = rrun okw ⟨N ++ flat b, W ++ [(w, os ++ rootsL lo b)], true⟩ ([41] :: cutGo [] T)
  | [], _, _, _, _, _, _, h, _, _ => absurd rfl h
  | [(t, ns)], lo, N, W, w, os, T, _, hs, hN => by
    show rrun okw _ (cutGo [] (t ++ 41 :: T)) = _
    rw [cut_at (.inr rfl), rrun_append, hs.1.2 N _ hN, addTop_snoc]
    show rrun okw ⟨N ++ ns, _, true⟩ _ = rrun okw ⟨N ++ flat [(t, ns)], _, true⟩ _
    rw [show flat [(t, ns)] = ns by simp [flat]]
    rfl
  | (t, ns) :: (t2, ns2) :: b, lo, N, W, w, os, T, _, hs, hN => by
    show rrun okw _ (cutGo [] ((t ++ 44 :: joinC (((t2, ns2) :: b).map (·.1))) ++ 41 :: T)) = _
    rw [List.append_assoc, List.cons_append, cut_at (.inl rfl), rrun_append, hs.1.2 N _ hN, addTop_snoc]
    show rrun okw ⟨N ++ ns, W ++ [(w, os ++ [lo + ns.length - 1])], true⟩ ([44] :: cutGo [] _) = _
    rw [rrun]
    have e : rstep okw ⟨N ++ ns, W ++ [(w, os ++ [lo + ns.length - 1])], true⟩ [44] = some ⟨N ++ ns, W ++ [(w, os ++ [lo + ns.length - 1])], false⟩ := by
      unfold rstep
      rw [if_pos rfl, if_neg (by simp)]
    rw [e]
    show rrun okw ⟨N ++ ns, W ++ [(w, os ++ [lo + ns.length - 1])], false⟩ _ = _
    rw [args_run okw ((t2, ns2) :: b) (lo + ns.length) (N ++ ns) W w _ T (by simp) hs.2 (by rw [List.length_append, hN])]
    rw [List.append_assoc, List.append_assoc, show flat ((t, ns) :: (t2, ns2) :: b) = ns ++ flat ((t2, ns2) :: b) by simp [flat]]
    rfl
theorem open_step (okw : Str → Bool) (N : List Nd) (W : Wt) (w : List Nat) (hw : plainL w) : rstep okw ⟨N, W, false⟩ (w ++ [40]) = some ⟨N, W ++ [(ofL w, [])], false⟩ := by
  unfold rstep
  rw [if_neg (fun h => by have := congrArg List.getLast? h; simp at this), if_neg (fun h => by have := congrArg List.getLast? h; simp at this), if_neg (by simp), if_pos (by simp), List.dropLast_concat]
theorem close_step (okw : Str → Bool) (N : List Nd) (W : Wt) (w : Str) (os : List Nat) (b : Bool) (nd : Nd) (hb : os = [] ∨ b = true) (ho : oper okw w os = some nd) : rstep okw ⟨N, W ++ [(w, os)], b⟩ [41] = some ⟨N ++ [nd], addTop W N.length, true⟩ := by
  unfold rstep
  rw [if_neg (by simp), if_pos rfl]
  show (match (W ++ [(w, os)]).getLast? with | none => none | some (w, os) => _) = _
  rw [List.getLast?_concat]
  show (if os ≠ [] ∧ b = false then none else _) = _
  rw [if_neg (by rcases hb with h | h <;> simp [h]), ho, List.dropLast_concat]
/-- an operation with its operands -/
theorem good_op {okw : Str → Bool} {lo : Nat} {b : List It1} {w : List Nat} {nd : Nd} (hs : Stk okw lo b) (hw : plainL w) (ho : oper okw (ofL w) (rootsL lo b) = some nd) :
    GoodE okw (w ++ 40 :: joinC (b.map (·.1)) ++ [41]) lo (flat b ++ [nd]) := by
  refine ⟨by simp, fun N W hN => ?_⟩
  rw [List.append_assoc, List.cons_append, cut_open hw, rrun, open_step okw N W w hw]
  show rrun okw ⟨N, W ++ [(ofL w, [])], false⟩ _ = _
  cases b with
  | nil =>
    show rrun okw _ (cutGo [] [41]) = _
    rw [show cutGo [] [41] = [[41]] by rfl, rrun, close_step okw N W (ofL w) [] false nd (.inl rfl) ho]
    show some (Rd.mk (N ++ [nd]) (addTop W N.length) true) = some (Rd.mk (N ++ ([] ++ [nd])) (addTop W (lo + ([] ++ [nd]).length - 1)) true)
    rw [hN]
    rfl
  | cons i r =>
    rw [args_run okw (i :: r) lo N W (ofL w) [] [] (by simp) hs hN, rrun, List.nil_append, close_step okw _ W (ofL w) _ true nd (.inr rfl) ho]
    show some (Rd.mk (N ++ flat (i :: r) ++ [nd]) (addTop W (N ++ flat (i :: r)).length) true) = _
    rw [List.append_assoc, List.length_append, hN, List.length_append]
    rfl
theorem good_name {okw : Str → Bool} {lo : Nat} {w : List Nat} (hw : plainL w) (h0 : w ≠ []) (hk : okw (ofL w) = true) : GoodE okw w lo [.name (ofL w)] := by
  refine ⟨by simp, fun N W hN => ?_⟩
  rw [cut_word hw h0, rrun]
  have hl : w.getLast? ≠ some 40 := fun e => (hw 40 (List.mem_of_getLast? e)).1 rfl
  have e : rstep okw ⟨N, W, false⟩ w = some ⟨N ++ [.name (ofL w)], addTop W N.length, true⟩ := by
    unfold rstep
    rw [if_neg (fun h => (hw 44 (by rw [h]; simp)).2.2 rfl), if_neg (fun h => (hw 41 (by rw [h]; simp)).2.1 rfl), if_neg (by simp), if_neg hl, if_pos hk]
  rw [e]
  show some (Rd.mk _ (addTop W N.length) true) = _
  rw [hN]
  rfl
theorem cut_count : ∀ (t p : List Nat), (cutGo p t).length ≤ 2 * t.length + 1
  | [], p => by
    rw [cutGo_nil]
    split <;> simp
  | c :: t, p => by
    rw [cutGo_cons]
    have h1 := cut_count t []
    have h2 := cut_count t (p ++ [c])
    rw [List.length_cons]
    split
    · rw [List.length_cons]
      omega
    · split
      · rw [List.length_append, List.length_cons]
        split
        · rw [List.length_nil]
          omega
        · rw [List.length_singleton]
          omega
      · omega
theorem cut_mem : ∀ (t p : List Nat), ∀ x ∈ cutGo p t, x ≠ [] ∧ x.length ≤ p.length + t.length
  | [], p, x, hx => by
    rw [cutGo_nil] at hx
    split at hx
    · cases hx
    · rename_i h
      rw [List.mem_singleton.mp hx]
      exact ⟨h, by omega⟩
  | c :: t, p, x, hx => by
    rw [cutGo_cons] at hx
    rw [List.length_cons]
    have i1 := cut_mem t []
    have i2 := cut_mem t (p ++ [c])
    split at hx
    · rcases List.mem_cons.mp hx with h | h
      · rw [h]
        exact ⟨by simp, by rw [List.length_append, List.length_singleton]; omega⟩
      · have := i1 x h
        exact ⟨this.1, by have := this.2; simp at this; omega⟩
    · split at hx
      · rcases List.mem_append.mp hx with h | h
        · split at h
          · cases h
          · rename_i h0
            rw [List.mem_singleton.mp h]
            exact ⟨h0, by omega⟩
        · rcases List.mem_cons.mp h with h | h
          · rw [h]
            exact ⟨by simp, by rw [List.length_singleton]; omega⟩
          · have := i1 x h
            exact ⟨this.1, by have := this.2; simp at this; omega⟩
      · have := i2 x hx
        exact ⟨this.1, by have := this.2; rw [List.length_append, List.length_singleton] at this; omega⟩
theorem last_at {α : Type} {l : List α} {c : α} (h : l.getLast? = some c) : atI l (-1) = some c := by
  have h0 : l ≠ [] := fun e => by rw [e] at h; cases h
  have hp : 0 < l.length := List.length_pos_iff.mpr h0
  unfold atI
  have e : ixN l.length (-1) = some (l.length - 1) := by
    unfold ixN
    rw [if_neg (by decide), if_pos (by omega)]
    congr 1
    omega
  rw [e]
  show l[l.length - 1]? = some c
  rw [← List.getLast?_eq_getElem?]
  exact h
theorem cut_last (l : List Nat) : cutS (ofL l) none (some (-1)) = ofL l.dropLast := by
  have hl : (ofL l).length = l.length := by rw [len_tl, tl_ofL]
  unfold cutS
  rw [HT.sIx_none, hl, show HT.sIx l.length l.length (some (-1)) = l.length - 1 by show (if (-1 : Int) < 0 then (-1 + (l.length : Int)).toNat else min (-1 : Int).toNat l.length) = _; rw [if_pos (by decide)]; omega, List.drop_zero, Nat.sub_zero]
  have e : (ofL l).cps.toList = l := tl_ofL l
  rw [e, ← List.dropLast_eq_take]
  rfl
/-- two lists, part by part -/
inductive Al2 {α β : Type} (R : α → β → Prop) : List α → List β → Prop
  | nil : Al2 R [] []
  | cons {a : α} {b : β} {as : List α} {bs : List β} : R a b → Al2 R as bs → Al2 R (a :: as) (b :: bs)
theorem Al2.imp {α β : Type} {R S : α → β → Prop} {as : List α} {bs : List β} (h : Al2 R as bs) (k : ∀ a b, R a b → S a b) : Al2 S as bs := by
  induction h with
  | nil => exact .nil
  | cons h _ ih => exact .cons (k _ _ h) ih
theorem Al2.snoc {α β : Type} {R : α → β → Prop} {as : List α} {bs : List β} {a : α} {b : β} (h : Al2 R as bs) (k : R a b) : Al2 R (as ++ [a]) (bs ++ [b]) := by
  induction h with
  | nil => exact .cons k .nil
  | cons h _ ih => exact .cons h ih
theorem Al2.len {α β : Type} {R : α → β → Prop} {as : List α} {bs : List β} (h : Al2 R as bs) : as.length = bs.length := by
  induction h with
  | nil => rfl
  | cons _ _ ih => rw [List.length_cons, List.length_cons, ih]
theorem Al2.get {α β : Type} {R : α → β → Prop} {as : List α} {bs : List β} (h : Al2 R as bs) : ∀ (i : Nat) (a : α), as[i]? = some a → ∃ b, bs[i]? = some b ∧ R a b := by
  induction h with
  | nil =>
    intro i a h
    cases h
  | cons h _ ih =>
    intro i a e
    cases i with
    | zero =>
      cases e
      exact ⟨_, rfl, h⟩
    | succ i => exact ih i a e
theorem Al2.unsnoc {α β : Type} {R : α → β → Prop} {as : List α} {bs : List β} {b : β} (h : Al2 R as (bs ++ [b])) : ∃ as' a, as = as' ++ [a] ∧ Al2 R as' bs ∧ R a b := by
  induction bs generalizing as with
  | nil =>
    cases h with
    | cons h1 h2 =>
      cases h2
      exact ⟨[], _, rfl, .nil, h1⟩
  | cons c bs ih =>
    cases h with
    | cons h1 h2 =>
      obtain ⟨as', a, rfl, h3, h4⟩ := ih h2
      exact ⟨_ :: as', a, rfl, .cons h1 h3, h4⟩
theorem rstep_comma {okw : Str → Bool} {s s' : Rd} (h : rstep okw s [44] = some s') : s.W ≠ [] ∧ s.b = true ∧ s' = ⟨s.N, s.W, false⟩ := by
  unfold rstep at h
  rw [if_pos rfl] at h
  by_cases e : s.W = [] ∨ s.b = false
  · rw [if_pos e] at h
    cases h
  · rw [if_neg e] at h
    exact ⟨fun z => e (.inl z), by cases hb : s.b <;> simp_all, (Option.some.inj h).symm⟩
theorem rstep_close {okw : Str → Bool} {s s' : Rd} (h : rstep okw s [41] = some s') : ∃ W w os nd, s.W = W ++ [(w, os)] ∧ (os = [] ∨ s.b = true) ∧ oper okw w os = some nd ∧ s' = ⟨s.N ++ [nd], addTop W s.N.length, true⟩ := by
  unfold rstep at h
  rw [if_neg (by simp), if_pos rfl] at h
  rcases List.eq_nil_or_concat s.W with e | ⟨W, ⟨w, os⟩, e⟩
  · rw [e] at h
    cases h
  · rw [List.concat_eq_append] at e
    rw [e, List.getLast?_concat, List.dropLast_concat] at h
    have h : (if os ≠ [] ∧ s.b = false then none else match oper okw w os with | none => none | some nd => some (Rd.mk (s.N ++ [nd]) (addTop W s.N.length) true)) = some s' := h
    by_cases e2 : os ≠ [] ∧ s.b = false
    · rw [if_pos e2] at h
      cases h
    · rw [if_neg e2] at h
      cases ho : oper okw w os with
      | none =>
        rw [ho] at h
        cases h
      | some nd =>
        rw [ho] at h
        refine ⟨W, w, os, nd, e, ?_, ho, (Option.some.inj h).symm⟩
        cases os with
        | nil => exact .inl rfl
        | cons a r =>
          refine .inr ?_
          cases hb : s.b with
          | true => rfl
          | false => exact absurd ⟨by simp, hb⟩ e2
theorem rstep_else {okw : Str → Bool} {s s' : Rd} {p : List Nat} (h1 : p ≠ [44]) (h2 : p ≠ [41]) (h : rstep okw s p = some s') : s.b = false ∧
    ((p.getLast? = some 40 ∧ s' = ⟨s.N, s.W ++ [(ofL p.dropLast, [])], false⟩) ∨ (p.getLast? ≠ some 40 ∧ okw (ofL p) = true ∧ s' = ⟨s.N ++ [.name (ofL p)], addTop s.W s.N.length, true⟩)) := by
  unfold rstep at h
  rw [if_neg h1, if_neg h2] at h
  cases hb : s.b with
  | true =>
    rw [hb, if_pos rfl] at h
    cases h
  | false =>
    rw [hb, if_neg (by simp)] at h
    refine ⟨rfl, ?_⟩
    by_cases e : p.getLast? = some 40
    · rw [if_pos e] at h
      exact .inl ⟨e, (Option.some.inj h).symm⟩
    · rw [if_neg e] at h
      by_cases e2 : okw (ofL p) = true
      · rw [if_pos e2] at h
        exact .inr ⟨e, e2, (Option.some.inj h).symm⟩
      · rw [if_neg e2] at h
        cases h
/-! ### what the machine's nodes are -/
def opsOf : Nd → List Nat
  | .name _ => []
  | .call _ os => os
  | .op _ os => os
def WfNd : Nd → Prop
  | .name _ => True
  | .call _ os => os.length ≤ 4
  | .op w os => opsT.lookup w = some (os.length : Int)
def WfN (N : List Nd) : Prop := ∀ j nd, N[j]? = some nd → WfNd nd ∧ ∀ n ∈ opsOf nd, n < j
structure WfR (s : Rd) : Prop where
  wn : WfN s.N
  ww : ∀ y ∈ s.W, ∀ n ∈ y.2, n < s.N.length
theorem wfN_snoc {N : List Nd} {nd : Nd} (h : WfN N) (h1 : WfNd nd) (h2 : ∀ n ∈ opsOf nd, n < N.length) : WfN (N ++ [nd]) := by
  intro j d hj
  by_cases e : j < N.length
  · rw [List.getElem?_append_left e] at hj
    exact h j d hj
  · rw [List.getElem?_append_right (by omega)] at hj
    obtain ⟨h3, h4⟩ := List.getElem?_eq_some_iff.mp hj
    rw [List.length_singleton] at h3
    have e2 : j = N.length := by omega
    subst e2
    simp at h4
    subst h4
    exact ⟨h1, h2⟩
theorem oper_wf {okw : Str → Bool} {w : Str} {os : List Nat} {nd : Nd} (h : oper okw w os = some nd) : WfNd nd ∧ opsOf nd = os := by
  cases hl : opsT.lookup w with
  | some n =>
    rw [oper_at hl] at h
    obtain ⟨e, rfl⟩ := some_if h
    exact ⟨by show opsT.lookup w = some _; rw [hl, e], rfl⟩
  | none =>
    rw [oper_no hl] at h
    obtain ⟨e, rfl⟩ := some_if h
    exact ⟨e.2, rfl⟩
theorem addTop_wf {W : Wt} {n m : Nat} (h : ∀ y ∈ W, ∀ k ∈ y.2, k < n) (hn : n < m) : ∀ y ∈ addTop W n, ∀ k ∈ y.2, k < m := by
  rcases List.eq_nil_or_concat W with e | ⟨V, ⟨w, os⟩, e⟩
  · rw [e]
    intro y hy
    cases hy
  · rw [List.concat_eq_append] at e
    subst e
    rw [addTop_snoc]
    intro y hy k hk
    rcases List.mem_append.mp hy with h1 | h1
    · have := h y (List.mem_append_left _ h1) k hk
      omega
    · rw [List.mem_singleton.mp h1] at hk
      rcases List.mem_append.mp hk with h2 | h2
      · have := h (w, os) (by simp) k h2
        omega
      · rw [List.mem_singleton.mp h2]
        exact hn
theorem rstep_wf {okw : Str → Bool} {s s' : Rd} {p : List Nat} (R : WfR s) (h : rstep okw s p = some s') : WfR s' := by
  by_cases e1 : p = [44]
  · subst e1
    obtain ⟨_, _, rfl⟩ := rstep_comma h
    exact ⟨R.wn, R.ww⟩
  · by_cases e2 : p = [41]
    · subst e2
      obtain ⟨W, w, os, nd, hW, _, hop, rfl⟩ := rstep_close h
      obtain ⟨h1, h2⟩ := oper_wf hop
      refine ⟨wfN_snoc R.wn h1 (by rw [h2]; exact R.ww (w, os) (by rw [hW]; simp)), ?_⟩
      exact addTop_wf (fun y hy => R.ww y (by rw [hW]; exact List.mem_append_left _ hy)) (by rw [List.length_append, List.length_singleton]; omega)
    · obtain ⟨_, ⟨_, rfl⟩ | ⟨_, _, rfl⟩⟩ := rstep_else e1 e2 h
      · refine ⟨R.wn, fun y hy => ?_⟩
        rcases List.mem_append.mp hy with h1 | h1
        · exact R.ww y h1
        · rw [List.mem_singleton.mp h1]
          intro n hn
          cases hn
      · exact ⟨wfN_snoc R.wn trivial (fun n hn => by cases hn), addTop_wf R.ww (by rw [List.length_append, List.length_singleton]; omega)⟩
theorem rrun_wf {okw : Str → Bool} : ∀ {ps : List (List Nat)} {s s' : Rd}, WfR s → rrun okw s ps = some s' → WfR s'
  | [], s, s', R, h => by
    obtain rfl := Option.some.inj h
    exact R
  | p :: ps, s, s', R, h => by
    rw [rrun] at h
    obtain ⟨t, h1, h2⟩ := Option.bind_eq_some_iff.mp h
    exact rrun_wf (rstep_wf R h1) h2
/-- the lowest nodes of the ranges -/
def fstOf (fs : List Nat) (nd : Nd) : Nat := match opsOf nd with
  | [] => fs.length
  | n :: _ => fs.getD n 0
def firstsL (ns : List Nd) : List Nat := ns.foldl (fun fs nd => fs ++ [fstOf fs nd]) []
theorem firstsL_snoc (ns : List Nd) (nd : Nd) : firstsL (ns ++ [nd]) = firstsL ns ++ [fstOf (firstsL ns) nd] := by
  unfold firstsL
  rw [List.foldl_append]
  rfl
theorem firstsL_len (ns : List Nd) : (firstsL ns).length = ns.length := by
  rcases List.eq_nil_or_concat ns with e | ⟨r, d, e⟩
  · rw [e]; rfl
  · rw [List.concat_eq_append] at e
    subst e
    rw [firstsL_snoc, List.length_append, List.length_append, firstsL_len r]
    rfl
termination_by ns.length
decreasing_by simp_all
/-- their words -/
def WkNd (okw : Str → Bool) : Nd → Prop
  | .name w => okw w = true
  | .call w _ => okw w = true
  | .op _ _ => True
theorem oper_wk {okw : Str → Bool} {w : Str} {os : List Nat} {nd : Nd} (h : oper okw w os = some nd) : WkNd okw nd := by
  cases hl : opsT.lookup w with
  | some n =>
    rw [oper_at hl] at h
    obtain ⟨e, rfl⟩ := some_if h
    trivial
  | none =>
    rw [oper_no hl] at h
    obtain ⟨e, rfl⟩ := some_if h
    exact e.1
theorem rstep_wk {okw : Str → Bool} {s s' : Rd} {p : List Nat} (R : ∀ nd ∈ s.N, WkNd okw nd) (h : rstep okw s p = some s') : ∀ nd ∈ s'.N, WkNd okw nd := by
  have snoc : ∀ {nd : Nd}, WkNd okw nd → ∀ d ∈ s.N ++ [nd], WkNd okw d := fun {nd} h d hd => by
    rcases List.mem_append.mp hd with h1 | h1
    · exact R d h1
    · rw [List.mem_singleton.mp h1]
      exact h
  by_cases e1 : p = [44]
  · subst e1
    obtain ⟨_, _, rfl⟩ := rstep_comma h
    exact R
  · by_cases e2 : p = [41]
    · subst e2
      obtain ⟨W, w, os, nd, hW, _, hop, rfl⟩ := rstep_close h
      exact snoc (oper_wk hop)
    · obtain ⟨_, ⟨_, rfl⟩ | ⟨_, hk, rfl⟩⟩ := rstep_else e1 e2 h
      · exact R
      · exact snoc hk
theorem rrun_wk {okw : Str → Bool} : ∀ {ps : List (List Nat)} {s s' : Rd}, (∀ nd ∈ s.N, WkNd okw nd) → rrun okw s ps = some s' → ∀ nd ∈ s'.N, WkNd okw nd
  | [], s, s', R, h => by
    obtain rfl := Option.some.inj h
    exact R
  | p :: ps, s, s', R, h => by
    rw [rrun] at h
    obtain ⟨t, h1, h2⟩ := Option.bind_eq_some_iff.mp h
    exact rrun_wk (rstep_wk R h1) h2
/-- a whole text -/
theorem good_run {okw : Str → Bool} {t : List Nat} {ns : List Nd} (g : GoodE okw t 0 ns) : rrun okw ⟨[], [], false⟩ (cutGo [] t) = some ⟨ns, [], true⟩ := by
  have h := g.2 [] [] rfl
  rw [List.nil_append] at h
  exact h
theorem good_wf {okw : Str → Bool} {t : List Nat} {ns : List Nd} (g : GoodE okw t 0 ns) : WfN ns ∧ ∀ nd ∈ ns, WkNd okw nd :=
  ⟨(rrun_wf (s := ⟨[], [], false⟩) ⟨(fun j nd h => by cases h), (fun y hy => by cases hy)⟩ (good_run g)).wn, rrun_wk (s := ⟨[], [], false⟩) (fun nd h => by cases h) (good_run g)⟩
end UL

set_option Elab.async false
set_option linter.all false
set_option maxRecDepth 100000
/-! own: zip of two things of which each is a list or a tuple -/
namespace UL
open PySem PySem.Spec PyProof.Rows L2 Evl TL
/-- a tuple (true) or a list (false) -/
def SqK (K : PySem.W.Frag) : Bool → Hp → Addr → List V → Prop
  | true => SqT K
  | false => SqL K
def IterK : Bool → Heap → Addr → Addr → Nat → Prop
  | true => fun h it a i => h.IsTupleIter it a i
  | false => fun h it a i => h.IsListIter it a i
def HasK : Bool → Heap → Addr → Array Value → Prop
  | true => fun h a xs => h.IsTuple a xs
  | false => fun h a xs => h.IsList a xs
theorem IterK.cell : ∀ {t : Bool} {h : Heap} {it a : Addr} {i : Nat}, IterK t h it a i → ∃ o, h.get? it = some o ∧ ∀ v, o.data ≠ .cell v
  | true, _, _, _, _, ⟨o, e, _, d⟩ => ⟨o, e, fun v q => by rw [d] at q; cases q⟩
  | false, _, _, _, _, ⟨o, e, _, d⟩ => ⟨o, e, fun v q => by rw [d] at q; cases q⟩
theorem IterK.kept : ∀ {t : Bool} {h h' : Heap} {it a : Addr} {i : Nat}, IterK t h it a i → (∀ o, h.get? it = some o → h'.get? it = some o) → IterK t h' it a i
  | true, _, _, _, _, _, x, k => Heap.IsTupleIter.at x k
  | false, _, _, _, _, _, x, k => Heap.IsListIter.at x k
theorem drawsK {prog : Program} {w : World} {A : Around} (hh : A.handled = none) (it a : Addr) (hne : a ≠ it) (xs : Array Value) :
    ∀ t : Bool, Draws prog w A it [it, a] xs.size (fun i v => xs[i]? = some v) (fun i h => IterK t h it a i ∧ HasK t h a xs)
  | true => Draws.tuple hh it a hne xs
  | false => Draws.list hh it a hne xs
theorem seqK {X : Cx} {pins : List (Addr × Obj)} {σ : L2.St} {H : Hp} {s : Shared} {a : Addr} {xs : List V} (I : Inv X pins σ H s) : ∀ {t : Bool}, SqK X.K t H a xs → ∃ its : List Value, Vals xs its ∧ HasK t s.heap a its.toArray ∧ a < s.heap.objs.size
  | true, h => by
    obtain ⟨its, r, p, _⟩ := I.tuple h
    obtain ⟨o, e, _⟩ := id p
    exact ⟨its, r, p, Heap.lt_size e⟩
  | false, h => by
    obtain ⟨its, r, p, _⟩ := I.list h
    exact ⟨its, r, p.isList, p.lt⟩
theorem seqK_inj {X : Cx} {pins : List (Addr × Obj)} {σ : L2.St} {H : Hp} {s : Shared} {a : Addr} {xs ys : List V} (I : Inv X pins σ H s) : ∀ {t : Bool}, SqK X.K t H a xs → SqK X.K t H a ys → xs = ys
  | true, h, h' => I.tuple_inj h h'
  | false, h, h' => I.list_inj h h'
theorem beginsK (a : Addr) (xs : Array Value) : ∀ t : Bool, ∃ o, Begins (.ref a) o (fun h => HasK t h a xs) ∧ ∀ (h : Heap) (it : Addr), h.get? it = some o → IterK t h it a 0
  | true => ⟨_, begins_tuple a xs, fun h it e => ⟨_, e, rfl, rfl⟩⟩
  | false => ⟨_, begins_list a xs, fun h it e => ⟨_, e, rfl, rfl⟩⟩
/-- the two as they stand at each turn, the items in new pairs -/
def ItzK (K : PySem.W.Frag) (t u : Bool) (a b : Addr) : It where
  go := fun i H => ∃ (xs ys : List V) (x y : V), SqK K t H a xs ∧ SqK K u H b ys ∧ xs[i]? = some x ∧ ys[i]? = some y
  yld := fun i H v H' => ∃ T x y, v = .ref T ∧ H T = none ∧ H' = upd H T (.tup [x, y]) ∧ (∀ xs, SqK K t H a xs → xs[i]? = some x) ∧ ∀ ys, SqK K u H b ys → ys[i]? = some y
  stop := fun i H => ∃ xs ys : List V, SqK K t H a xs ∧ SqK K u H b ys ∧ i = min xs.length ys.length
theorem in5 {c z TI TO i1 i2 : Addr} {p : Addr → Prop} (h : c ∈ [z, TI, TO, i1, i2]) (h1 : p z) (h2 : p TI) (h3 : p TO) (h4 : p i1) (h5 : p i2) : p c := by
  simp only [List.mem_cons, List.not_mem_nil, or_false] at h
  rcases h with rfl | rfl | rfl | rfl | rfl <;> assumption
theorem turn_zipK {P : Program} {w : World} {K : PySem.W.Frag} {elts : List Expr} {kk : Nat} {tpos : Pos} {t u : Bool} {a b z TI TO i1 i2 : Addr} (D : ZipSep2 z TI TO i1 i2 [i1, a] [i2, b]) (h1a : a ≠ i1) (h2b : b ≠ i2) :
    Turn P w K (.Tuple elts kk tpos) (ItzK K t u a b) [z, TI, TO, i1, i2] z (fun i h => IsZip h z TI TO .none ∧ IsTupOf2 h TI (.ref i1) (.ref i2) ∧ (∃ x y, IsTupOf2 h TO x y) ∧ IterK t h i1 a i ∧ IterK u h i2 b i) where
  mem := List.mem_cons_self
  obj := fun i h st c hc => by
    obtain ⟨hz, hTI, ⟨x, y, hTO⟩, h1, h2⟩ := st
    exact in5 (p := fun c => ∃ o, h.get? c = some o ∧ ∀ v, o.data ≠ .cell v) hc ⟨_, hz, fun v q => nomatch q⟩ ⟨_, hTI, fun v q => nomatch q⟩ ⟨_, hTO, fun v q => nomatch q⟩ h1.cell h2.cell
  keep := fun i h h' st k => by
    obtain ⟨hz, hTI, ⟨x, y, hTO⟩, h1, h2⟩ := st
    exact ⟨k z (by simp) _ hz, k TI (by simp) _ hTI, ⟨x, y, k TO (by simp) _ hTO⟩, h1.kept fun o q => k i1 (by simp) o q, h2.kept fun o q => k i2 (by simp) o q⟩
  item := by
    intro X hP hw hK hc i pins s σ H E I hf st hg
    subst hP hw hK
    obtain ⟨hz, hTI, ⟨x0, y0, hTO⟩, h1, h2⟩ := st
    obtain ⟨xs, ys, x, y, hqx, hqy, hx, hy⟩ := hg
    obtain ⟨its, rv, p, _⟩ := seqK I hqx
    obtain ⟨its2, rv2, p2, _⟩ := seqK I hqy
    have l1 := rv.length
    have l2 := rv2.length
    have li := (List.getElem?_eq_some_iff.mp hx).1
    have lj := (List.getElem?_eq_some_iff.mp hy).1
    have D1 := drawsK (prog := X.prog) (w := X.w) (A := X.A.in1) (I.ok.hd hc) i1 a h1a its.toArray t
    have D2 := drawsK (prog := X.prog) (w := X.w) (A := X.A.in1) (I.ok.hd hc) i2 b h2b its2.toArray u
    refine wpAny_pyNext_zipD2_item D D1 D2 hz hTI hTO ⟨h1, p⟩ ⟨h2, p2⟩ (by simp; omega) (by simp; omega) fun v1 v2 h' tk q1 q2 z' TO' s1 s2 hT hsz hk => ?_
    obtain ⟨u1, hu1, ru1⟩ := rv.get hx
    obtain ⟨u2, hu2, ru2⟩ := rv2.get hy
    obtain rfl : v1 = u1 := by simpa [hu1] using q1.symm
    obtain rfl : v2 = u2 := by simpa [hu2] using q2.symm
    refine ⟨_, rfl, wpAny_letOwnedTupleGo_zip (s := { s with heap := h', toks := tk }) z' fun h'' z'' sb => ?_⟩
    have zl : z < s.heap.objs.size := Heap.lt_size hz
    have lt5 : ∀ c ∈ [z, TI, TO, i1, i2], c < s.heap.objs.size := fun c hc => by
      obtain ⟨_, e1, _⟩ := h1.cell
      obtain ⟨_, e2, _⟩ := h2.cell
      exact in5 (p := fun c => c < s.heap.objs.size) hc zl (Heap.lt_size hTI) (Heap.lt_size hTO) (Heap.lt_size e1) (Heap.lt_size e2)
    have hT2 := (sb.2 _ (Nat.ne_of_gt zl)).trans hT
    have off : ∀ c o, c ∉ [z, TI, TO, i1, i2] → s.heap.get? c = some o → h''.get? c = some o := fun c o hb q => by
      simp only [List.mem_cons, List.not_mem_nil, or_false, not_or] at hb
      exact (sb.2 c hb.1).trans (hk c o hb.1 hb.2.2.1 hb.2.2.2.1 hb.2.2.2.2 q)
    have new : ObjOk X.prog X.w (upd H s.heap.objs.size (.tup [x, y])) h'' s.heap.objs.size (.tup [x, y]) := ⟨by show 2 ≤ sizeLine; decide, [v1, v2], .cons ru1 (.cons ru2 .nil), ⟨_, hT2, rfl, _, rfl⟩⟩
    have I1 : Inv X pins σ (upd H s.heap.objs.size (.tup [x, y])) { s with heap := h'', toks := tk } := I.turnedNew (ch := [z, TI, TO, i1, i2]) off hf (Nat.le_refl _) new
    refine ⟨.ref s.heap.objs.size, _, I1, rfl, ⟨_, x, y, rfl, I.hok.fresh (Nat.le_refl _), rfl, fun l hl => by rw [seqK_inj I hl hqx]; exact hx, fun l hl => by rw [seqK_inj I hl hqy]; exact hy⟩, ⟨z'', ?_, ⟨v1, v2, (sb.2 _ D.TOz).trans TO'⟩, ?_, ?_⟩, fun c hcm => ?_⟩
    · exact (sb.2 _ D.TIz).trans (hk _ _ D.TIz D.TITO D.TIi1 D.TIi2 hTI)
    · exact s1.1.kept fun o q => (sb.2 _ D.zi1.symm).trans q
    · exact s2.1.kept fun o q => (sb.2 _ D.zi2.symm).trans q
    · rw [upd_ne (Nat.ne_of_lt (lt5 c hcm))]
      exact (hf c hcm).1
  done := by
    intro X hP hw hK hc i pins s σ H E I hf st hg
    subst hP hw hK
    obtain ⟨hz, hTI, ⟨x0, y0, hTO⟩, h1, h2⟩ := st
    obtain ⟨xs, ys, hqx, hqy, rfl⟩ := hg
    obtain ⟨its, rv, p, _⟩ := seqK I hqx
    obtain ⟨its2, rv2, p2, _⟩ := seqK I hqy
    have l1 := rv.length
    have l2 := rv2.length
    have D1 := drawsK (prog := X.prog) (w := X.w) (A := X.A.in1) (I.ok.hd hc) i1 a h1a its.toArray t
    have D2 := drawsK (prog := X.prog) (w := X.w) (A := X.A.in1) (I.ok.hd hc) i2 b h2b its2.toArray u
    refine wpAny_pyNext_zipD2_end D D1 D2 hz hTI hTO ⟨h1, p⟩ ⟨h2, p2⟩ (by simp; omega) (by simp; omega) (by simp; omega) fun h' tk hk => ⟨rfl, I.turnedL (t' := tk) (ch := [z, TI, TO, i1, i2]) (fun c o hb q => ?_) hf⟩
    simp only [List.mem_cons, List.not_mem_nil, or_false, not_or] at hb
    exact hk c o hb.1 hb.2.2.1 hb.2.2.2.1 hb.2.2.2.2 q
  self := fun A i s Q E st h => wpAny_pyIter_zip st.1 h
def iZipK (K : PySem.W.Frag) (ta : TA) : TI := fun σ H R => ta σ H fun vs H1 => ∃ a b xs ys t u, vs = [.ref a, .ref b] ∧ SqK K t H1 a xs ∧ SqK K u H1 b ys ∧ R (ItzK K t u a b) H1
theorem pi_zipK {X : Cx} {e e2 : Expr} {ta : TA} {p pos tpos : Pos} {elts : List Expr} {kk : Nat} (hg : Gl X "zip") (hm : X.mg "zip" = none) (ha : PA X [e, e2] ta)
    (hs : starEach [e, e2] X.env = (false, eval e X.env) :: starEach [e2] X.env := by rfl) (hpl : (backTo pos (starEach [e2] X.env)).any (·.1) = false := by rfl) :
    PI X (.Tuple elts kk tpos) (.Call (.Name "zip" p) [e, e2] [] pos) (iZipK X.K ta) := by
  refine ⟨fun pins s σ H R I h => Call_ (ld_blt I hg hm PyProof.Rows.boot_zip (PyProof.Rows.callWith_type1 (thn (ha.run pos pins s σ H _ I h) fun us s1 ⟨vs, H1, I1, r1, q1⟩ => ?_) hs hpl))⟩
  obtain ⟨a, b, xs, ys, t, u, rfl, hqx, hqy, q⟩ := q1
  obtain ⟨rfl⟩ : us = [Value.ref a, Value.ref b] := by
    cases r1 with
    | cons r rr =>
      cases rr with
      | cons r' rr =>
        cases rr
        cases r
        cases r'
        rfl
  obtain ⟨its, _, p1, la⟩ := seqK I1 hqx
  obtain ⟨its2, _, p2, lb⟩ := seqK I1 hqy
  obtain ⟨o1, B1, z1⟩ := beginsK a its.toArray t
  obtain ⟨o2, B2, z2⟩ := beginsK b its2.toArray u
  refine zip_begins2 B1 B2 p1 p2 fun h' hz hTI hTO g1 g2 hsz hk => wpAny_pyIter_zip hz ?_
  have I2 : Inv X pins σ H1 { s1 with heap := h' } := I1.kept (t' := s1.toks) hk
  have S := zip_sep2 (N := s1.heap.objs.size) (fp1 := [a]) (fp2 := [b]) (fun c hc => by rw [List.mem_singleton.mp hc]; exact la) (fun c hc => by rw [List.mem_singleton.mp hc]; exact lb)
  refine ⟨_, [s1.heap.objs.size + 4, s1.heap.objs.size + 2, s1.heap.objs.size + 3, s1.heap.objs.size, s1.heap.objs.size + 1], _, _, H1, rfl, I2, turn_zipK (t := t) (u := u) S (Nat.ne_of_lt la) (Nat.ne_of_lt (Nat.lt_succ_of_lt lb)), ⟨hz, hTI, ⟨_, _, hTO⟩, z1 _ _ g1, z2 _ _ g2⟩, fun c hcm => ?_, q⟩
  have hle : s1.heap.objs.size ≤ c := in5 (p := fun c => s1.heap.objs.size ≤ c) hcm (Nat.le_add_right _ _) (Nat.le_add_right _ _) (Nat.le_add_right _ _) (Nat.le_refl _) (Nat.le_add_right _ _)
  exact I1.fpOk hle (I1.hok.fresh hle)
theorem walk_zipK {K : PySem.W.Frag} {t u : Bool} {a b : Addr} {xs ys : List V} {n : Nat} (hn : n = min xs.length ys.length) : L2.Walk (ItzK K t u a b) n (fun H => SqK K t H a xs ∧ SqK K u H b ys) (YPair (fun i => xs[i]?) (fun i => ys[i]?)) := by
  subst hn
  refine ⟨fun i _ hi q => ?_, fun _ q => ⟨xs, ys, q.1, q.2, rfl⟩, fun i H v H' _ q ⟨T, x, z, h1, h2, h3, h4, h5⟩ => ⟨T, x, z, h1, h2, h3, h4 xs q.1, h5 ys q.2⟩⟩
  have h1 : i < xs.length := by omega
  have h2 : i < ys.length := by omega
  exact ⟨xs, ys, xs[i], ys[i], q.1, q.2, by simp [h1], by simp [h2]⟩
end UL

set_option Elab.async false
set_option linter.all false
set_option maxRecDepth 100000
/-! own: tuple(d) of a dict, the truth of a dict, a rule that is one of two rules -/
namespace UL
open PySem PySem.Spec PyProof.Rows L2 Evl TL
section
variable {prog : Program} {w : World} {A : Around} {E : Value → Shared → Prop} {s : Shared} {d : Addr} {n : Nat} {Pn : Nat → Value → Prop} {OK : Heap → Prop}
theorem tup_dict_new {Q : Value → Shared → Prop} (S : PySem.W.KdlSrc prog w "dict" d d n Pn OK) (hh : A.handled = none) (hok : OK s.heap) (hn : n ≤ sizeLine)
    (h : ∀ (h' : Heap) (tk : Nat) (acc : Array Value), (∀ b o, s.heap.get? b = some o → h'.get? b = some o) → ItemsOf Pn acc n → Q (.ref h'.objs.size) { s with heap := h'.push { cls := .type "tuple", data := .seq acc }, toks := tk }) :
    codeAny (model prog w) A (.call (.builtin "tuple.__new__") ⟨[.type "tuple", .ref d], []⟩) (wants Q E) s := by
  refine codeAny_of_tree (wpAny_bind (m := checkBuiltinCall "tuple.__new__" ⟨[.type "tuple", .ref d], []⟩) (wpAny_of_eq (F.newCall_tuple_1 _) (wpAny_pure ⟨plainId_quiet F.plain_tuple_new _, codeAny_builtin F.entry_tuple_new ?_⟩)))
  rw [show A.under _ = _ from Around.under_plainId F.plain_tuple_new _]; have g1 := sub_tuple_self; have g2 := init_tuple_lookup; have g3 := madeHere_tuple
  have hT : s.TypeIs (.ref d) "dict" := S.type s hok; have gh : A.in1.handled = none := hh
  wp_walk using wpAny_typeOf hT, PySem.W.kdu_collect (A := A.in1) S gh hok hn
  intro h' tk acc hk ia
  show wpAny _ _ (Builtin.Tuple.tupleExact acc.toList.toArray >>= ret) _ _ _
  rw [Array.toArray_toList]; unfold Builtin.Tuple.tupleExact
  exact wpAny_bind (wpAny_newObj_type (wpAny_pure (h h' tk acc hk ia)) (by show acc.size ≤ sizeLine; rw [ia.1]; exact hn))
theorem tup_dict {Q : Value → Shared → Prop} (S : PySem.W.KdlSrc prog w "dict" d d n Pn OK) (hh : A.handled = none) (hok : OK s.heap) (hn : n ≤ sizeLine)
    (h : ∀ (h' : Heap) (tk : Nat) (acc : Array Value), (∀ b o, s.heap.get? b = some o → h'.get? b = some o) → ItemsOf Pn acc n → Q (.ref h'.objs.size) { s with heap := h'.push { cls := .type "tuple", data := .seq acc }, toks := tk }) :
    wpAny (model prog w) A (call (.type "tuple") [.ref d]) Q E s :=
  callType_codes (Q₁ := fun v t => t.TypeIs v "tuple" ∧ Q v t) F.called_tuple (F.typeCall_tuple_1 _) F.entry_object_init (tup_dict_new (A := A.in1) S hh hok hn fun h' tk acc hk ia => ⟨⟨_, Heap.get?_push_size _ rfl, rfl⟩, h h' tk acc hk ia⟩)
    fun v t q => ⟨q.1, F.args_object_init_2 v _, object_init_meets F.called_tuple.init.lookup F.called_tuple.made (by decide) prog w A.in1 _ t ⟨q.1, rfl, q.2⟩⟩
end
variable {X : Cx}
def rTupD : List V → Hp → VK → Prop := fun xs H Q => ∃ p ks, xs = [.ref p] ∧ H p = some (.dK ks) ∧ ∀ q, H q = none → Q (.ref q) (upd H q (.tup (ks.map fun kv => kV kv.1)))
theorem call_tuple_dK (hc : X.calm = true) : CallR X (.type "tuple") rTupD := by
  rintro pins s σ H xs us Q I r ⟨p, ks, rfl, hk, q⟩
  obtain ⟨u, rfl, rx⟩ := vals1 r
  obtain rfl : u = Value.ref p := rx
  obtain ⟨z, lo, vs, rk, hd⟩ := (show ObjOk X.prog X.w H s.heap p (.dK ks) from I.hok p _ hk)
  obtain ⟨ep, hat⟩ := hd.dictAt
  have hl : ks.length = vs.length := Paired.length rk
  refine tup_dict (PySem.W.kdl_dict (knd := mixKind X.prog X.w) (kvs := vs) (ep := ep) lo) (I.ok.hd hc) hat (by rw [← hl]; exact z) fun h' tk acc hkeep ia => ?_
  have I2 : L2.Inv X pins σ H { s with heap := h', toks := tk } := I.kept hkeep
  have key : ∀ (j : Nat) (k : Key) (v : Value), ks[j]?.map (·.1) = some k → acc[j]? = some v → L2.RelV (kV k) v := fun j k v h1 h2 => by
    obtain ⟨k', y, e1, e2⟩ := ia.2 j v h2
    have e3 : (vs.map (·.1))[j]? = some k' := by rw [List.getElem?_map, e1]; rfl
    rw [← KV.keys rk, List.getElem?_map, h1] at e3
    obtain rfl := Option.some.inj e3
    exact keyIs_rel e2
  have new : ObjOk X.prog X.w (upd H h'.objs.size (.tup (ks.map fun kv => kV kv.1))) (h'.push { cls := .type "tuple", data := .seq acc }) h'.objs.size (.tup (ks.map fun kv => kV kv.1)) := by
    refine ⟨by rw [List.length_map]; exact z, acc.toList, vals_of_at (by have := ia.1; simp only [List.length_map, Array.length_toList]; omega) fun j x v h1 h2 => ?_, by rw [Array.toArray_toList]; exact IsTup.new _ _⟩
    rw [List.getElem?_map] at h1
    cases e : ks[j]? with
    | none => rw [e] at h1; cases h1
    | some kv =>
      rw [e] at h1
      cases h1
      exact key j kv.1 v (by rw [e]; rfl) (by rw [← Array.getElem?_toList]; exact h2)
  exact ⟨.ref h'.objs.size, _, I2.laid (t' := tk) (fun _ _ e => Heap.get?_push_of_some _ e) (Nat.le_refl _) new, rfl, q _ (I2.hok.fresh (Nat.le_refl _))⟩
theorem cr_alt {f : Value} {r r' : List V → Hp → VK → Prop} (h : CallR X f r) (h' : CallR X f r') : CallR X f (fun xs H Q => r xs H Q ∨ r' xs H Q) := fun pins s σ H xs us Q I rx q => q.elim (h pins s σ H xs us Q I rx) (h' pins s σ H xs us Q I rx)
end UL

set_option Elab.async false
set_option linter.all false
set_option maxRecDepth 100000
/-! own: a list comprehension whose element may let an own error out, and over an iterator that is a thing of the abstract heap -/
namespace UL
open PySem PySem.Spec PyProof.Rows L2 Evl TL

/-- the block's context, with a wish about errors -/
abbrev blkE (X : Cx) (s : Shared) (H : Hp) (scope : Scope) (ce : Env) (fp : List Addr) (xe : Value → Shared → Prop) : Cx := { X.blk s H scope ce fp with xe := xe }
theorem inv_xe {X : Cx} {xe : Value → Shared → Prop} {pins : List (Addr × Obj)} {σ : L2.St} {H : Hp} {s : Shared} (I : Inv X pins σ H s) : Inv { X with xe := xe } pins σ H s := by
  obtain ⟨⟨a1, a2, a3, a4, a5, a6, a7, a8, a9, a10, a11, a12, a13, a14, a15, a16, a17, a18⟩, b1, b2, b3, b4, b5, b6, b7, b8, b9, b10⟩ := I
  exact ⟨⟨a1, a2, a3, a4, a5, a6, a7, a8, a9, a10, a11, a12, a13, a14, a15, a16, a17, a18⟩, b1, b2, b3, b4, b5, b6, b7, b8, b9, b10⟩

section
variable {X : Cx} {pins : List (Addr × Obj)} {σ : L2.St} {H3 : Hp} {s3 : Shared} {scope : Scope} {cl : List (Str × Addr)} {C : Addr} {fp : List Addr} {E : XK} {xe : Value → Shared → Prop}
/-- what a call in the block lets out, the def lets out -/
theorem passes_blk (hs : X.stack = X.env :: X.outer) (hf : X.env.frame = some X.env.locals) (I3 : Inv X pins σ H3 s3) (hC : s3.heap.objs.size = C) (hfp : ∀ b ∈ fp, FpOk X pins H3 b) (tk : Takes X fun cls d _ H => E cls d H)
    (hxe : xe = notedBy (model X.prog X.w) X.A (compEnvC scope cl C X.env) (CompFails (model X.prog X.w) X.A X.xe (compEnvC scope cl C X.env))) :
    Passes (L2.CX X.prog X.w) (blkE X s3 H3 scope (compEnvC scope cl C X.env) fp xe) E := by
  intro pins' σ' H' s u s' J c
  have IX : Inv X pins σ H' s := I3.call' (ch := fp) J.os J.base J.hok J.bare fun b hb =>
    let z := hfp b hb
    ⟨z.2.2.2.1, z.2.1, z.2.2.2.2.1, z.2.2.2.2.2⟩
  obtain ⟨a, B, H2, cls, d, rfl, fl, hok, ub, na, os, ag, w⟩ := c
  have nC : H' C = none := J.free
  obtain ⟨m, ⟨oC, es, ep, hoC, hdC, rC⟩, _⟩ := J.loc
  have hoC : s.heap.get? C = some oC := hoC
  have okC : FpOk X pins H' C := I3.fpOk (Nat.le_of_eq hC) nC
  have Cnf : C ∉ frs X.stack := fun z => by
    obtain ⟨_, o, e, _⟩ := I3.stack.mem z
    exact absurd (hC ▸ Heap.lt_size e) (Nat.lt_irrefl _)
  have BC : B.get? C = some oC := ub.keep C oC hoC nC Cnf
  have n2C : H2 C = none := ub.free C oC hoC nC
  have hfr : X.A.frames = some (X.env :: X.outer) := by rw [I3.ok.frames, hs]
  subst hxe
  show wpAny _ _ (noteFrame (.ref a) (compEnvC scope cl C X.env)) _ _ s'
  rw [noteFrame_env (cenv := compEnvC scope cl C X.env) (env := X.env) _ rfl]
  refine HandSPX.looks_onZ Zc.steady hfr hf (by rw [← hs]; exact fl) fun h1 hh up1 => ?_
  rw [← hs] at hh
  obtain ⟨k1, k2, k3, oe, vs, T, oT, ts, he, hz, hd, hv, hnT, hTe, hT, hdT, ht3⟩ := hh
  have C1 : h1.get? C = some oC := k1 _ _ BC
  refine ⟨m, ⟨oC, es, ep, C1, hdC, rC⟩, fun h2 m2 hn2 sb => ?_⟩
  have sb : Heap.SameBut C h1 h2 := sb
  have hn2 : h2.Ns C m2 := hn2
  have nfC : ∀ {b : Addr} {o : Obj} {vs : Array Value}, h1.get? b = some o → o.data = .fields vs → b ≠ C := fun e q z => by
    rw [z, C1] at e; cases e
    rw [hdC] at q; cases q
  have mv : ∀ {b : Addr} {o : Obj}, b ≠ C → h1.get? b = some o → h2.get? b = some o := fun n e => (sb.2 _ n).trans e
  obtain ⟨B', hB'⟩ : ∃ B', B' = PySem.W.hideAll B [C] := ⟨_, rfl⟩
  have bIn : ∀ {b : Addr} {o : Obj}, b ≠ C → B.get? b = some o → B'.get? b = some o := fun n e => by
    rw [hB']; exact PySem.W.hideAll_get _ e (by simpa using n)
  have bOut : ∀ {b : Addr} {o : Obj}, B'.get? b = some o → B.get? b = some o := fun e => by
    rw [hB'] at e; exact PySem.W.of_hideAll _ e
  have bC : B'.get? C = none := by rw [hB']; exact PySem.W.hideAll_none _ (by simp)
  have bNo : ∀ {b : Addr}, B.get? b = none → B'.get? b = none := fun {b} n => by
    cases q : B'.get? b with
    | none => rfl
    | some o => rw [bOut q] at n; cases n
  have st2 : B'.StaysIn h2 := fun b o e => mv (fun z => by rw [z, bC] at e; cases e) (k1 _ _ (bOut e))
  have fr2 : h2.FunFrames B' X.stack := funFrames_none (Heap.FunFrames.sameBut sb hn2 k3) fun L hL => bNo (k3.mem hL).1
  have tr2 : HandSPX.TracedZ h2 B' a (Zc cls d) (rawInt X.env.locals) := ⟨oe, vs, T, oT, ts, mv (nfC he hd) he, hz, hd, hv, bNo hnT, hTe, mv (nfC hT hdT) hT, hdT, ht3⟩
  unfold PySem.passOn
  refine wpAny_bind (wpAny_field (mv (nfC he hd) he) hd hv ?_)
  rw [if_neg (by simp)]
  show wpAny _ _ (setFlight (.ref a) X.env.frame >>= fun _ => throw (.ref a)) _ _ _
  rw [hf]
  refine wpAny_bind (HandSPX.setFlight_anyZ st2 fr2 tr2 fun h3 j1 j2 j3 up3 => wpAny_throw ?_)
  have j3 : HandSPX.TracedZ h3 B' a (Zc cls d) (rawInt X.env.locals) := j3
  obtain ⟨G, g1, g2⟩ := L2.restrict h3 fun b => (B'.get? b).isSome || decide (b ∈ frs X.stack)
  have gB : ∀ {b : Addr} {o : Obj}, B'.get? b = some o → G.get? b = some o := fun {b o} e => by
    rw [g1 b (by simp [e])]; exact j1 _ _ e
  have gO : ∀ {b : Addr} {o : Obj}, G.get? b = some o → h3.get? b = some o ∧ ((B'.get? b).isSome = true ∨ b ∈ frs X.stack) := fun {b o} e => by
    cases q : ((B'.get? b).isSome || decide (b ∈ frs X.stack)) with
    | false => rw [g2 b q] at e; cases e
    | true => exact ⟨by rw [g1 b q] at e; exact e, by simpa [Bool.or_eq_true] using q⟩
  have gF : ∀ {b : Addr} {o : Obj}, s.heap.get? b = some o → b ∈ frs X.stack → ∃ sl, G.get? b = some { o with slots := sl } := fun {b o} e hb => by
    obtain ⟨sl, q⟩ := ub.slot b o e hb
    obtain ⟨_, o', e', nf⟩ := IX.stack.mem hb
    rw [e] at e'; cases e'
    obtain ⟨sl1, q1⟩ := up1 b _ q nf
    obtain ⟨sl2, q2⟩ := up3 b _ (mv (fun z => Cnf (z ▸ hb)) q1) nf
    exact ⟨sl2, by rw [g1 b (by simp [hb])]; exact q2⟩
  have okG : HOk X.prog X.w H2 G := fun b o q => (hok b o q).stay (fun c v hc r => gB (bIn (fun z => by
    rcases hc with hc | hc
    · rw [← hc, z, n2C] at q; cases q
    · rw [z, n2C] at hc; cases hc) r)) (fun _ r => r) fun _ _ r => r
  refine tk _ _ ⟨a, B', { s with heap := G, gens := s'.gens, drawn := s'.drawn, toks := s'.toks }, pins, σ, H2, cls, d, rfl, ?_, fun b o e nb => ?_, Heap.UpToSlots.of_keeps fun b o e => (gO e).1, .inr (.inr ⟨j1, bNo k2, j2, j3⟩), na, os, ag, w⟩
  · refine IX.call (ch := [C]) ⟨fun b o e n hb hc => gB (bIn (by simpa using hc) (ub.keep b o e n hb)), fun b o e _ hb _ => gF e hb, fun b o e n _ => ub.free b o e n, fun b o e hc => ?_, ub.tups, ub.frzs, ub.tbls⟩ okG ag fun b hb => ?_
    · by_cases hb : b ∈ frs X.stack
      · obtain ⟨_, q⟩ := gF e hb
        exact ⟨_, q⟩
      · obtain ⟨o', q⟩ := ub.there b o e hb
        exact ⟨o', gB (bIn (by simpa using hc) q)⟩
    · obtain rfl : b = C := by simpa using hb
      exact ⟨okC.2.2.2.1, okC.2.1, okC.2.2.2.2.1, okC.2.2.2.2.2⟩
  · rcases (gO e).2 with z | z
    · obtain ⟨o', q⟩ := Option.isSome_iff_exists.mp z
      have r := gB q
      rw [e] at r; cases r
      exact q
    · exact absurd z nb
end

/-- turns of an iterator, whose own state may be a thing of the abstract heap -/
structure TurnE (P : Program) (w : World) (K : PySem.W.Frag) (tg : Expr) (J : It) (fp : List Addr) (it : Addr) (tn : Nat → Heap → Prop) : Prop where
  obj : ∀ i h, tn i h → ∀ b ∈ fp, ∃ o, h.get? b = some o ∧ ∀ v, o.data ≠ .cell v
  keep : ∀ i h h', tn i h → (∀ b ∈ fp, ∀ o, h.get? b = some o → h'.get? b = some o) → tn i h'
  item : ∀ Y : Cx, Y.prog = P → Y.w = w → Y.K = K → Y.calm = true → ∀ (i : Nat) (pins : List (Addr × Obj)) (s : Shared) (σ : L2.St) (H : Hp) (E : Value → Shared → Prop), Inv Y pins σ H s → (∀ b ∈ fp, FpOk Y pins H b) → tn i s.heap → J.go i H →
    wpAny (model P w) Y.A (pyNext (.ref it)) (fun r s1 => ∃ u, r = some u ∧ wpAny (model P w) Y.A (letOwnedTupleGo tg (.ref it) u)
      (fun _ s2 => ∃ x H', Inv Y pins σ H' s2 ∧ RelV x u ∧ J.yld i H x H' ∧ tn (i + 1) s2.heap ∧ ∀ b ∈ fp, H' b = none) E s1) E s
  done : ∀ Y : Cx, Y.prog = P → Y.w = w → Y.K = K → Y.calm = true → ∀ (i : Nat) (pins : List (Addr × Obj)) (s : Shared) (σ : L2.St) (H : Hp) (E : Value → Shared → Prop), Inv Y pins σ H s → (∀ b ∈ fp, FpOk Y pins H b) → tn i s.heap → J.stop i H →
    wpAny (model P w) Y.A (pyNext (.ref it)) (fun r s1 => r = none ∧ Inv Y pins σ H s1) E s
  self : ∀ Y : Cx, Y.prog = P → Y.w = w → Y.K = K → ∀ (i : Nat) (pins : List (Addr × Obj)) (s : Shared) (σ : L2.St) (H : Hp) (Q E : Value → Shared → Prop), Inv Y pins σ H s → (J.go i H ∨ J.stop i H) → tn i s.heap → Q (.ref it) s → wpAny (model P w) Y.A (pyIter (.ref it)) Q E s
theorem TurnE.of {P : Program} {w : World} {K : PySem.W.Frag} {tg : Expr} {J : It} {fp : List Addr} {it : Addr} {tn : Nat → Heap → Prop} (T : L2.Turn P w K tg J fp it tn) : TurnE P w K tg J fp it tn :=
  ⟨T.obj, T.keep, T.item, T.done, fun Y _ _ _ i _ s _ _ Q E _ _ st q => T.self Y.A i s Q E st q⟩
/-- an iterator stands, the def's own or a thing of the abstract heap -/
def PIEe (X : Cx) (pins : List (Addr × Obj)) (σ : L2.St) (tg : Expr) (R : It → Hp → Prop) (itv : Value) (s2 : Shared) : Prop :=
  ∃ (it : Addr) (fp : List Addr) (tn : Nat → Heap → Prop) (J : It) (H' : Hp), itv = .ref it ∧ Inv X pins σ H' s2 ∧ TurnE X.prog X.w X.K tg J fp it tn ∧ tn 0 s2.heap ∧ (∀ b ∈ fp, FpOk X pins H' b) ∧ R J H'
structure PIe (X : Cx) (tg iter : Expr) (wi : TI) : Prop where
  run : ∀ (pins : List (Addr × Obj)) (s : Shared) (σ : L2.St) (H : Hp) (R : It → Hp → Prop), Inv X pins σ H s → wi σ H R → wpAny (model X.prog X.w) X.A (eval iter X.env)
    (fun v s1 => wpAny (model X.prog X.w) X.A (pyIter v) (PIEe X pins σ tg R) X.xe s1) X.xe s
theorem PIe.of {X : Cx} {tg iter : Expr} {wi : TI} (h : PI X tg iter wi) : PIe X tg iter wi :=
  ⟨fun pins s σ H R I hw => wpAny_mono (h.run pins s σ H R I hw) (fun v s1 h1 => wpAny_mono h1 (fun itv s2 ⟨it, fp, tn, J, H', e, I', T, r⟩ => ⟨it, fp, tn, J, H', e, I', TurnE.of T, r⟩) fun _ _ z => z) fun _ _ z => z⟩

/-- an element that may let an own error out, where the def does -/
def PEe (X : Cx) (scope : Scope) (e : Expr) (te : TE) : Prop := ∀ (s : Shared) (H : Hp) (C : Addr) (cl : List (Str × Addr)) (fp : List Addr) (xe : Value → Shared → Prop),
  (∀ E : XK, (Takes X fun c d _ H => E c d H) → Passes (L2.CX X.prog X.w) (blkE X s H scope (compEnvC scope cl C X.env) fp xe) E) → PE (blkE X s H scope (compEnvC scope cl C X.env) fp xe) e te
section
variable {X : Cx} {elt tg iter : Expr} {ifs : List Expr} {scope : Scope} {own : List (Str × Nat)} {wi : TI} {g : TG} {tt : TT} {te : TE}
theorem lc_coreE {pins : List (Addr × Obj)} {s : Shared} {σ : L2.St} {H : Hp} {Q : VK} {pos pos' : Pos} {use : Option (Value → Sem Unit)} {Qf : Value → Shared → Prop}
    (hst : X.stack = X.env :: X.outer) (hfm : X.env.frame = some X.env.locals) (calm : X.calm = true) (nd : X.N.Nodup) (I : Inv X pins σ H s) (hi : PIe X tg iter wi) (ok : BlkOk X.N X.env.scope scope own)
    (hg : ∀ (s : Shared) (H : Hp) (C : Addr) (cl : List (Str × Addr)) (fp : List Addr), PG (X.blk s H scope (compEnvC scope cl C X.env) fp) tg g)
    (ht : ∀ (s : Shared) (H : Hp) (C : Addr) (cl : List (Str × Addr)) (fp : List Addr), PTs (X.blk s H scope (compEnvC scope cl C X.env) fp) ifs tt)
    (he : PEe X scope elt te) (hfs : ∀ x, foldedSetIterable iter X.env x = pure x) (h : tLc wi g tt te (own.map (·.2)) σ H Q)
    (fin : ∀ D C s' m H' cenv, cenv.locals = C → Inv X pins σ H' s' → Q (.ref D) H' → s'.heap.Ns C m → FpOk X pins H' C → compEnds (model X.prog X.w) X.A X.xe use Qf (.ref D) cenv (.ok .next) s') :
    wpAny (model X.prog X.w) X.A (comprehension (.ListComp elt [⟨tg, iter, ifs, 0⟩] scope pos) scope X.env pos' (newList []) false (eval iter X.env) use) Qf X.xe s := by
  have frees : ∀ y ∈ scope.names, y.2 = .free → ∃ c, X.env.cells.lookup y.1 = some c := fun y hy e => (ok.free y hy e).elim (fun k => I.ok.has _ (.inl k)) fun k => I.ok.has _ (.inr k)
  refine comprehension_at (use := use) rfl hfs (closure_ok frees) ok.kind (fun y hy e => by rw [ok.uniq y hy, e]) ?_
  refine wpAny_mono (hi.run pins s σ H _ I h) (fun xv s1 hx => wpAny_mono hx (fun itv s2 h2 => ?_) fun _ _ z => z) fun _ _ z => z
  obtain ⟨it, fp, tn, J, H2, rfl, I2, T, st2, f2, q⟩ := h2
  refine wpAny_newObj_type (newEnv_comp ?_) (by show 0 ≤ sizeLine; decide)
  generalize hD : s2.heap.objs.size = D
  obtain ⟨W, ⟨m0, w0⟩, turn⟩ := q D (I2.hok.fresh (Nat.le_of_eq hD))
  generalize hs3 : ({ s2 with heap := s2.heap.push { cls := .type "list", data := .seq ([] : List Value).toArray } } : Shared) = s3
  have h3 : s3.heap = s2.heap.push { cls := .type "list", data := .seq ([] : List Value).toArray } := by rw [← hs3]
  have I3 : Inv X pins σ (upd H2 D (.lst [])) s3 := by
    rw [← hs3]
    refine I2.laid (t' := s2.toks) (fun _ _ e => Heap.get?_push_of_some _ e) (Nat.le_of_eq hD) ⟨Nat.zero_le _, [], 0, .nil, ?_⟩
    rw [← hD]
    exact Heap.get?_push_size _ rfl
  have f3 : ∀ b ∈ fp, FpOk X pins (upd H2 D (.lst [])) b ∧ b < s3.heap.objs.size := fun b hb => by
    obtain ⟨o, e, _⟩ := T.obj _ _ st2 b hb
    have lt := Heap.lt_size e
    refine ⟨⟨?_, (f2 b hb).2⟩, by rw [h3, Heap.size_push]; exact Nat.lt_succ_of_lt lt⟩
    rw [upd_ne fun z => absurd lt (by rw [z, ← hD]; exact Nat.lt_irrefl _)]
    exact (f2 b hb).1
  have st3 : tn 0 s3.heap := T.keep _ _ _ st2 fun _ _ _ e => by
    rw [h3]
    exact Heap.get?_push_of_some _ e
  have I4 := block_start I3 ok nd f3
  have pg := hg s3 (upd H2 D (.lst [])) s3.heap.objs.size (cellsFrom (s3.heap.objs.size + 1) scope.names (cloFrom X.env.cells scope.names [])) fp
  have pt := ht s3 (upd H2 D (.lst [])) s3.heap.objs.size (cellsFrom (s3.heap.objs.size + 1) scope.names (cloFrom X.env.cells scope.names [])) fp
  have pe := fun xe hxe => he s3 (upd H2 D (.lst [])) s3.heap.objs.size (cellsFrom (s3.heap.objs.size + 1) scope.names (cloFrom X.env.cells scope.names [])) fp xe fun E tk => passes_blk hst hfm I3 rfl (fun b hb => (f3 b hb).1) tk hxe
  show codeAny _ _ (.compStart (.ListComp elt [⟨tg, iter, ifs, 0⟩] scope pos) 0 (.ref it) (.ref D) (compEnvC scope (cellsFrom (s3.heap.objs.size + 1) scope.names (cloFrom X.env.cells scope.names [])) s3.heap.objs.size X.env))
    (compEnds (model X.prog X.w) X.A X.xe use Qf (.ref D) (compEnvC scope (cellsFrom (s3.heap.objs.size + 1) scope.names (cloFrom X.env.cells scope.names [])) s3.heap.objs.size X.env)) { s3 with heap := pushCells (s3.heap.push { cls := .type "dict", data := .dict #[] }) scope.names }
  have nfp : ∀ b ∈ fp, (upd H2 D (.lst [])) b = none := fun b hb => (f3 b hb).1.1
  generalize hce : compEnvC scope (cellsFrom (s3.heap.objs.size + 1) scope.names (cloFrom X.env.cells scope.names [])) s3.heap.objs.size X.env = ce at I4 pg pt pe ⊢
  have pe := pe _ rfl
  have cL : ce.locals = s3.heap.objs.size := by subst hce; rfl
  generalize hH3 : upd H2 D (.lst []) = H3 at I3 I4 pg pt pe w0 nfp f3
  generalize hs4 : ({ s3 with heap := pushCells (s3.heap.push { cls := .type "dict", data := .dict #[] }) scope.names } : Shared) = s4 at I4 ⊢
  have st4 : tn 0 s4.heap := T.keep _ _ _ st3 fun _ _ _ e => by
    rw [← hs4]
    exact pushCells_keeps _ _ _ _ (Heap.get?_push_of_some _ e)
  have stat : ∀ {σ' : L2.St} {H' : Hp} {s' : Shared}, Inv (X.blk s3 H3 scope ce fp) [] σ' H' s' → (∀ b ∈ fp, H' b = none) → ∀ b ∈ fp, FpOk (X.blk s3 H3 scope ce fp) [] H' b := fun {_ H' _} J hn b hb =>
    ⟨hn b hb, (J.ok.exf b hb).1, J.ok.exfs b hb, .inl hb, fun x c e => (J.ok.exf b hb).2 x c e, fun p hp => absurd (show p ∈ ([] : List (Addr × Obj)) ++ [] from hp) (by simp)⟩
  have err : ∀ {e : Value} {s' : Shared}, CompFails (model X.prog X.w) X.A X.xe ce e s' → compEnds (model X.prog X.w) X.A X.xe use Qf (.ref D) ce (.error e) s' := fun z => by cases use <;> exact z
  have loop : codeAny (model X.prog X.w) X.A (.compLoop (.ListComp elt [⟨tg, iter, ifs, 0⟩] scope pos) 0 (.ref it) (.ref D) ce) (compEnds (model X.prog X.w) X.A X.xe use Qf (.ref D) ce) s4 := by
    refine compLoop_any (fun n s' => ∃ i H', Inv (X.blk s3 H3 scope ce fp) [] (wipe σ (own.map (·.2))) H' s' ∧ tn i s'.heap ∧ (∀ b ∈ fp, H' b = none) ∧ W i n H') ?_ m0 ⟨0, H3, I4, st4, nfp, w0⟩
    rintro n s5 ⟨i, H5, I5, st5, n5, w5⟩
    rcases turn i n H5 w5 with ⟨stop, qq⟩ | ⟨go, Nx, down, step⟩
    · refine thnF (T.done (X.blk s3 H3 scope ce fp) rfl rfl rfl calm i [] s5 _ H5 (fun _ _ => False) I5 (stat I5 n5) st5 stop) fun r s6 ⟨hr, I6⟩ => ?_
      subst hr
      have I7 : Inv X pins σ H5 s6 := I3.call' (ch := fp) I6.os I6.base I6.hok I6.bare fun b hb =>
        let z := (f3 b hb).1
        ⟨z.2.2.2.1, z.2.1, z.2.2.2.2.1, z.2.2.2.2.2⟩
      have nC : H5 ce.locals = none := I6.free
      rw [cL] at nC
      obtain ⟨m, hn, _⟩ := I6.loc
      have hn : s6.heap.Ns ce.locals m := hn
      rw [cL] at hn
      exact fin D s3.heap.objs.size s6 m H5 ce cL I7 qq hn (I3.fpOk (Nat.le_refl _) nC)
    · refine thnF (T.item (X.blk s3 H3 scope ce fp) rfl rfl rfl calm i [] s5 _ H5 (fun _ _ => False) I5 (stat I5 n5) st5 go) fun r s6 ⟨u, hr, h6⟩ => ?_
      subst hr
      refine thnF h6 fun _ s7 ⟨x, H7, I7, r7, y7, st7, n7⟩ => ?_
      refine thnF (pg.run _ s7 _ H7 x u _ (I7.pinned (stat I7 n7) (T.obj _ _ st7)) r7 (step x H7 y7)) fun _ s8 ⟨σ8, H8, I8, hw8, q8⟩ => ?_
      refine thnF (pt.run _ s8 σ8 H8 _ I8 q8) fun b s9 ⟨H9, I9, q9⟩ => ?_
      have last : ∀ {s' : Shared} {H' : Hp}, Inv (X.blk s3 H3 scope ce fp) ([] ++ pinsAt fp s7.heap) σ8 H' s' → Nx H' → ∃ m, m < n ∧ ∃ i H', Inv (X.blk s3 H3 scope ce fp) [] (wipe σ (own.map (·.2))) H' s' ∧ tn i s'.heap ∧ (∀ b ∈ fp, H' b = none) ∧ W i m H' := fun {s' H'} J nx => by
        obtain ⟨m', lt, w'⟩ := down H' nx
        have stay : ∀ b ∈ fp, ∀ o, s7.heap.get? b = some o → s'.heap.get? b = some o ∧ H' b = none := fun b hb o e =>
          let z := J.pin (b, o) (List.mem_append_right _ (List.mem_append_right _ (mem_pinsAt hb e)))
          ⟨z.1, z.2.1⟩
        refine ⟨m', lt, i + 1, H', (J.unpinned (pins := [])).weak (by rw [← hw8, wipe_length]) (fun j v e => ?_), T.keep _ _ _ st7 fun b hb o e => (stay b hb o e).1, fun b hb => ?_, w'⟩
        · rw [← hw8] at e
          exact (wipe_some e).1
        · obtain ⟨o, e, _⟩ := T.obj _ _ st7 b hb
          exact (stay b hb o e).2
      cases b with
      | false => exact last I9 q9
      | true =>
        refine wpAny_mono (pe.run _ s9 σ8 H9 _ (inv_xe I9) q9) (fun z s10 ⟨yv, H10, I10, r10, acc, hD10, hz10, nx⟩ => ?_) fun e s' z => ?_
        · have I10' : Inv (X.blk s3 H3 scope ce fp) ([] ++ pinsAt fp s7.heap) σ8 H10 s10 := inv_xe (xe := fun _ _ => False) I10
          exact app_ok (X := X.blk s3 H3 scope ce fp) I10' hD10 hz10 r10 fun s11 I11 => last I11 nx
        · exact wpAny_mono z (fun _ _ y => err y) fun _ _ y => err y
  refine codeAny_compStart_list loop (T.self (X.blk s3 H3 scope ce fp) rfl rfl rfl 0 _ _ _ _ _ _ I4 ?_ st4 loop)
  exact (turn 0 m0 H3 w0).elim (fun z => .inr z.1) fun z => .inl z.1
/-- as a value -/
theorem pe_lcE {pos : Pos} (hst : X.stack = X.env :: X.outer) (hfm : X.env.frame = some X.env.locals) (calm : X.calm = true) (nd : X.N.Nodup) (hi : PIe X tg iter wi) (ok : BlkOk X.N X.env.scope scope own)
    (hg : ∀ (s : Shared) (H : Hp) (C : Addr) (cl : List (Str × Addr)) (fp : List Addr), PG (X.blk s H scope (compEnvC scope cl C X.env) fp) tg g)
    (ht : ∀ (s : Shared) (H : Hp) (C : Addr) (cl : List (Str × Addr)) (fp : List Addr), PTs (X.blk s H scope (compEnvC scope cl C X.env) fp) ifs tt)
    (he : PEe X scope elt te) (hfs : ∀ x, foldedSetIterable iter X.env x = pure x := by intro _; rfl) : PE X (.ListComp elt [⟨tg, iter, ifs, 0⟩] scope pos) (tLc wi g tt te (own.map (·.2))) := by
  refine ⟨fun pins s σ H Q I h => ?_⟩
  rw [eval_ListComp]
  refine lc_coreE hst hfm calm nd I hi ok hg ht he hfs h fun D C s' m H' cenv hc J q hn f => ⟨m, by rw [hc]; exact hn, fun h2 sb => ?_⟩
  exact ⟨.ref D, H', J.turned (t' := s'.toks) (fun b o nb e => (sb.2 b (by rw [hc]; exact nb)).trans e) f.1 f.2.1 f.2.2.2.1 f.2.2.2.2.1 f.2.2.2.2.2, rfl, q⟩
/-- to a name, on one line -/
theorem ps_setLcE {i : Nat} {y : Str} {py pos spos : Pos} (hst : X.stack = X.env :: X.outer) (hfm : X.env.frame = some X.env.locals) (calm : X.calm = true) (nd : X.N.Nodup) (hy : X.N[i]? = some y) (hyl : X.env.scope.names.lookup y = some .local)
    (hsw : swapsWith (.ListComp elt [⟨tg, iter, ifs, 0⟩] scope pos) (some (.Name y py)) spos.line X.env = pure true) (hi : PIe X tg iter wi) (ok : BlkOk X.N X.env.scope scope own)
    (hg : ∀ (s : Shared) (H : Hp) (C : Addr) (cl : List (Str × Addr)) (fp : List Addr), PG (X.blk s H scope (compEnvC scope cl C X.env) fp) tg g)
    (ht : ∀ (s : Shared) (H : Hp) (C : Addr) (cl : List (Str × Addr)) (fp : List Addr), PTs (X.blk s H scope (compEnvC scope cl C X.env) fp) ifs tt)
    (he : PEe X scope elt te) (hfs : ∀ x, foldedSetIterable iter X.env x = pure x := by intro _; rfl) : PS X (.Assign [.Name y py] (.ListComp elt [⟨tg, iter, ifs, 0⟩] scope pos) spos) (tAsg (tLc wi g tt te (own.map (·.2))) (gName i)) := by
  refine ⟨fun pins s σ H D I h => ?_⟩
  have h : tLc wi g tt te (own.map (·.2)) σ H (fun x H1 => gName i x σ H1 D.nx) := h
  rw [exec_Assign_Name_used _ _ _ _ hsw]
  refine wpAny_bind (wpAny_standAt (wpAny_bind ?_))
  show wpAny _ X.A (do let _ ← comprehension (.ListComp elt [⟨tg, iter, ifs, 0⟩] scope pos) scope X.env (firstIterPos [⟨tg, iter, ifs, 0⟩] pos) (newList []) false (eval iter X.env) (some (assign (.Name y py) X.env))) _ _ s
  refine wpAny_bind (wpAny_mono (lc_coreE (Qf := fun _ s' => SP X pins D .next s') hst hfm calm nd I hi ok hg ht he hfs h fun L C s' m H' cenv hc J q hn f => ?_) (fun _ s' hq => wpAny_pure (wpAny_pure hq)) fun _ _ z => z)
  show wpAny _ _ (assign (.Name y py) X.env (.ref L)) _ _ _
  refine wpAny_assign_Name (store_ok2 (v := V.ref L) J nd hy (.inl hyl) rfl (fun s2 J2 ⟨a, sb, ha⟩ => ?_) (.inr hyl))
  have ne : C ≠ a := ha.elim (fun z => z ▸ f.2.1) fun z e => f.2.2.2.2.1 y a z e.symm
  refine ⟨m, by rw [hc]; exact hn.sameBut sb ne, fun h3 sb3 => ?_⟩
  exact ⟨_, H', J2.turned (t' := s2.toks) (fun b o nb e => (sb3.2 b (by rw [hc]; exact nb)).trans e) f.1 f.2.1 f.2.2.2.1 f.2.2.2.2.1 f.2.2.2.2.2, q⟩
end
end UL

set_option Elab.async false
set_option linter.all false
set_option maxRecDepth 100000
/-! own: a comprehension over an object of an own class whose __iter__ hands out the iterator of a tuple: the iterator is a thing of the abstract heap, it may be spent -/
namespace UL
open PySem PySem.Spec PyProof.Rows L2 Evl TL

/-- the iterator has come to its end -/
def Spent (h : Heap) (it : Addr) : Prop := ∃ o v, h.get? it = some o ∧ o.cls = .type "tuple_iterator" ∧ o.data = .fields #[.none, v]
section
variable {prog : Program} {w : World} {A : Around} {E : Value → Shared → Prop} {s : Shared} {it t : Addr} {i : Nat} {items : Array Value} {Q : Option Value → Shared → Prop}
theorem tupleIter_stops (calm : A.handled = none) (hit : s.heap.IsTupleIter it t i ∨ Spent s.heap it) (ht : s.heap.IsTuple t items) (hx : items[i]? = none) (h : ∀ h', Heap.ExtBut it s.heap h' → Spent h' it → Q none { s with heap := h' }) :
    wpAny (model prog w) A (pyNext (.ref it)) Q E s := by
  have ty : s.TypeIs (.ref it) "tuple_iterator" := hit.elim (fun z => z.typeIs) fun ⟨o, _, e, c, _⟩ => ⟨o, e, c⟩
  unfold pyNext
  refine wpAny_bind (wpAny_attempt (wpAny_callSpecial?_slot (name := Str.ofString "__next__") ty F.slot_tuple_iterator_next (wpAny_call_entry F.slot_tuple_iterator_next ty F.entry_tuple_iterator_next ?_ (F.args_tuple_iterator_next_1 _))))
  show wpAny _ _ (field (.ref it) 0 >>= _) _ _ s
  rcases hit with ⟨o, ho, hc, hd⟩ | ⟨o, v, ho, hc, hd⟩
  · obtain ⟨ol, hol, _, nl, hdl⟩ := ht
    refine wpAny_bind (wpAny_field ho hd (x := .ref t) rfl ?_)
    show wpAny _ _ (if (Value.ref t == Value.none) = true then _ else _) _ _ s
    rw [if_neg (show ¬ ((Value.ref t == Value.none) = true) from Bool.false_ne_true)]
    show wpAny _ _ (field (.ref it) 1 >>= _) _ _ s
    refine wpAny_bind (wpAny_field ho hd (x := .int i 0) rfl ?_)
    show wpAny _ _ (seqItems? (.ref t) >>= _) _ _ s
    refine wpAny_bind (wpAny_seqItems hol hdl ?_)
    simp only [Int.toNat_natCast, hx]
    refine wpAny_bind (wpAny_rule (wpAny_bind (wpAny_setField ho hd (by simp) ?_)))
    show wpAny _ _ (newExc (.type "StopIteration") [] >>= _) _ _ _
    have sp : Spent (s.heap.update it (Obj.mapFields (·.setIfInBounds 0 Value.none))) it := ⟨_, .int i 0, Heap.get?_update_self _ ho (Obj.isFreed_of_fields (Obj.data_mapFields hd _)), (Obj.cls_mapFields ..).trans hc, by
      rw [Obj.data_mapFields hd]
      simp⟩
    refine wpAny_bind ?_
    simp only [newExc, newTuple]
    refine wpAny_bind (wpAny_newObj_type ?_ (by size_fits))
    refine wpAny_bind (m := firstArgMember _ _) (wpAny_of_eq (a := Value.none) (by first | rfl | (simp only [firstArgMember]; rfl)) (wpAny_newObj_type ?_ (by size_fits)))
    simp only [raiseNew]
    refine wpAny_bind (wpAny_handled ?_)
    first | rw [show A.in1.handled = none from calm] | rw [calm]
    refine wpAny_bind (wpAny_pure (wpAny_throw ?_))
    show wpAny _ _ (isInstance _ (.type "StopIteration") >>= _) _ _ _
    refine wpAny_bind (wpAny_isInstance (T := "StopIteration") (b := true) ⟨_, Heap.get?_push_size _ rfl, rfl⟩ isSubtype_stop ?_)
    obtain ⟨o', v', e', c', d'⟩ := sp
    exact wpAny_pure (h _ (((Heap.SameBut.update ..).extBut.push _).push _) ⟨o', v', Heap.get?_push_of_some _ (Heap.get?_push_of_some _ e'), c', d'⟩)
  · refine wpAny_bind (wpAny_field ho hd (x := .none) rfl ?_)
    show wpAny _ _ (if (Value.none == Value.none) = true then _ else _) _ _ s
    rw [if_pos (by rfl)]
    refine wpAny_bind (wpAny_rule (wpAny_bind ?_))
    show wpAny _ _ (newExc (.type "StopIteration") [] >>= _) _ _ _
    refine wpAny_bind ?_
    simp only [newExc, newTuple]
    refine wpAny_bind (wpAny_newObj_type ?_ (by size_fits))
    refine wpAny_bind (m := firstArgMember _ _) (wpAny_of_eq (a := Value.none) (by first | rfl | (simp only [firstArgMember]; rfl)) (wpAny_newObj_type ?_ (by size_fits)))
    simp only [raiseNew]
    refine wpAny_bind (wpAny_handled ?_)
    first | rw [show A.in1.handled = none from calm] | rw [calm]
    refine wpAny_bind (wpAny_pure (wpAny_throw ?_))
    show wpAny _ _ (isInstance _ (.type "StopIteration") >>= _) _ _ _
    refine wpAny_bind (wpAny_isInstance (T := "StopIteration") (b := true) ⟨_, Heap.get?_push_size _ rfl, rfl⟩ isSubtype_stop ?_)
    exact wpAny_pure (h _ (fun b o _ e => Heap.get?_push_of_some _ (Heap.get?_push_of_some _ e)) ⟨o, v, Heap.get?_push_of_some _ (Heap.get?_push_of_some _ ho), hc, hd⟩)
end

/-- the iterator at it, behind i of the n parts of t -/
def ItTO (t it : Addr) (i n : Nat) : HO := .ext fun h => h.IsTupleIter it t i ∨ (i = n ∧ Spent h it)
theorem itTO_ok {P : Program} {w : World} {H : Hp} {h : Heap} {t it : Addr} {i n : Nat} (e : h.IsTupleIter it t i ∨ (i = n ∧ Spent h it)) : ObjOk P w H h it (ItTO t it i n) :=
  ⟨e, e.elim (fun ⟨o, ho, _⟩ => ⟨o, ho⟩) fun ⟨_, o, _, ho, _⟩ => ⟨o, ho⟩, fun _ _ z k => z.elim (fun ⟨o, ho, r⟩ => .inl ⟨o, k _ ho, r⟩) fun ⟨q, o, v, ho, r⟩ => .inr ⟨q, o, v, k _ ho, r⟩⟩
/-- its turns -/
def ItO (K : PySem.W.Frag) (t it : Addr) (zs : List V) : It :=
  ⟨fun i H => H it = some (ItTO t it i zs.length) ∧ SqT K H t zs ∧ i < zs.length, fun i H x H' => zs[i]? = some x ∧ H' = upd H it (ItTO t it (i + 1) zs.length), fun i H => H it = some (ItTO t it i zs.length) ∧ SqT K H t zs ∧ i = zs.length⟩
theorem turn_own {P : Program} {w : World} {K : PySem.W.Frag} {tg : Expr} {t it : Addr} {zs : List V} : TurnE P w K tg (ItO K t it zs) [] it (fun _ _ => True) where
  obj := fun _ _ _ b hb => absurd hb (by simp)
  keep := fun _ _ _ _ _ => trivial
  item := by
    intro Y rfl rfl rfl _ i pins s σ H E I _ _ ⟨hi, hq, lt⟩
    obtain ⟨its, rv, p, _⟩ := I.tuple hq
    obtain ⟨u, hu, ru⟩ := rv.get (List.getElem?_eq_getElem lt)
    have st : s.heap.IsTupleIter it t i := (I.hok it _ hi).1.elim id fun z => absurd z.1 (Nat.ne_of_lt lt)
    refine wpAny_pyNext_tuple_item st p (x := u) (by simpa using hu) fun h' st' sb => ?_
    obtain ⟨o, e, c, d⟩ := id st'
    have J : Inv Y pins σ (upd H it (ItTO t it (i + 1) zs.length)) { s with heap := h' } :=
      I.write (x := it) (e := it) (t' := s.toks) (by rw [hi]; exact True.intro) (.inl rfl) (fun b o nb z => (sb.2 b nb).trans z) ⟨o, e⟩ (itTO_ok (.inl st'))
    exact ⟨u, rfl, go_of (s := { s with heap := h' }) e c d (by decide) ⟨_, _, J, ru, ⟨List.getElem?_eq_getElem lt, rfl⟩, trivial, fun b hb => absurd hb (by simp)⟩⟩
  done := by
    intro Y rfl rfl rfl calm i pins s σ H E I _ _ ⟨hi, hq, e0⟩
    obtain ⟨its, rv, p, _⟩ := I.tuple hq
    have hl := rv.length
    refine tupleIter_stops (I.ok.hd calm) ((I.hok it _ hi).1.imp id fun z => z.2) p (by simp; omega) fun h' eb sp => ⟨rfl, ?_⟩
    have J := I.write (x := it) (e := it) (o := ItTO t it i zs.length) (h' := h') (t' := s.toks) (by rw [hi]; exact True.intro) (.inl rfl) (fun b o nb z => eb b o nb z) (let ⟨o, _, e, _⟩ := sp; ⟨o, e⟩) (itTO_ok (.inr ⟨e0, sp⟩))
    rw [upd_id hi] at J
    exact J
  self := by
    intro Y rfl rfl rfl i pins s σ H Q E I hj _ q
    have hi : H it = some (ItTO t it i zs.length) := hj.elim (fun z => z.1) fun z => z.1
    have ty : s.TypeIs (.ref it) "tuple_iterator" := (I.hok it _ hi).1.elim (fun z => z.typeIs) fun ⟨_, o, _, e, c, _⟩ => ⟨o, e, c⟩
    refine wpAny_pyIter_slot ty F.slot_tuple_iterator_iter (wpAny_call_entry F.slot_tuple_iterator_iter ty F.entry_tuple_iterator_iter ?_ (F.args_tuple_iterator_iter_1 _))
    show wpAny _ _ (ret (.ref it)) _ _ s
    exact wpAny_pure ⟨_, rfl, "tuple_iterator", _, ty, F.slot_tuple_iterator_next.lookup, q⟩

/-- what `for x in o` asks of the class: the method's promise is the iterator of a tuple -/
def tItOwn (K : PySem.W.Frag) (C : Addr) (sp : Sp) (E : XK) (ta : TE) : TI := fun σ H R => ta σ H fun x H1 => ∃ a dx fs, x = .ref a ∧ H1 a = some (.ins C dx fs) ∧
  sp [.ref a] H1 (fun v H2 => ∃ it t zs, v = .ref it ∧ H2 it = some (ItTup t it 0) ∧ SqT K H2 t zs ∧ t ≠ it ∧ R (ItO K t it zs) (upd H2 it (ItTO t it 0 zs.length))) E
section
variable {X : Cx} {n : Nat} {C fi : Addr} {fdI : FuncData} {psI : List Str} {spI : Sp} {EI : XK} {e : Expr} {tg : Expr} {ta : TE}
theorem pi_ownT (hs : PySem.W.findIn X.K (.ref C) "__iter__" = some (some (.ref fi))) (hf : PySem.W.isFn X.K (.ref fi) = true) (FI : FnOk X.prog X.w X.K X.mg X.base CX0 n fi fdI psI spI) (bI : L2.Binds X.K fdI psI []) (room : Room (n + 1) X.A) (he : PE X e ta) :
    PIe X tg e (tItOwn X.K C spI EI ta) := by
  refine ⟨fun pins s σ H R I h => wpAny_mono (he.run pins s σ H _ I h) (fun v s1 h1 => ?_) fun _ _ z => z⟩
  obtain ⟨x, H1, I1, rx, a, dx, fs, rfl, ha, q⟩ := h1
  cases rx
  obtain ⟨_, J, _⟩ := ins_get I1.hok ha
  obtain ⟨_, J, _⟩ := J.look
  obtain ⟨_, frm⟩ := I1.fr
  refine PySem.W.owit_iter frm I1.ok.mod.kin J hs hf ?_
  have r2 : Vals [V.ref a] [Value.ref a] := .cons rfl .nil
  have n2 : [Value.ref a].length = psI.length := r2.length.symm.trans (FI.len _ _ _ _ q)
  have bd := bI _ [Value.ref a] I1.kIn (by rw [List.append_nil]; exact n2)
  rw [List.append_nil] at bd
  refine wpAny_call (codeAny_mono (FI.run X.A X.stack _ _ ⟨[.ref a], []⟩ [.ref a] [.ref a] _ EI (room.mono (Nat.le_succ n)) I1.env0 bd r2 q) fun rr s' z => ?_)
  match rr, z with
  | .error er, z => exact False.elim z
  | .ok .next, z => exact False.elim z
  | .ok .brk, z => exact False.elim z
  | .ok .cont, z => exact False.elim z
  | .ok (.ret w), z =>
    obtain ⟨v, H2, I2, rv, it, t, zs, rfl, hit, hq, nt, hR⟩ := I1.after z
    cases rv
    obtain ⟨o, ho, hc, hd⟩ := (I2.hok it _ hit).1
    have ty : s'.TypeIs (.ref it) "tuple_iterator" := ⟨o, ho, hc⟩
    unfold PySem.W.OwitIt
    refine wpAny_specialOf ty PySem.F.slot_tuple_iterator_next.lookup ?_
    have I3 : Inv X pins σ (upd H2 it (ItTO t it 0 zs.length)) s' := I2.write (x := it) (e := it) (h' := s'.heap) (t' := s'.toks) (by rw [hit]; exact True.intro) (.inl rfl) (fun _ _ _ z => z) ⟨o, ho⟩ (itTO_ok (.inl ⟨o, ho, hc, hd⟩))
    exact ⟨it, [], fun _ _ => True, ItO X.K t it zs, _, rfl, I3, turn_own, trivial, fun b hb => absurd hb (by simp), hR⟩
end
end UL

set_option Elab.async false
set_option linter.all false
set_option maxRecDepth 100000
set_option maxHeartbeats 2000000
/-! own: sets of keys (texts and ints) whose members can be walked: set(xs) of a list or tuple, sorted(set), sorted(list of texts) of any length -/
namespace UL
open PySem PySem.Spec PyProof.Rows L2 Evl TL

/-! ### members -/
def mem1 (e : Int × Value) : Key := match e.2 with
  | .int k _ => .inl k
  | .str z _ => .inr z
  | _ => .inl 0
theorem mem1_of {k : Key} {x : Int × Value} (r : RelV (kV k) x.2) : mem1 x = k := by
  unfold mem1
  cases k with
  | inl i =>
    obtain ⟨t, e⟩ := r
    rw [e]
  | inr z =>
    obtain ⟨t, e⟩ := r
    rw [e]
structure MemOk (w : World) (e : Int × Value) : Prop where
  r : RelV (kV (mem1 e)) e.2
  h : e.1 = keyH w (mem1 e)
/-- the set at a: its members S, n of them -/
def SetM (w : World) (h : Heap) (a : Addr) (S : Key → Bool) (n : Nat) : Prop :=
  ∃ o es ep t, h.get? a = some o ∧ o.ExactSet ∧ o.data = .set es ep t ∧ (∀ e ∈ es.toList, MemOk w e) ∧ (es.toList.map mem1).Nodup ∧ (∀ k, S k = true ↔ k ∈ es.toList.map mem1) ∧
    es.size < scanBound ∧ t.fits es.size = true ∧ es.size = n ∧ Ris t.place.toList ∧ (w.params.followText "set-order" = true ∨ t.led = true)
section
variable {P : Program} {w : World} {h h' : Heap} {a : Addr} {S : Key → Bool} {n : Nat}
theorem SetM.at (R : SetM w h a S n) (k : ∀ o, h.get? a = some o → h'.get? a = some o) : SetM w h' a S n := by
  obtain ⟨o, es, ep, t, ho, r⟩ := R
  exact ⟨o, es, ep, t, k o ho, r⟩
theorem SetM.congr {S' : Key → Bool} (R : SetM w h a S n) (e : ∀ k, S' k = S k) : SetM w h a S' n := by
  rw [show S' = S from funext e]
  exact R
theorem mems_ok {l : List (Int × Value)} (g : ∀ e ∈ l, MemOk w e) : ElemsOf (mixKind P w) l := fun e he =>
  ⟨⟨mem1 e, kV_is (g e he).r, (g e he).h⟩, key_scan (g e he).r⟩
theorem mem_is {e : Int × Value} (g : MemOk w e) (k : Key) : (mixKind P w).is k e.2 = true ↔ mem1 e = k :=
  ⟨fun z => (mixKind P w).inj _ _ _ (kV_is g.r) z, fun z => z ▸ kV_is g.r⟩
theorem mems_mem {l : List (Int × Value)} (g : ∀ e ∈ l, MemOk w e) (k : Key) : k ∈ l.map mem1 ↔ ∃ e ∈ l, (mixKind P w).is k e.2 = true := by
  rw [List.mem_map]
  exact ⟨fun ⟨e, he, q⟩ => ⟨e, he, (mem_is (g e he) k).2 q⟩, fun ⟨e, he, q⟩ => ⟨e, he, (mem_is (g e he) k).1 q⟩⟩
theorem SetM.setOf (R : SetM w h a S n) : h.SetOf (mixKind P w) a S n := by
  obtain ⟨o, es, ep, t, ho, hx, hd, g, nd, hm, hb, hf, hn, _⟩ := R
  exact ⟨o, es, ep, t, ho, hx, hd, mems_ok g, fun k => (hm k).trans (mems_mem g k), hb, hf, hn⟩
end
section
variable {P : Program} {w : World} {A : Around} {E : Value → Shared → Prop} {s : Shared} {a : Addr} {S : Key → Bool} {n : Nat}
/-! ### one more -/
theorem setM_tail {g : Bool → Sem Unit} (hg : ∀ (b : Bool) (s₁ : Shared) (Q' : Unit → Shared → Prop), Q' () s₁ → wpAny (model P w) A (g b) Q' E s₁)
    {o : Obj} {es : Array (Int × Value)} {ep : Nat} {t : SetTable} (ho : s.heap.get? a = some o) (hex : o.ExactSet) (hd : o.data = .set es ep t)
    {es1 : Array (Int × Value)} {t2 : SetTable} {S' : Key → Bool} (g1 : ∀ e ∈ es1.toList, MemOk w e) (nd1 : (es1.toList.map mem1).Nodup) (m1 : ∀ k, S' k = true ↔ k ∈ es1.toList.map mem1)
    (hb1 : es1.size < scanBound) (hf2 : t2.fits es1.size = true) (hr : Ris t2.place.toList) (hl : w.params.followText "set-order" = true ∨ t2.led = true) {wasDummy : Bool} {R : Option Bool → Shared → Prop}
    (hR : ∀ h', Heap.SameBut a s.heap h' → SetM w h' a S' es1.size → R (some true) { s with heap := h' }) :
    wpAny (model P w) A (do
        storeSet a es1 t2
        if (!wasDummy && t2.tooFull) = true then do
            g (relayAll t2 es1 (SetTable.grown es1.size)).2.2
            storeSet a (relayAll t2 es1 (SetTable.grown es1.size)).1 (relayAll t2 es1 (SetTable.grown es1.size)).2.1
            pure (some true)
          else pure (some true)) R E s := by
  refine wpAny_bind (wpAny_storeSet_of ho hd ?_ (fits_of_scanBound hb1))
  have one := store_at (es' := es1) (t' := t2) ho hd
  have same := Heap.SameBut.update s.heap a (Obj.putSet es1 t2)
  split
  · have p1 := relayAll_perm t2 es1 (SetTable.grown es1.size)
    have p2 := relayAll_fits t2 es1 (SetTable.grown es1.size)
    have p3 := relayAll_ris t2 es1 (SetTable.grown es1.size)
    have p4 := relayAll_led t2 es1 (SetTable.grown es1.size)
    generalize relayAll t2 es1 (SetTable.grown es1.size) = Z at p1 p2 p3 p4 ⊢
    obtain ⟨es2, t3, gave⟩ := Z
    dsimp only at p1 p2 p3 p4 ⊢
    have sz : es2.size = es1.size := by rw [← Array.length_toList, p1.length_eq, Array.length_toList]
    refine wpAny_bind (hg _ _ _ (wpAny_bind (wpAny_storeSet_of one rfl ?_ (fits_of_scanBound (by rw [sz]; exact hb1)))))
    refine wpAny_pure (hR _ (same.trans (Heap.SameBut.update _ a _)) ⟨_, es2, _, t3, store_at (es' := es2) (t' := t3) one rfl, hex, rfl, fun e he => g1 e (p1.mem_iff.mp he), (p1.map mem1).nodup_iff.mpr nd1,
      fun k => (m1 k).trans (p1.map mem1).mem_iff.symm, by rw [sz]; exact hb1, p2, sz, p3, hl.imp id fun z => by rw [p4]; exact z⟩)
  · exact wpAny_pure (hR _ same ⟨_, es1, _, t2, one, hex, rfl, g1, nd1, m1, hb1, hf2, rfl, hr, hl⟩)
theorem setM_add {k : Key} {u : Value} {Q : Bool → Shared → Prop} (R : SetM w s.heap a S n) (ru : RelV (kV k) u) (room : n + 1 < scanBound)
    (hQ : ∀ h', Heap.SameBut a s.heap h' → SetM w h' a (fun j => S j || decide (j = k)) (if S k = true then n else n + 1) → Q (!S k) { s with heap := h' }) :
    wpAny (model P w) A (setAddHashed a u ((mixKind P w).hash k)) Q E s := by
  obtain ⟨o, es, ep, t, ho, hex, hd, g, nd, hm, hb, hf, hn, hr, hl⟩ := R
  have isk : (mixKind P w).is k u = true := kV_is ru
  have sc : u.scannable = true := key_scan ru
  have els : ElemsOf (mixKind P w) es.toList := mems_ok g
  unfold setAddHashed setAddHashedIn
  refine wpAny_holding (wpAny_bind (wpAny_setState_of ho hd hf ?_))
  dsimp only
  rw [byScan_of sc hb els]
  simp only [↓reduceIte]
  unfold setAddByScan
  refine wpAny_bind (wpAny_bind (wpAny_rule (wpAny_bind (wpAny_setScan_of isk ho hd hf els ?_))))
  cases hfi : List.findIdx? (fun e => (mixKind P w).is k e.2) es.toList with
  | some j =>
    dsimp only
    obtain ⟨hj, pj, _⟩ := List.findIdx?_eq_some_iff_getElem.mp hfi
    have there : S k = true := (hm k).2 ((mems_mem (P := P) g k).2 ⟨es.toList[j], List.getElem_mem hj, pj⟩)
    have q := hQ s.heap (Heap.SameBut.refl a s.heap) ⟨o, es, ep, t, ho, hex, hd, g, nd, fun i => by
      rw [Bool.or_eq_true, decide_eq_true_eq, ← hm i]
      exact ⟨fun z => z.elim id (fun e => e ▸ there), .inl⟩, hb, hf, by rw [if_pos there]; exact hn, hr, hl⟩
    rw [there] at q
    exact wpAny_pure (wpAny_pure q)
  | none =>
    dsimp only
    have out : k ∉ es.toList.map mem1 := fun z => by
      obtain ⟨e, he, q⟩ := (mems_mem (P := P) g k).1 z
      have c := List.findIdx?_eq_none_iff.mp hfi e he
      rw [q] at c
      cases c
    have off : S k = false := by
      cases q : S k with
      | false => rfl
      | true => exact absurd ((hm k).1 q) out
    have pm := layNew_perm t es ((mixKind P w).hash k) u
    have f1 := layNew_fits t es ((mixKind P w).hash k) u
    have r1 := layNew_ris t es ((mixKind P w).hash k) u hr
    have l1 := layNew_led t es ((mixKind P w).hash k) u
    generalize layNew t es ((mixKind P w).hash k) u = Z at pm f1 r1 l1 ⊢
    obtain ⟨es1, t1, wasDummy, gave⟩ := Z
    dsimp only at pm f1 r1 l1 ⊢
    rw [Array.toList_push] at pm
    have pc : es1.toList.Perm (((mixKind P w).hash k, u) :: es.toList) := pm.trans (List.perm_append_singleton _ _)
    have mk : mem1 ((mixKind P w).hash k, u) = k := mem1_of ru
    have pk : (es1.toList.map mem1).Perm (k :: es.toList.map mem1) := by
      have z := pc.map mem1
      rw [List.map_cons, mk] at z
      exact z
    have g1 : ∀ e ∈ es1.toList, MemOk w e := fun e he => by
      rcases List.mem_cons.mp (pc.mem_iff.mp he) with z | z
      · rw [z]
        exact ⟨by rw [mk]; exact ru, by rw [mk]; rfl⟩
      · exact g e z
    have nd1 : (es1.toList.map mem1).Nodup := pk.nodup_iff.mpr (List.nodup_cons.mpr ⟨out, nd⟩)
    have m1 : ∀ i, (S i || decide (i = k)) = true ↔ i ∈ es1.toList.map mem1 := fun i => by
      rw [Bool.or_eq_true, decide_eq_true_eq, hm i, pk.mem_iff, List.mem_cons]
      exact Or.comm
    have sz : es1.size = n + 1 := by rw [← Array.length_toList, pc.length_eq, List.length_cons, Array.length_toList, hn]
    have b1 : es1.size < scanBound := by rw [sz]; exact room
    have led : w.params.followText "set-order" = true ∨ t1.led = true := hl.imp id fun z => by rw [l1]; exact z
    have fin : ∀ h', Heap.SameBut a s.heap h' → SetM w h' a (fun j => S j || decide (j = k)) es1.size → Q true { s with heap := h' } := fun h' sb r => by
      have q := hQ h' sb
      rw [off] at q
      rw [sz] at r
      exact q r
    have give : ∀ (b : Bool) (s₁ : Shared) (Q' : Unit → Shared → Prop), Q' () s₁ → wpAny (model P w) A (match b with | true => rule "set.scan.the-table-gave-way" | false => pure ()) Q' E s₁ :=
      fun b s₁ Q' q => by cases b <;> first | exact wpAny_pure q | exact wpAny_rule q
    refine wpAny_bind (give _ _ _ ?_)
    split
    · refine wpAny_bind ?_
      rw [hashByValue_scannable 8 sc]
      refine wpAny_pure (setM_tail ?_ ho hex hd g1 nd1 m1 b1 ?_ ?_ ?_ ?_)
      · intro b s₁ Q' q
        cases b <;> first | exact wpAny_pure q | exact wpAny_rule q
      · first | (split <;> first | exact f1 | exact SetTable.fits_plain_off f1) | exact f1
      · first | (split <;> exact r1) | exact r1
      · first | (split <;> exact led) | exact led
      · intro h' sb r
        dsimp only
        exact wpAny_pure (fin h' sb r)
    · refine wpAny_bind (wpAny_pure ?_)
      simp only [↓reduceIte]
      refine setM_tail ?_ ho hex hd g1 nd1 m1 b1 f1 r1 led ?_
      · intro b s₁ Q' q
        cases b <;> first | exact wpAny_pure q | exact wpAny_rule q
      · intro h' sb r
        dsimp only
        exact wpAny_pure (fin h' sb r)
end
/-! ### set(xs) -/
def isin (ks : List Key) (j : Key) : Bool := ks.any fun k => decide (k = j)
theorem isin_iff {ks : List Key} {j : Key} : isin ks j = true ↔ j ∈ ks := by
  unfold isin
  rw [List.any_eq_true]
  exact ⟨fun ⟨k, hk, e⟩ => of_decide_eq_true e ▸ hk, fun h => ⟨j, h, decide_eq_true rfl⟩⟩
theorem isin_snoc {ks : List Key} {k j : Key} : isin (ks ++ [k]) j = (isin ks j || decide (j = k)) := by
  unfold isin
  rw [List.any_append]
  show (_ || (decide (k = j) || false)) = _
  rw [Bool.or_false, show decide (k = j) = decide (j = k) from decide_eq_decide.mpr eq_comm]
theorem setM_empty {w : World} {h : Heap} {a : Addr} (ho : h.get? a = some { cls := .type "set", dict := none, data := .set #[] 0 (.fresh 0 0 (!w.params.followText "set-order")) }) : SetM w h a (fun _ => false) 0 :=
  ⟨_, #[], 0, _, ho, ⟨rfl, rfl, rfl⟩, rfl, (fun e he => by simp at he), (by simp), (fun k => by simp), (by decide), (by rfl), rfl, List.Pairwise.nil, by
    show _ ∨ (!w.params.followText "set-order") = true
    cases w.params.followText "set-order"
    · exact .inr rfl
    · exact .inl rfl⟩
section
variable {P : Program} {w : World} {A : Around} {E : Value → Shared → Prop} {s : Shared}
theorem setM_loop {I : Addr} {fp wr : List Addr} {G : Array GenState → Array GenState → Prop} {n : Nat} {Pv : Nat → Value → Prop} {St : Nat → Shared → Prop} {R : Result → Shared → Prop}
    (W : WalksS P w A.in1 I fp wr G n Pv St) (S : Addr) (hSf : S ∉ fp) (ks : List Key) (hn : n = ks.length) (hb : ks.length + 1 < scanBound) (hval : ∀ i v, Pv i v → ∃ k, ks[i]? = some k ∧ RelV (kV k) v) :
    ∀ (m i : Nat) (s : Shared), n - i = m → i ≤ n → St i s → (∃ c, c ≤ i ∧ SetM w s.heap S (fun j => isin (ks.take i) j) c) →
      (∀ s' c, Moved (S :: wr) G s s' → c ≤ n → SetM w s'.heap S (fun j => isin ks j) c → R (.ok (.ret .none)) s') →
      codeAny (model P w) A (.builtin "set.update.loop" ⟨[.ref S, .ref I], []⟩) R s := by
  have out : S ∉ wr := fun h => hSf (W.sub _ h)
  have more : ∀ b ∈ wr, b ∈ S :: wr := fun b hb => List.mem_cons_of_mem _ hb
  intro m
  induction m with
  | zero =>
    intro i s hm hi hst ⟨c, hc, hS⟩ hR
    obtain rfl : i = n := by omega
    refine codeAny_builtin F.entry_set_update_loop ?_
    rw [Around.under_plainId F.plain_set_update_loop _]
    show wpAny _ A.in1 (pyNext (.ref I) >>= _) _ _ s
    refine wpAny_bind (W.done s _ _ hst fun s' mv => ?_)
    show wpAny _ A.in1 (ret Value.none) _ _ s'
    rw [show ks.take i = ks from List.take_of_length_le (by omega)] at hS
    exact wpAny_pure (hR s' c (mv.mono more) hc (hS.at fun o e => mv.heap S o out e))
  | succ m ih =>
    intro i s hm hi hst ⟨c, hc, hS⟩ hR
    have lt : i < n := by omega
    refine codeAny_builtin F.entry_set_update_loop ?_
    rw [Around.under_plainId F.plain_set_update_loop _]
    show wpAny _ A.in1 (pyNext (.ref I) >>= _) _ _ s
    refine wpAny_bind (W.item i s _ _ lt hst fun v s' hP hst' mv => ?_)
    obtain ⟨z, hz, rv⟩ := hval i v hP
    have hS' : SetM w s'.heap S (fun j => isin (ks.take i) j) c := hS.at fun o e => mv.heap S o out e
    show wpAny _ A.in1 (holding [v] (setAdd S v) >>= _) _ _ s'
    refine wpAny_bind (wpAny_holding ?_)
    unfold setAdd
    refine wpAny_holding (wpAny_bind ((mixKind P w).pyHash (k := z) (kV_is rv) ?_))
    refine setM_add (s := { s' with toks := s'.toks + 1 }) hS' rv (by omega) fun h' sb hS2 => ?_
    have hS3 : SetM w h' S (fun j => isin (ks.take (i + 1)) j) (if isin (ks.take i) z = true then c else c + 1) := hS2.congr fun j => by
      rw [List.take_add_one, hz]
      exact isin_snoc
    have c3 : (if isin (ks.take i) z = true then c else c + 1) ≤ i + 1 := by
      split <;> omega
    refine wpAny_pure ⟨plainId_quiet F.plain_set_update_loop _, ih (i + 1) _ (by omega) lt (W.frame _ s' _ _ hst' (Nat.le_succ _) fun b hb o e => ?_) ⟨_, c3, hS3⟩ fun s'' c2 mv2 hc2 hS4 => ?_⟩
    · rw [sb.2 b (fun h : b = S => hSf (h ▸ hb))]
      exact e
    · refine hR s'' c2 (Moved.trans W.gtrans ((mv.mono more).then_heap (Nat.le_succ _) fun b o hb e => ?_) mv2) hc2 hS4
      rw [sb.2 b (fun h : b = S => hb (h ▸ List.mem_cons_self))]
      exact e

set_option maxHeartbeats 3200000 in
theorem call_set_list {l : Addr} {items : Array Value} (ks : List Key) {Q : Value → Shared → Prop} (hh : A.handled = none) (hl : s.heap.IsList l items) (hit : Vals (ks.map kV) items.toList) (hb : ks.length + 1 < scanBound)
    (h : ∀ (h' : Heap) (tk c : Nat), SetM w h' s.heap.objs.size (fun j => isin ks j) c → c ≤ ks.length → (∀ b o, s.heap.get? b = some o → h'.get? b = some o) → Q (.ref s.heap.objs.size) { s with heap := h', toks := tk }) :
    wpAny (model P w) A (call (.type "set") [.ref l]) Q E s := by
  have isz : items.size = ks.length := by
    have q := hit.length
    rw [List.length_map, Array.length_toList] at q
    exact q.symm
  obtain ⟨c, tl, hmro⟩ := F.called_set.mro
  have hmade := F.called_set.made
  have hsub := F.called_set.sub
  refine wpAny_call (codeAny_of_tree ?_)
  show wpAny _ _ (callAny (.type "set") _) _ _ _
  refine wpAny_pure ⟨Code.quiet_builtin _ (by decide +kernel), codeAny_builtin F.entry_type_call ?_⟩
  rw [Around.under_plain (weight_type_call_type "set" [.ref l] []) rfl]
  have h1 := F.called_set.notType
  have h2 := F.called_set.canCreate
  have hct := F.typeCall_set_1 (.ref l)
  repeat (any_goals (first | assumption | wp_step))
  refine codeAny_mono (code_set_led1 (.ref l) (E := E) (Q₁ := fun obj s₁ => obj = .ref s.heap.objs.size ∧ s₁ = { s with heap := s.heap.push { cls := .type "set", dict := none, data := .set #[] 0 (.fresh 0 0 (!w.params.followText "set-order")) } }) ⟨rfl, rfl⟩) fun r s₁ hr => ?_
  cases r with
  | error e => exact hr
  | ok fl =>
    cases fl with
    | ret obj =>
      obtain ⟨rfl, rfl⟩ := hr
      have hS : (s.heap.push { cls := .type "set", dict := none, data := .set #[] 0 (.fresh 0 0 (!w.params.followText "set-order")) }).get? s.heap.objs.size = some { cls := .type "set", dict := none, data := .set #[] 0 (.fresh 0 0 (!w.params.followText "set-order")) } := Heap.get?_push_size _ rfl
      have hT : Shared.TypeIs { s with heap := s.heap.push { cls := .type "set", dict := none, data := .set #[] 0 (.fresh 0 0 (!w.params.followText "set-order")) } } (.ref s.heap.objs.size) "set" := ⟨_, hS, rfl⟩
      have hli := F.called_set.init.lookup
      have hbi := F.called_set.init.bind (.ref s.heap.objs.size)
      repeat (any_goals (first | assumption | wp_step))
      refine codeAny_mono (codeAny_call_builtin (R := wants (fun r s₂ => r = .none ∧ ∃ h' tk c, s₂ = { s with heap := h', toks := tk } ∧ SetM w h' s.heap.objs.size (fun j => isin ks j) c ∧ c ≤ ks.length ∧
          (∀ b o, s.heap.get? b = some o → h'.get? b = some o)) E) F.called_set.init.plain F.entry_set_init (check_set_init_1 hT ?_)) fun r₂ s₂ hr₂ => ?_
      · obtain ⟨ol, hol, hcl, nl, hdl⟩ := hl
        obtain ⟨ocls, odict, odata, oslots⟩ := ol
        simp only at hcl hdl
        subst hcl
        subst hdl
        have hol' : (s.heap.push { cls := .type "set", dict := none, data := .set #[] 0 (.fresh 0 0 (!w.params.followText "set-order")) }).get? l = some { cls := .type "list", dict := odict, data := .seq items nl, slots := oslots } := Heap.get?_push_of_some _ hol
        have sub1 := F.sub_list_set
        have sub2 := F.sub_list_frozenset
        have other : (Value.type "list" == Value.type "dict") = false := by decide
        have hl1 : (s.heap.push { cls := .type "set", dict := none, data := .set #[] 0 (.fresh 0 0 (!w.params.followText "set-order")) }).IsList l items := ⟨_, hol', rfl, nl, rfl⟩
        unfold Builtin.«set.__init__» noKeywords Builtin.Frozenset.updateFrom
        generalize hPI : pyIter = PI
        wp_walk
        subst hPI
        refine wpAny_pyIter_list hl1 ?_
        refine wpAny_bind (wpAny_runValue ?_)
        have hlS : l < s.heap.objs.size := Heap.lt_size hol
        have hh3 : A.in1.in1.in1.handled = none := by simp [hh]
        have sz1 : (s.heap.push { cls := .type "set", dict := none, data := .set #[] 0 (.fresh 0 0 (!w.params.followText "set-order")) }).objs.size = s.heap.objs.size + 1 := Heap.size_push ..
        have neI : l ≠ (s.heap.push { cls := .type "set", dict := none, data := .set #[] 0 (.fresh 0 0 (!w.params.followText "set-order")) }).objs.size := by rw [sz1]; exact Nat.ne_of_lt (Nat.lt_succ_of_lt hlS)
        have hSf : s.heap.objs.size ∉ [(s.heap.push { cls := .type "set", dict := none, data := .set #[] 0 (.fresh 0 0 (!w.params.followText "set-order")) }).objs.size, l] := by
          rw [sz1]
          simp only [List.mem_cons, List.mem_singleton, List.not_mem_nil, or_false, not_or]
          exact ⟨Nat.ne_of_lt (Nat.lt_succ_self _), Nat.ne_of_gt hlS⟩
        have hval : ∀ (i : Nat) (v : Value), items[i]? = some v → ∃ k, ks[i]? = some k ∧ RelV (kV k) v := fun i v hv => by
          have hi : i < ks.length := by rw [← isz]; exact (Array.getElem?_eq_some_iff.mp hv).1
          have e1 : (ks.map kV)[i]? = some (kV ks[i]) := by rw [List.getElem?_map, List.getElem?_eq_getElem hi]; rfl
          obtain ⟨u, e2, r⟩ := hit.get e1
          rw [Array.getElem?_toList, hv] at e2
          cases e2
          exact ⟨ks[i], List.getElem?_eq_getElem hi, r⟩
        refine setM_loop ((Walks.list hh3 _ l neI items).toS) s.heap.objs.size hSf ks isz hb hval (items.size - 0) 0 _ (by omega) (Nat.zero_le _) ⟨⟨_, Heap.get?_push_size _ rfl, rfl, rfl⟩, (hl1.push _)⟩ ?hS0 ?hR
        case hS0 =>
          have got : ((s.heap.push { cls := .type "set", dict := none, data := .set #[] 0 (.fresh 0 0 (!w.params.followText "set-order")) }).push { cls := .type "list_iterator", data := .fields #[.ref l, .int 0 0] }).get? s.heap.objs.size = some { cls := .type "set", dict := none, data := .set #[] 0 (.fresh 0 0 (!w.params.followText "set-order")) } := Heap.get?_push_of_some _ hS
          refine ⟨0, Nat.le_refl 0, (setM_empty (w := w) got).congr fun k => ?_⟩
          rw [List.take_zero]
          rfl
        case hR =>
          intro s' c' mv hc' hS'
          obtain ⟨h', g2, d', tk', os'⟩ := s'
          have eg : g2 = s.gens := mv.gens
          have ed : d' = s.drawn := mv.drawn
          have eo : os' = s.os := mv.os
          subst eg
          subst ed
          subst eo
          show wpAny _ _ _ _ _ _
          refine wpAny_pure ?_
          show wpAny _ _ (ret Value.none) _ _ _
          rw [isz] at hc'
          refine wpAny_pure ⟨rfl, h', tk', c', rfl, hS', hc', fun b o e => ?_⟩
          have lt : b < s.heap.objs.size := Heap.lt_size e
          exact mv.heap b o (by rw [sz1]; simp only [List.mem_cons, List.mem_singleton, List.not_mem_nil, or_false, not_or]; exact ⟨Nat.ne_of_lt lt, Nat.ne_of_lt (Nat.lt_succ_of_lt lt)⟩) (Heap.get?_push_of_some _ (Heap.get?_push_of_some _ e))
      · cases r₂ with
        | error e => exact hr₂
        | ok fl₂ =>
          cases fl₂ with
          | ret r =>
            obtain ⟨rfl, h', tk, c', rfl, hS', hc', hk'⟩ := hr₂
            repeat (any_goals (first | assumption | wp_step))
            exact h _ _ _ hS' hc' hk'
          | _ => exact hr₂.elim
    | _ => exact hr.elim

set_option maxHeartbeats 3200000 in
theorem call_set_tuple {l : Addr} {items : Array Value} (ks : List Key) {Q : Value → Shared → Prop} (hh : A.handled = none) (hl : s.heap.IsTuple l items) (hit : Vals (ks.map kV) items.toList) (hb : ks.length + 1 < scanBound)
    (h : ∀ (h' : Heap) (tk c : Nat), SetM w h' s.heap.objs.size (fun j => isin ks j) c → c ≤ ks.length → (∀ b o, s.heap.get? b = some o → h'.get? b = some o) → Q (.ref s.heap.objs.size) { s with heap := h', toks := tk }) :
    wpAny (model P w) A (call (.type "set") [.ref l]) Q E s := by
  have isz : items.size = ks.length := by
    have q := hit.length
    rw [List.length_map, Array.length_toList] at q
    exact q.symm
  obtain ⟨c, tl, hmro⟩ := F.called_set.mro
  have hmade := F.called_set.made
  have hsub := F.called_set.sub
  refine wpAny_call (codeAny_of_tree ?_)
  show wpAny _ _ (callAny (.type "set") _) _ _ _
  refine wpAny_pure ⟨Code.quiet_builtin _ (by decide +kernel), codeAny_builtin F.entry_type_call ?_⟩
  rw [Around.under_plain (weight_type_call_type "set" [.ref l] []) rfl]
  have h1 := F.called_set.notType
  have h2 := F.called_set.canCreate
  have hct := F.typeCall_set_1 (.ref l)
  repeat (any_goals (first | assumption | wp_step))
  refine codeAny_mono (code_set_led1 (.ref l) (E := E) (Q₁ := fun obj s₁ => obj = .ref s.heap.objs.size ∧ s₁ = { s with heap := s.heap.push { cls := .type "set", dict := none, data := .set #[] 0 (.fresh 0 0 (!w.params.followText "set-order")) } }) ⟨rfl, rfl⟩) fun r s₁ hr => ?_
  cases r with
  | error e => exact hr
  | ok fl =>
    cases fl with
    | ret obj =>
      obtain ⟨rfl, rfl⟩ := hr
      have hS : (s.heap.push { cls := .type "set", dict := none, data := .set #[] 0 (.fresh 0 0 (!w.params.followText "set-order")) }).get? s.heap.objs.size = some { cls := .type "set", dict := none, data := .set #[] 0 (.fresh 0 0 (!w.params.followText "set-order")) } := Heap.get?_push_size _ rfl
      have hT : Shared.TypeIs { s with heap := s.heap.push { cls := .type "set", dict := none, data := .set #[] 0 (.fresh 0 0 (!w.params.followText "set-order")) } } (.ref s.heap.objs.size) "set" := ⟨_, hS, rfl⟩
      have hli := F.called_set.init.lookup
      have hbi := F.called_set.init.bind (.ref s.heap.objs.size)
      repeat (any_goals (first | assumption | wp_step))
      refine codeAny_mono (codeAny_call_builtin (R := wants (fun r s₂ => r = .none ∧ ∃ h' tk c, s₂ = { s with heap := h', toks := tk } ∧ SetM w h' s.heap.objs.size (fun j => isin ks j) c ∧ c ≤ ks.length ∧
          (∀ b o, s.heap.get? b = some o → h'.get? b = some o)) E) F.called_set.init.plain F.entry_set_init (check_set_init_1 hT ?_)) fun r₂ s₂ hr₂ => ?_
      · obtain ⟨ol, hol, hcl, nl, hdl⟩ := hl
        obtain ⟨ocls, odict, odata, oslots⟩ := ol
        simp only at hcl hdl
        subst hcl
        subst hdl
        have hol' : (s.heap.push { cls := .type "set", dict := none, data := .set #[] 0 (.fresh 0 0 (!w.params.followText "set-order")) }).get? l = some { cls := .type "tuple", dict := odict, data := .seq items nl, slots := oslots } := Heap.get?_push_of_some _ hol
        have sub1 := F.sub_tuple_set
        have sub2 := F.sub_tuple_frozenset
        have other : (Value.type "tuple" == Value.type "dict") = false := by decide
        have hl1 : (s.heap.push { cls := .type "set", dict := none, data := .set #[] 0 (.fresh 0 0 (!w.params.followText "set-order")) }).IsTuple l items := ⟨_, hol', rfl, nl, rfl⟩
        unfold Builtin.«set.__init__» noKeywords Builtin.Frozenset.updateFrom
        generalize hPI : pyIter = PI
        wp_walk
        subst hPI
        refine wpAny_pyIter_tuple hl1 ?_
        refine wpAny_bind (wpAny_runValue ?_)
        have hlS : l < s.heap.objs.size := Heap.lt_size hol
        have hh3 : A.in1.in1.in1.handled = none := by simp [hh]
        have sz1 : (s.heap.push { cls := .type "set", dict := none, data := .set #[] 0 (.fresh 0 0 (!w.params.followText "set-order")) }).objs.size = s.heap.objs.size + 1 := Heap.size_push ..
        have neI : l ≠ (s.heap.push { cls := .type "set", dict := none, data := .set #[] 0 (.fresh 0 0 (!w.params.followText "set-order")) }).objs.size := by rw [sz1]; exact Nat.ne_of_lt (Nat.lt_succ_of_lt hlS)
        have hSf : s.heap.objs.size ∉ [(s.heap.push { cls := .type "set", dict := none, data := .set #[] 0 (.fresh 0 0 (!w.params.followText "set-order")) }).objs.size, l] := by
          rw [sz1]
          simp only [List.mem_cons, List.mem_singleton, List.not_mem_nil, or_false, not_or]
          exact ⟨Nat.ne_of_lt (Nat.lt_succ_self _), Nat.ne_of_gt hlS⟩
        have hval : ∀ (i : Nat) (v : Value), items[i]? = some v → ∃ k, ks[i]? = some k ∧ RelV (kV k) v := fun i v hv => by
          have hi : i < ks.length := by rw [← isz]; exact (Array.getElem?_eq_some_iff.mp hv).1
          have e1 : (ks.map kV)[i]? = some (kV ks[i]) := by rw [List.getElem?_map, List.getElem?_eq_getElem hi]; rfl
          obtain ⟨u, e2, r⟩ := hit.get e1
          rw [Array.getElem?_toList, hv] at e2
          cases e2
          exact ⟨ks[i], List.getElem?_eq_getElem hi, r⟩
        refine setM_loop ((Walks.tuple hh3 _ l neI items).toS) s.heap.objs.size hSf ks isz hb hval (items.size - 0) 0 _ (by omega) (Nat.zero_le _) ⟨⟨_, Heap.get?_push_size _ rfl, rfl, rfl⟩, (hl1.push _)⟩ ?hS0 ?hR
        case hS0 =>
          have got : ((s.heap.push { cls := .type "set", dict := none, data := .set #[] 0 (.fresh 0 0 (!w.params.followText "set-order")) }).push { cls := .type "tuple_iterator", data := .fields #[.ref l, .int 0 0] }).get? s.heap.objs.size = some { cls := .type "set", dict := none, data := .set #[] 0 (.fresh 0 0 (!w.params.followText "set-order")) } := Heap.get?_push_of_some _ hS
          refine ⟨0, Nat.le_refl 0, (setM_empty (w := w) got).congr fun k => ?_⟩
          rw [List.take_zero]
          rfl
        case hR =>
          intro s' c' mv hc' hS'
          obtain ⟨h', g2, d', tk', os'⟩ := s'
          have eg : g2 = s.gens := mv.gens
          have ed : d' = s.drawn := mv.drawn
          have eo : os' = s.os := mv.os
          subst eg
          subst ed
          subst eo
          show wpAny _ _ _ _ _ _
          refine wpAny_pure ?_
          show wpAny _ _ (ret Value.none) _ _ _
          rw [isz] at hc'
          refine wpAny_pure ⟨rfl, h', tk', c', rfl, hS', hc', fun b o e => ?_⟩
          have lt : b < s.heap.objs.size := Heap.lt_size e
          exact mv.heap b o (by rw [sz1]; simp only [List.mem_cons, List.mem_singleton, List.not_mem_nil, or_false, not_or]; exact ⟨Nat.ne_of_lt lt, Nat.ne_of_lt (Nat.lt_succ_of_lt lt)⟩) (Heap.get?_push_of_some _ (Heap.get?_push_of_some _ e))
      · cases r₂ with
        | error e => exact hr₂
        | ok fl₂ =>
          cases fl₂ with
          | ret r =>
            obtain ⟨rfl, h', tk, c', rfl, hS', hc', hk'⟩ := hr₂
            repeat (any_goals (first | assumption | wp_step))
            exact h _ _ _ hS' hc' hk'
          | _ => exact hr₂.elim
    | _ => exact hr.elim

/-! ### sorted(set) -/
theorem call_sorted_set {S : Key → Bool} {n : Nat} {a : Addr} {Q : Value → Shared → Prop} (R : SetM w s.heap a S n) (hS : ∀ k, S k = true → ∃ z, k = .inr z) (hh : A.handled = none)
    (hQ : ∀ s' p (out : Array Value) (c : Nat) (ys : List Str), (∀ b o, s.heap.get? b = some o → s'.heap.get? b = some o) → s'.gens = s.gens → s'.os = s.os → s.heap.objs.size ≤ p →
      s'.heap.get? p = some (seqObj "list" out c) → StrsAre out.toList ys → sortedS ys = true → ys.Nodup → (∀ z, z ∈ ys ↔ S (.inr z) = true) → ys.length = n → Q (.ref p) s') :
    wpAny (model P w) A (call (.builtin "sorted") [.ref a]) Q E s := by
  obtain ⟨o, es, ep, t, ho, hex, hd, g, nd, hm, hb, hf, hn, hr, hl⟩ := R
  refine Calls.call_function_entry kind_sorted plain_sorted entry_sorted (args_sorted1 _) ?_
  unfold Builtin.«sorted»
  refine wpAny_bind (m := checkCount "sorted" 1 1 _) (wpAny_pure ?_)
  refine wpAny_bind (collect_set (A := A.in1) hh ⟨o, ho, hex.1, hd⟩ hf hb hr hl fun s1 vs k1 hz g1 o1 pm => ?_)
  have hvl : vs.length = n := by rw [pm.length_eq, List.length_map, Array.length_toList]; exact hn
  have lim : vs.length ≤ sizeLine := by rw [hvl, ← hn]; exact fits_of_scanBound hb
  -- the members as texts
  have txt : ∀ e ∈ es.toList, ∃ z tk, e.2 = Value.str z tk ∧ mem1 e = .inr z := fun e he => by
    obtain ⟨z, hz⟩ := hS (mem1 e) ((hm _).2 (List.mem_map_of_mem he))
    have r := (g e he).r
    rw [hz] at r
    obtain ⟨tk, q⟩ := r
    exact ⟨z, tk, q, hz⟩
  have hI : StrsAre vs (vs.map strOf) := strsAre_map vs fun v hv => by
    obtain ⟨e, he, q⟩ := List.mem_map.mp (pm.mem_iff.mp hv)
    obtain ⟨z, tk, h1, _⟩ := txt e he
    exact ⟨z, tk, by rw [← q]; exact h1⟩
  have pk : (vs.map strOf).Perm (es.toList.map fun e => strOf e.2) := by
    have q := pm.map strOf
    rw [List.map_map] at q
    exact q
  have ek : (es.toList.map fun e => (Sum.inr (strOf e.2) : Key)) = es.toList.map mem1 := List.map_congr_left fun e he => by
    obtain ⟨z, tk, h1, h2⟩ := txt e he
    rw [h1, h2]
    rfl
  have kk : ((vs.map strOf).map Sum.inr : List Key).Perm (es.toList.map mem1) := by
    have q := pk.map (Sum.inr : Str → Key)
    rw [List.map_map (f := fun e : Int × Value => strOf e.2)] at q
    rw [← ek]
    exact q
  refine wpAny_bind (wpAny_newList ?_ lim)
  have hoL : (s1.heap.push (seqObj "list" vs.toArray 0)).get? s1.heap.objs.size = some (seqObj "list" vs.toArray 0) := Heap.get?_push_size _ rfl
  refine wpAny_bind (wpAny_holding (wpAny_call_entry slot_list_sort ⟨_, hoL, rfl⟩ entry_list_sort
    (list_sort_treeKAny strKind_oneLt hoL hI.keysOf (fun v₁ v₂ rest e => keyKind_strs (by rw [← e]; exact hI)) lim fun st' hp hs => ⟨_, rfl, ?_⟩) (args_list_sort _)))
  obtain ⟨ys, a1, a2, a3⟩ := sorted_out_str hI hp hs
  obtain ⟨c, hc⟩ := sortedHeap_at (vs := vs) (out := (arrOf st').map (·.2)) hoL
  have yk : (ys.map Sum.inr : List Key).Perm (es.toList.map mem1) := (a2.map Sum.inr).trans kk
  refine wpAny_pure ⟨_, rfl, hQ _ s1.heap.objs.size _ c ys (fun b u e => ?_) g1 o1 hz hc a1 a3 ?_ (fun z => ?_) ?_⟩
  · have q := k1 b u e
    have lt := Heap.lt_size q
    show (sortedHeap (s1.heap.push (seqObj "list" vs.toArray 0)) s1.heap.objs.size vs _).get? b = some u
    rw [sortedHeap_old (Nat.ne_of_lt lt) (by rw [size_push']; exact Nat.lt_succ_of_lt lt)]
    exact Heap.get?_push_of_some _ q
  · have q : (ys.map Sum.inr : List Key).Nodup := yk.nodup_iff.mpr nd
    exact List.Pairwise.imp (fun h e => h (congrArg Sum.inr e)) (List.pairwise_map.mp q)
  · rw [hm, ← yk.mem_iff]
    exact ⟨fun h => List.mem_map_of_mem h, fun h => by
      obtain ⟨y, hy, e⟩ := List.mem_map.mp h
      cases e
      exact hy⟩
  · have q := yk.length_eq
    rw [List.length_map, List.length_map] at q
    rw [q, Array.length_toList]
    exact hn
end
/-! ### as things of the abstract heap -/
def SetMO (w : World) (a : Addr) (S : Key → Bool) (n : Nat) : HO := .ext fun h => SetM w h a S n
theorem setMO_new {w : World} {P : Program} {H : Hp} {h : Heap} {a : Addr} {S : Key → Bool} {n : Nat} (R : SetM w h a S n) : ObjOk P w H h a (SetMO w a S n) := by
  have ⟨o, _, _, _, ho, _⟩ := R
  exact ⟨R, ⟨o, ho⟩, fun h1 h2 p k => SetM.at p k⟩
section
variable {X : Cx}
/-- set(xs) of a list or a tuple of texts and ints -/
def rSetOf (K : PySem.W.Frag) (w : World) : List V → Hp → VK → Prop := fun xs H Q => ∃ (l : Addr) (ks : List Key), xs = [.ref l] ∧ (SqL K H l (ks.map kV) ∨ SqT K H l (ks.map kV)) ∧ ks.length ≤ 4000 ∧
  ∀ p n, H p = none → n ≤ ks.length → Q (.ref p) (upd H p (SetMO w p (fun j => isin ks j) n))
theorem scan_room {n : Nat} (h : n ≤ 4000) : n + 1 < scanBound := Nat.lt_of_le_of_lt (Nat.succ_le_succ h) (by decide)
theorem call_setOf (hc : X.calm = true) : CallR X (.type "set") (rSetOf X.K X.w) := by
  intro pins s σ H xs us Q I r h
  obtain ⟨l, ks, rfl, hq, hz, q⟩ := h
  rw [Vals.ref1 r]
  have fin : ∀ (h' : Heap) (tk c : Nat), SetM X.w h' s.heap.objs.size (fun j => isin ks j) c → c ≤ ks.length → (∀ b o, s.heap.get? b = some o → h'.get? b = some o) → EP X pins σ Q (.ref s.heap.objs.size) { s with heap := h', toks := tk } := fun h' tk c hS hle k =>
    ⟨.ref _, upd H s.heap.objs.size (SetMO X.w s.heap.objs.size (fun j => isin ks j) c), I.laid (t' := tk) k (Nat.le_refl _) (setMO_new hS), rfl, q _ c (I.hok.fresh (Nat.le_refl _)) hle⟩
  rcases hq with hq | hq
  · obtain ⟨its, rv, hl, _⟩ := I.list hq
    exact call_set_list ks (I.ok.hd hc) hl.isList rv (scan_room hz) fin
  · obtain ⟨its, rv, ⟨o, e1, e2, m, e3⟩, _⟩ := I.tuple hq
    exact call_set_tuple ks (I.ok.hd hc) ⟨o, e1, e2, m, e3⟩ rv (scan_room hz) fin
/-- sorted(found), all members texts -/
def rSortedM (w : World) : List V → Hp → VK → Prop := fun vs H Q => ∃ (a : Addr) (S : Key → Bool) (n : Nat), vs = [V.ref a] ∧ H a = some (SetMO w a S n) ∧ n ≤ 4000 ∧ (∀ k, S k = true → ∃ z, k = .inr z) ∧
  ∀ (ys : List Str) (p : Addr), sortedS ys = true → ys.Nodup → (∀ z, z ∈ ys ↔ S (.inr z) = true) → ys.length = n → H p = none → Q (.ref p) (upd H p (.lst (ys.map V.str)))
theorem call_sortedM (hc : X.calm = true) : CallR X (.builtin "sorted") (rSortedM X.w) := by
  intro pins s σ H vs us Q I r h
  obtain ⟨a, S, n, rfl, ha, lim, tx, q⟩ := h
  have R : SetM X.w s.heap a S n := (I.hok a _ ha).1
  rw [Vals.ref1 r]
  refine call_sorted_set R tx (I.ok.hd hc) fun s' p out c ys k g o hp hg hi hs nd hm hl => ?_
  have hlen : (ys.map V.str).length ≤ sizeLine := by rw [List.length_map, hl]; exact Nat.le_trans lim (by decide)
  have hn : H p = none := I.hok.fresh hp
  have J : Inv X pins σ (upd H p (.lst (ys.map V.str))) { s with heap := s'.heap, gens := s'.gens, drawn := s'.drawn, toks := s'.toks } :=
    I.call (ch := []) (Un.laid k hp hn) (I.hok.laid k hp ⟨hlen, out.toList, c, vals_of_strs hi, hg⟩) (by rw [g]; exact I.bare) (fun _ z => nomatch z)
  have e : s' = { s with heap := s'.heap, gens := s'.gens, drawn := s'.drawn, toks := s'.toks } := by
    cases s'
    cases s
    cases o
    rfl
  rw [e]
  exact ⟨.ref p, _, J, rfl, q ys p hs nd hm hl hn⟩
/-- sorted(xs), a list of texts of any length -/
def rSortedA (K : PySem.W.Frag) : List V → Hp → VK → Prop := fun vs H Q => ∃ (a : Addr) (xs : List Str), vs = [V.ref a] ∧ SqL K H a (xs.map V.str) ∧
  ∀ (ys : List Str) (p : Addr), ys.Perm xs → sortedS ys = true → H p = none → Q (.ref p) (upd H p (.lst (ys.map V.str)))
theorem call_sortedA : CallR X (.builtin "sorted") (rSortedA X.K) := by
  intro pins s σ H vs us Q I r h
  obtain ⟨a, xs, rfl, hs, q⟩ := h
  obtain ⟨its, rv, hl, lim⟩ := I.list hs
  rw [Vals.ref1 r]
  have n0 := rv.length
  refine sorted_strsAny hl.isList rv.strs (by rw [← n0]; exact lim) fun out ys h1 h2 h3 => ?_
  obtain ⟨ep, he'⟩ := sortedAll_at s.heap its out
  have hlen : (ys.map V.str).length ≤ sizeLine := by
    rw [List.length_map, h2.length_eq]
    rw [List.length_map] at lim
    exact lim
  exact ⟨.ref _, upd H (s.heap.objs.size + 1) (.lst (ys.map V.str)), I.laid (t' := s.toks) (fun _ _ => sortedAll_old) (Nat.le_succ _) ⟨hlen, out.toList, ep, vals_of_strs h1, he'⟩, rfl, q ys _ h2 h3 (I.hok.fresh (Nat.le_succ _))⟩
end
end UL

set_option Elab.async false
set_option linter.all false
set_option maxRecDepth 100000
/-! own: texts in ascending order without duplicates -/
namespace UL
open PySem PySem.Spec PyProof.Rows L2 Evl TL

def ltS (a b : Str) : Bool := ltCps a.cps.toList b.cps.toList
theorem lt_iff {a b : Str} : ltS a b = true ↔ a.cps.toList < b.cps.toList := by
  unfold ltS
  rw [ltCps_eq, decide_eq_true_eq]
theorem str_eq {a b : Str} (h : a.cps.toList = b.cps.toList) : a = b := by
  cases a
  cases b
  simpa using h
theorem lt_irr (a : Str) : ltS a a = false := by
  cases h : ltS a a with
  | false => rfl
  | true => exact absurd (lt_iff.mp h) (List.lt_irrefl _)
theorem lt_tr {a b c : Str} (h1 : ltS a b = true) (h2 : ltS b c = true) : ltS a c = true := lt_iff.mpr (List.lt_trans (lt_iff.mp h1) (lt_iff.mp h2))
theorem lt_tot {a b : Str} (h : ltS a b = false) : ltS b a = true ∨ a = b := by
  have h' : ¬ a.cps.toList < b.cps.toList := fun z => by rw [lt_iff.mpr z] at h; cases h
  by_cases e : b.cps.toList < a.cps.toList
  · exact .inl (lt_iff.mpr e)
  · exact .inr (str_eq (List.le_antisymm (List.not_lt.mp e) (List.not_lt.mp h')))
theorem lt_asym {a b : Str} (h : ltS a b = true) : ltS b a = false := by
  cases q : ltS b a with
  | false => rfl
  | true =>
    have := lt_tr h q
    rw [lt_irr] at this
    cases this
theorem lt_ne {a b : Str} (h : ltS a b = true) : a ≠ b := by
  rintro rfl
  rw [lt_irr] at h
  cases h

/-- strictly ascending -/
def Ris (xs : List Str) : Prop := xs.Pairwise fun a b => ltS a b = true
def ins (z : Str) : List Str → List Str
  | [] => [z]
  | x :: r => if ltS z x = true then z :: x :: r else if z = x then x :: r else x :: ins z r
def asc (xs : List Str) : List Str := xs.foldr ins []
theorem mem_ins' {z y : Str} : ∀ {xs : List Str}, y ∈ ins z xs ↔ y = z ∨ y ∈ xs
  | [] => by simp [ins]
  | x :: r => by
    unfold ins
    by_cases h1 : ltS z x = true
    · rw [if_pos h1, List.mem_cons]
    · rw [if_neg h1]
      by_cases h2 : z = x
      · rw [if_pos h2]
        subst h2
        simp
      · rw [if_neg h2, List.mem_cons, mem_ins', List.mem_cons]
        exact ⟨fun h => by rcases h with h | h | h <;> simp [h], fun h => by rcases h with h | h | h <;> simp [h]⟩
theorem mem_asc {y : Str} : ∀ {xs : List Str}, y ∈ asc xs ↔ y ∈ xs
  | [] => Iff.rfl
  | x :: r => by
    show y ∈ ins x (asc r) ↔ _
    rw [mem_ins', mem_asc, List.mem_cons]
theorem ris_ins {z : Str} : ∀ {xs : List Str}, Ris xs → Ris (ins z xs)
  | [], _ => List.pairwise_singleton _ _
  | x :: r, h => by
    obtain ⟨h1, h2⟩ := List.pairwise_cons.mp h
    unfold ins
    by_cases e1 : ltS z x = true
    · rw [if_pos e1]
      refine List.pairwise_cons.mpr ⟨fun y hy => ?_, h⟩
      rcases List.mem_cons.mp hy with rfl | hy
      · exact e1
      · exact lt_tr e1 (h1 y hy)
    · rw [if_neg e1]
      by_cases e2 : z = x
      · rw [if_pos e2]
        exact h
      · rw [if_neg e2]
        refine List.pairwise_cons.mpr ⟨fun y hy => ?_, ris_ins h2⟩
        rcases mem_ins'.mp hy with rfl | hy
        · exact (lt_tot (by simpa using e1)).resolve_right e2
        · exact h1 y hy
theorem asc_ris : ∀ xs : List Str, Ris (asc xs)
  | [] => List.Pairwise.nil
  | x :: r => ris_ins (asc_ris r)
theorem ris_ext : ∀ {xs ys : List Str}, Ris xs → Ris ys → (∀ z, z ∈ xs ↔ z ∈ ys) → xs = ys
  | [], [], _, _, _ => rfl
  | [], y :: _, _, _, h => absurd ((h y).mpr List.mem_cons_self) (by simp)
  | x :: _, [], _, _, h => absurd ((h x).mp List.mem_cons_self) (by simp)
  | x :: r, y :: t, h1, h2, h => by
    obtain ⟨a1, a2⟩ := List.pairwise_cons.mp h1
    obtain ⟨b1, b2⟩ := List.pairwise_cons.mp h2
    have e : x = y := by
      rcases List.mem_cons.mp ((h x).mp List.mem_cons_self) with e | e
      · exact e
      · rcases List.mem_cons.mp ((h y).mpr List.mem_cons_self) with q | q
        · exact q.symm
        · have := lt_asym (b1 x e)
          rw [a1 y q] at this
          cases this
    subst e
    refine congrArg (x :: ·) (ris_ext a2 b2 fun z => ⟨fun hz => ?_, fun hz => ?_⟩)
    · rcases List.mem_cons.mp ((h z).mp (List.mem_cons_of_mem _ hz)) with e | e
      · exact absurd e.symm (lt_ne (a1 z hz))
      · exact e
    · rcases List.mem_cons.mp ((h z).mpr (List.mem_cons_of_mem _ hz)) with e | e
      · exact absurd e.symm (lt_ne (b1 z hz))
      · exact e
theorem asc_ext {xs ys : List Str} (h : ∀ z, z ∈ xs ↔ z ∈ ys) : asc xs = asc ys := ris_ext (asc_ris _) (asc_ris _) fun z => by rw [mem_asc, mem_asc, h]
theorem asc_id {xs : List Str} (h : Ris xs) : asc xs = xs := ris_ext (asc_ris _) h fun _ => mem_asc
theorem ris_nodup {xs : List Str} (h : Ris xs) : xs.Nodup := List.Pairwise.imp (fun q => lt_ne q) h
theorem sorted_pair {xs : List Str} (h : sortedS xs = true) : xs.Pairwise fun a b => ltS b a = false := by
  have go : ∀ (p : Str) (r : List Str), risingS p r = true → (∀ y ∈ r, ltS y p = false) ∧ r.Pairwise fun a b => ltS b a = false := by
    intro p r
    induction r generalizing p with
    | nil => exact fun _ => ⟨fun _ h => (nomatch h), List.Pairwise.nil⟩
    | cons x t ih =>
      intro h
      have h' : (!ltCps x.cps.toList p.cps.toList && risingS x t) = true := h
      rw [Bool.and_eq_true] at h'
      have hx : ltS x p = false := by simpa [ltS] using h'.1
      obtain ⟨i1, i2⟩ := ih x h'.2
      refine ⟨fun y hy => ?_, List.pairwise_cons.mpr ⟨i1, i2⟩⟩
      rcases List.mem_cons.mp hy with rfl | hy
      · exact hx
      · cases q : ltS y p with
        | false => rfl
        | true =>
          rcases lt_tot hx with e | e
          · have := lt_tr q e
            rw [i1 y hy] at this
            cases this
          · subst e
            rw [i1 y hy] at q
            cases q
  cases xs with
  | nil => exact List.Pairwise.nil
  | cons p r =>
    obtain ⟨g1, g2⟩ := go p r h
    exact List.pairwise_cons.mpr ⟨g1, g2⟩
theorem ris_of_sorted {xs : List Str} (h : sortedS xs = true) (nd : xs.Nodup) : Ris xs :=
  List.Pairwise.imp₂ (fun a b q1 q2 => (lt_tot q1).resolve_right fun e => q2 e.symm) (sorted_pair h) nd
theorem asc_of {xs ys : List Str} (h : sortedS ys = true) (nd : ys.Nodup) (hm : ∀ z, z ∈ ys ↔ z ∈ xs) : ys = asc xs := ris_ext (ris_of_sorted h nd) (asc_ris _) fun z => by rw [mem_asc, hm]
theorem nd_len {U : List Str} : ∀ {xs : List Str}, xs.Nodup → (∀ z ∈ xs, z ∈ U) → xs.length ≤ U.length := by
  intro xs
  induction xs generalizing U with
  | nil => exact fun _ _ => Nat.zero_le _
  | cons x r ih =>
    intro nd h
    obtain ⟨n1, n2⟩ := List.nodup_cons.mp nd
    have hx := h x List.mem_cons_self
    have h2 := ih (U := U.erase x) n2 fun z hz => (List.mem_erase_of_ne fun e => n1 (by rw [← e]; exact hz)).mpr (h z (List.mem_cons_of_mem _ hz))
    rw [List.length_erase_of_mem hx] at h2
    have h3 : 0 < U.length := List.length_pos_of_mem hx
    rw [List.length_cons]
    omega
theorem asc_len {xs U : List Str} (h : ∀ z ∈ xs, z ∈ U) : (asc xs).length ≤ U.length := nd_len (ris_nodup (asc_ris _)) fun z hz => h z (mem_asc.mp hz)
theorem asc_le (xs : List Str) : (asc xs).length ≤ xs.length := asc_len fun _ h => h
/-- the duplicates taken out of what is sorted -/
theorem asc_snoc {xs : List Str} {y : Str} (h : ∀ z ∈ xs, ltS y z = false) : asc (xs ++ [y]) = if y ∈ xs then asc xs else asc xs ++ [y] := by
  by_cases e : y ∈ xs
  · rw [if_pos e]
    refine asc_ext fun z => ?_
    rw [List.mem_append, List.mem_singleton]
    exact ⟨fun q => q.elim id fun q => q ▸ e, .inl⟩
  · rw [if_neg e]
    refine ris_ext (asc_ris _) ?_ fun z => by rw [mem_asc, List.mem_append, List.mem_append, mem_asc]
    refine List.pairwise_append.mpr ⟨asc_ris _, List.pairwise_singleton _ _, fun a ha b hb => ?_⟩
    rw [List.mem_singleton.mp hb]
    rw [mem_asc] at ha
    exact (lt_tot (h a ha)).resolve_right fun q => e (q ▸ ha)
theorem ris_sorted {xs : List Str} (h : Ris xs) : sortedS xs = true := by
  refine sortedS_of_pairwise _ (List.Pairwise.imp (fun q => ?_) h)
  exact lt_asym q
end UL

set_option Elab.async false
set_option linter.all false
set_option maxRecDepth 100000
/-! own: effects as plain data: joined, in turn, repeated, replaced -/
namespace UL
open PySem PySem.Spec PyProof.Rows L2 Evl TL

structure Fx where
  bad : Bool
  seen : List Str
  g : Str → List Str
def dd : Str := "dead"
def nrm (bad : Bool) (ts : List Str) : List Str := if bad = true ∨ dd ∈ ts then [dd] else asc ts
def mkF (bad : Bool) (seen : List Str) (g : Str → List Str) : Fx := ⟨bad, if bad = true then [] else asc seen, fun o => nrm bad (g o)⟩
def joined (e f : Fx) : Fx := mkF (e.bad || f.bad) (e.seen ++ f.seen) fun o => e.g o ++ f.g o
def before (os : List Str) (e : Fx) (ts : List Str) : List Str := ts.flatMap fun t => if t ∈ os then e.g t else [t]
def turned (os : List Str) (e f : Fx) : Fx :=
  mkF (e.bad || f.bad || decide (dd ∈ before os e f.seen)) (e.seen ++ (before os e f.seen).filter fun t => decide (t ∈ os)) fun o => before os e (f.g o)
def empty : Fx := mkF false [] fun o => [o]
/-- the same over these outs -/
structure Same (os : List Str) (e f : Fx) : Prop where
  bad : e.bad = f.bad
  seen : e.seen = f.seen
  g : ∀ o ∈ os, e.g o = f.g o
/-- in the normal form -/
structure Nrm (os : List Str) (e : Fx) : Prop where
  b1 : e.bad = true → e.seen = []
  b2 : e.bad = true → ∀ o ∈ os, e.g o = [dd]
  ss : Ris e.seen
  so : ∀ z ∈ e.seen, z ∈ os
  gr : ∀ o ∈ os, Ris (e.g o)
  gd : ∀ o ∈ os, dd ∈ e.g o → e.g o = [dd]
theorem Same.refl (os : List Str) (e : Fx) : Same os e e := ⟨rfl, rfl, fun _ _ => rfl⟩
theorem Same.symm {os : List Str} {e f : Fx} (h : Same os e f) : Same os f e := ⟨h.bad.symm, h.seen.symm, fun o ho => (h.g o ho).symm⟩
theorem Same.trans {os : List Str} {e f k : Fx} (h : Same os e f) (h' : Same os f k) : Same os e k := ⟨h.bad.trans h'.bad, h.seen.trans h'.seen, fun o ho => (h.g o ho).trans (h'.g o ho)⟩
theorem mem_before {os : List Str} {e : Fx} {ts : List Str} {z : Str} : z ∈ before os e ts ↔ ∃ t ∈ ts, (t ∈ os ∧ z ∈ e.g t) ∨ (t ∉ os ∧ z = t) := by
  unfold before
  rw [List.mem_flatMap]
  refine exists_congr fun t => and_congr_right fun _ => ?_
  by_cases h : t ∈ os
  · rw [if_pos h]
    exact ⟨fun q => .inl ⟨h, q⟩, fun q => q.elim (·.2) fun q => absurd h q.1⟩
  · rw [if_neg h, List.mem_singleton]
    exact ⟨fun q => .inr ⟨h, q⟩, fun q => q.elim (fun q => absurd q.1 h) (·.2)⟩
theorem mem_nrm {b : Bool} {ts : List Str} {z : Str} : z ∈ nrm b ts ↔ (z = dd ∧ (b = true ∨ dd ∈ ts)) ∨ (b = false ∧ dd ∉ ts ∧ z ∈ ts) := by
  unfold nrm
  by_cases h : b = true ∨ dd ∈ ts
  · rw [if_pos h, List.mem_singleton]
    grind
  · rw [if_neg h, mem_asc]
    grind
theorem ris_one (z : Str) : Ris [z] := List.pairwise_singleton _ _
theorem ris_nrm (b : Bool) (ts : List Str) : Ris (nrm b ts) := by
  unfold nrm
  split
  · exact ris_one _
  · exact asc_ris _
theorem nrm_dd {b : Bool} {ts : List Str} (h : dd ∈ nrm b ts) : nrm b ts = [dd] := by
  unfold nrm at h ⊢
  by_cases q : b = true ∨ dd ∈ ts
  · rw [if_pos q]
  · rw [if_neg q, mem_asc] at h
    exact absurd (.inr h) q
theorem nrm_mk {os : List Str} {b : Bool} {ls : List Str} {g : Str → List Str} (h : ∀ z ∈ ls, z ∈ os) : Nrm os (mkF b ls g) where
  b1 := fun e => by
    have e : b = true := e
    show (if b = true then [] else asc ls) = []
    rw [if_pos e]
  b2 := fun e o _ => by
    have e : b = true := e
    show nrm b (g o) = [dd]
    unfold nrm
    rw [if_pos (.inl e)]
  ss := by
    show Ris (if b = true then [] else asc ls)
    split
    · exact List.Pairwise.nil
    · exact asc_ris _
  so := fun z hz => by
    have hz : z ∈ (if b = true then [] else asc ls) := hz
    split at hz
    · cases hz
    · exact h z (mem_asc.mp hz)
  gr := fun o _ => ris_nrm _ _
  gd := fun o _ q => nrm_dd q
theorem nrm_of {b : Bool} {ts : List Str} (h1 : Ris ts) (h2 : b = true → ts = [dd]) (h3 : dd ∈ ts → ts = [dd]) : nrm b ts = ts := by
  unfold nrm
  by_cases q : b = true ∨ dd ∈ ts
  · rw [if_pos q]
    exact (q.elim h2 h3).symm
  · rw [if_neg q]
    exact asc_id h1
/-- equal by membership alone -/
theorem same_of {os : List Str} {e f : Fx} (ne : Nrm os e) (nf : Nrm os f) (hb : e.bad = f.bad) (hs : ∀ z, z ∈ e.seen ↔ z ∈ f.seen) (hg : ∀ o ∈ os, ∀ z, z ∈ e.g o ↔ z ∈ f.g o) : Same os e f :=
  ⟨hb, ris_ext ne.ss nf.ss hs, fun o ho => ris_ext (ne.gr o ho) (nf.gr o ho) (hg o ho)⟩
theorem mem_seen {b : Bool} {ls : List Str} {g : Str → List Str} {z : Str} : z ∈ (mkF b ls g).seen ↔ b = false ∧ z ∈ ls := by
  show z ∈ (if b = true then [] else asc ls) ↔ _
  cases b <;> simp [mem_asc]
theorem joined_nrm {os : List Str} {e f : Fx} (ne : Nrm os e) (nf : Nrm os f) : Nrm os (joined e f) := nrm_mk fun z hz => (List.mem_append.mp hz).elim (ne.so z) (nf.so z)
theorem turned_nrm {os : List Str} {e f : Fx} (ne : Nrm os e) : Nrm os (turned os e f) := nrm_mk fun z hz => (List.mem_append.mp hz).elim (ne.so z) fun q => of_decide_eq_true (List.mem_filter.mp q).2
theorem empty_nrm (os : List Str) : Nrm os empty := nrm_mk fun _ h => (nomatch h)
theorem before_same {os : List Str} {e e' : Fx} (h : Same os e e') (ts : List Str) : before os e ts = before os e' ts := by
  have q : (fun t => if t ∈ os then e.g t else [t]) = fun t => if t ∈ os then e'.g t else [t] := by
    funext t
    by_cases ht : t ∈ os
    · rw [if_pos ht, if_pos ht, h.g t ht]
    · rw [if_neg ht, if_neg ht]
  unfold before
  rw [q]
theorem joined_same {os : List Str} {e e' f f' : Fx} (h : Same os e e') (h' : Same os f f') : Same os (joined e f) (joined e' f') := by
  refine ⟨by show (e.bad || f.bad) = _; rw [h.bad, h'.bad]; rfl, ?_, fun o ho => ?_⟩
  · show (if (e.bad || f.bad) = true then [] else asc (e.seen ++ f.seen)) = _
    rw [h.bad, h'.bad, h.seen, h'.seen]
    rfl
  · show nrm (e.bad || f.bad) (e.g o ++ f.g o) = nrm (e'.bad || f'.bad) (e'.g o ++ f'.g o)
    rw [h.bad, h'.bad, h.g o ho, h'.g o ho]
theorem turned_same {os : List Str} {e e' f f' : Fx} (h : Same os e e') (h' : Same os f f') : Same os (turned os e f) (turned os e' f') := by
  refine ⟨?_, ?_, fun o ho => ?_⟩
  · show (e.bad || f.bad || decide (dd ∈ before os e f.seen)) = _
    rw [h.bad, h'.bad, h'.seen, before_same h]
    rfl
  · show (if (e.bad || f.bad || decide (dd ∈ before os e f.seen)) = true then [] else asc (e.seen ++ (before os e f.seen).filter fun t => decide (t ∈ os))) = _
    rw [h.bad, h'.bad, h'.seen, before_same h, h.seen]
    rfl
  · show nrm _ (before os e (f.g o)) = nrm _ (before os e' (f'.g o))
    rw [h'.g o ho, before_same h, before_same h (f'.g o), h.bad, h'.bad, h'.seen]
/-! ### what holds of / -/
theorem joined_comm {os : List Str} {e f : Fx} (ne : Nrm os e) (nf : Nrm os f) : Same os (joined e f) (joined f e) := by
  refine same_of (joined_nrm ne nf) (joined_nrm nf ne) (Bool.or_comm _ _) (fun z => ?_) fun o ho z => ?_
  · unfold joined
    rw [mem_seen, mem_seen, Bool.or_comm, List.mem_append, List.mem_append, Or.comm]
  · show z ∈ nrm _ _ ↔ z ∈ nrm _ _
    rw [mem_nrm, mem_nrm, Bool.or_comm]
    simp only [List.mem_append]
    grind
theorem joined_self {os : List Str} {e : Fx} (ne : Nrm os e) : Same os (joined e e) e := by
  refine same_of (joined_nrm ne ne) ne (Bool.or_self _) (fun z => ?_) fun o ho z => ?_
  · unfold joined
    rw [mem_seen, Bool.or_self]
    have := ne.b1
    grind
  · show z ∈ nrm _ _ ↔ _
    rw [mem_nrm, Bool.or_self]
    simp only [List.mem_append]
    have h1 := fun q => ne.b2 q o ho
    have h2 := ne.gd o ho
    grind
/-- two effects in the normal form that mean the same -/
theorem mk_same {os : List Str} {b b' : Bool} {ls ls' : List Str} {g g' : Str → List Str} (hb : b = b') (hs : b = false → ∀ z, z ∈ ls ↔ z ∈ ls')
    (hg : b = false → ∀ o ∈ os, (dd ∈ g o ↔ dd ∈ g' o) ∧ (dd ∉ g o → ∀ z, z ∈ g o ↔ z ∈ g' o)) : Same os (mkF b ls g) (mkF b' ls' g') := by
  subst hb
  refine ⟨rfl, ?_, fun o ho => ?_⟩
  · show (if b = true then [] else asc ls) = if b = true then [] else asc ls'
    cases b with
    | true => rfl
    | false => exact asc_ext (hs rfl)
  · show nrm b (g o) = nrm b (g' o)
    unfold nrm
    cases b with
    | true => rw [if_pos (.inl rfl), if_pos (.inl rfl)]
    | false =>
      obtain ⟨h1, h2⟩ := hg rfl o ho
      by_cases q : dd ∈ g o
      · rw [if_pos (.inr q), if_pos (.inr (h1.mp q))]
      · rw [if_neg (by simp [q]), if_neg (by simp [h1.symm, q])]
        exact asc_ext (h2 q)
theorem mem_nrmF {ts : List Str} {z : Str} : z ∈ nrm false ts ↔ (z = dd ∧ dd ∈ ts) ∨ (dd ∉ ts ∧ z ∈ ts) := by
  rw [mem_nrm]
  simp
theorem joined_assoc {os : List Str} {e f k : Fx} : Same os (joined (joined e f) k) (joined e (joined f k)) := by
  refine mk_same (Bool.or_assoc _ _ _) (fun hb z => ?_) fun hb o ho => ?_
  · have hb : ((e.bad || f.bad) || k.bad) = false := hb
    rw [Bool.or_eq_false_iff, Bool.or_eq_false_iff] at hb
    obtain ⟨⟨h1, h2⟩, h3⟩ := hb
    rw [List.mem_append, List.mem_append]
    unfold joined
    rw [mem_seen, mem_seen, h1, h2, h3, List.mem_append, List.mem_append]
    simp [or_assoc]
  · have hb : ((e.bad || f.bad) || k.bad) = false := hb
    rw [Bool.or_eq_false_iff, Bool.or_eq_false_iff] at hb
    obtain ⟨⟨h1, h2⟩, h3⟩ := hb
    show (dd ∈ nrm (e.bad || f.bad) (e.g o ++ f.g o) ++ k.g o ↔ dd ∈ e.g o ++ nrm (f.bad || k.bad) (f.g o ++ k.g o)) ∧ (dd ∉ nrm (e.bad || f.bad) (e.g o ++ f.g o) ++ k.g o → ∀ z, z ∈ nrm (e.bad || f.bad) (e.g o ++ f.g o) ++ k.g o ↔ z ∈ e.g o ++ nrm (f.bad || k.bad) (f.g o ++ k.g o))
    rw [h1, h2, h3]
    simp only [List.mem_append, Bool.or_self, mem_nrmF]
    grind
theorem joined_empty {os : List Str} {e : Fx} : Same os (joined empty e) (joined empty e) := Same.refl _ _
/-! ### what holds of >> -/
theorem before_nrm {os : List Str} {e : Fx} {b : Bool} {ts : List Str} {z : Str} (nd : dd ∉ os) : z ∈ before os e (nrm b ts) ↔ ((b = true ∨ dd ∈ ts) ∧ z = dd) ∨ (b = false ∧ dd ∉ ts ∧ z ∈ before os e ts) := by
  unfold nrm
  by_cases h : b = true ∨ dd ∈ ts
  · rw [if_pos h, mem_before]
    grind
  · rw [if_neg h, mem_before, mem_before]
    simp only [mem_asc]
    grind
theorem before_dd {os : List Str} {e : Fx} {ts : List Str} (nd : dd ∉ os) (h : dd ∈ ts) : dd ∈ before os e ts := mem_before.mpr ⟨dd, h, .inr ⟨nd, rfl⟩⟩
theorem before_app {os : List Str} {e : Fx} {ts us : List Str} {z : Str} : z ∈ before os e (ts ++ us) ↔ z ∈ before os e ts ∨ z ∈ before os e us := by
  unfold before
  rw [List.flatMap_append, List.mem_append]
theorem before_asc {os : List Str} {e : Fx} {ts : List Str} {z : Str} : z ∈ before os e (asc ts) ↔ z ∈ before os e ts := by
  rw [mem_before, mem_before]
  simp only [mem_asc]
theorem before_two {os : List Str} {e f : Fx} {ts : List Str} {z : Str} : z ∈ before os e (before os f ts) ↔ ∃ t ∈ ts, (t ∈ os ∧ z ∈ before os e (f.g t)) ∨ (t ∉ os ∧ z = t) := by
  rw [mem_before]
  constructor
  · rintro ⟨u, hu, h⟩
    obtain ⟨t, ht, h'⟩ := mem_before.mp hu
    refine ⟨t, ht, ?_⟩
    rcases h' with ⟨h1, h2⟩ | ⟨h1, rfl⟩
    · exact .inl ⟨h1, mem_before.mpr ⟨u, h2, h⟩⟩
    · exact .inr ⟨h1, h.elim (fun q => absurd q.1 h1) (·.2)⟩
  · rintro ⟨t, ht, ⟨h1, h2⟩ | ⟨h1, rfl⟩⟩
    · obtain ⟨u, hu, h⟩ := mem_before.mp h2
      exact ⟨u, mem_before.mpr ⟨t, ht, .inl ⟨h1, hu⟩⟩, h⟩
    · exact ⟨z, mem_before.mpr ⟨z, ht, .inr ⟨h1, rfl⟩⟩, .inr ⟨h1, rfl⟩⟩
/-- through an effect in turn -/
theorem before_turned {os : List Str} {e f : Fx} {ts : List Str} (nd : dd ∉ os) (hb : (turned os e f).bad = false) :
    (dd ∈ before os (turned os e f) ts ↔ dd ∈ before os e (before os f ts)) ∧ (dd ∉ before os e (before os f ts) → ∀ z, z ∈ before os (turned os e f) ts ↔ z ∈ before os e (before os f ts)) := by
  have hg : ∀ t, (turned os e f).g t = nrm false (before os e (f.g t)) := fun t => by
    show nrm (turned os e f).bad _ = _
    rw [hb]
  have main : ∀ z, z ∈ before os (turned os e f) ts ↔ ∃ t ∈ ts, (t ∈ os ∧ ((z = dd ∧ dd ∈ before os e (f.g t)) ∨ (dd ∉ before os e (f.g t) ∧ z ∈ before os e (f.g t)))) ∨ (t ∉ os ∧ z = t) := fun z => by
    rw [mem_before]
    simp only [hg, mem_nrmF]
  refine ⟨?_, fun no z => ?_⟩
  · rw [main, before_two]
    refine exists_congr fun t => and_congr_right fun _ => ?_
    grind
  · rw [main, before_two]
    rw [before_two] at no
    refine exists_congr fun t => and_congr_right fun ht => ?_
    have : ¬ (t ∈ os ∧ dd ∈ before os e (f.g t)) := fun q => no ⟨t, ht, .inl q⟩
    have : ¬ (t ∉ os ∧ dd = t) := fun q => no ⟨t, ht, .inr q⟩
    grind
theorem before_filter {os : List Str} {e : Fx} {ts : List Str} {z : Str} : z ∈ before os e ts ↔ z ∈ before os e (ts.filter fun t => decide (t ∈ os)) ∨ (z ∉ os ∧ z ∈ ts) := by
  rw [mem_before, mem_before]
  simp only [List.mem_filter, decide_eq_true_eq]
  grind
theorem turned_bad {os : List Str} {e f : Fx} : (turned os e f).bad = true ↔ e.bad = true ∨ f.bad = true ∨ dd ∈ before os e f.seen := by
  show (e.bad || f.bad || decide (dd ∈ before os e f.seen)) = true ↔ _
  rw [Bool.or_eq_true, Bool.or_eq_true, decide_eq_true_eq, or_assoc]
theorem turned_seen {os : List Str} {e f : Fx} {z : Str} (h : (turned os e f).bad = false) : z ∈ (turned os e f).seen ↔ z ∈ e.seen ∨ (z ∈ os ∧ z ∈ before os e f.seen) := by
  have h' : (e.bad || f.bad || decide (dd ∈ before os e f.seen)) = false := h
  unfold turned
  rw [mem_seen, List.mem_append, List.mem_filter, decide_eq_true_eq]
  grind
theorem bad_eq {b b' : Bool} (h : b = true ↔ b' = true) : b = b' := by
  cases b <;> cases b' <;> simp_all
theorem not_true {b : Bool} : b = false ↔ ¬ b = true := by cases b <;> simp
theorem turned_assoc {os : List Str} {e f k : Fx} (nd : dd ∉ os) : Same os (turned os (turned os e f) k) (turned os e (turned os f k)) := by
  have hb : (turned os (turned os e f) k).bad = (turned os e (turned os f k)).bad := by
    refine bad_eq ?_
    rw [turned_bad (e := turned os e f), turned_bad (e := e) (f := turned os f k)]
    by_cases h2 : (turned os f k).bad = true
    · -- what is bad behind is bad before
      refine ⟨fun _ => .inr (.inl h2), fun _ => ?_⟩
      rcases turned_bad.mp h2 with q | q | q
      · exact .inl (turned_bad.mpr (.inr (.inl q)))
      · exact .inr (.inl q)
      · by_cases h1 : (turned os e f).bad = true
        · exact .inl h1
        · exact .inr (.inr ((before_turned nd (not_true.mpr h1)).1.mpr (before_dd nd q)))
    · have sk : ∀ z, z ∈ (turned os f k).seen ↔ z ∈ f.seen ∨ (z ∈ os ∧ z ∈ before os f k.seen) := fun z => turned_seen (not_true.mpr h2)
      have up : dd ∈ before os e (turned os f k).seen ↔ dd ∈ before os e f.seen ∨ dd ∈ before os e (before os f k.seen) := by
        have no : dd ∉ before os f k.seen := fun q => h2 (turned_bad.mpr (.inr (.inr q)))
        rw [before_filter (ts := before os f k.seen)]
        rw [mem_before, mem_before, mem_before]
        simp only [sk, List.mem_filter, decide_eq_true_eq]
        grind
      have h2' : ¬ k.bad = true := fun q => h2 (turned_bad.mpr (.inr (.inl q)))
      have h3' : ¬ f.bad = true := fun q => h2 (turned_bad.mpr (.inl q))
      by_cases h1 : (turned os e f).bad = true
      · refine ⟨fun _ => ?_, fun _ => .inl h1⟩
        rcases turned_bad.mp h1 with q | q | q
        · exact .inl q
        · exact absurd q h3'
        · exact .inr (.inr (up.mpr (.inl q)))
      · rw [up, (before_turned nd (not_true.mpr h1)).1]
        have : ¬ e.bad = true := fun q => h1 (turned_bad.mpr (.inl q))
        have : ¬ dd ∈ before os e f.seen := fun q => h1 (turned_bad.mpr (.inr (.inr q)))
        grind
  have clean : (turned os (turned os e f) k).bad = false → (turned os e f).bad = false ∧ (turned os f k).bad = false := fun h => by
    have h1 : ¬ _ := not_true.mp h
    have h2 : ¬ _ := not_true.mp (hb ▸ h)
    rw [turned_bad (e := turned os e f)] at h1
    rw [turned_bad (e := e) (f := turned os f k)] at h2
    exact ⟨not_true.mpr fun q => h1 (.inl q), not_true.mpr fun q => h2 (.inr (.inl q))⟩
  refine mk_same hb (fun h z => ?_) fun h o ho => ?_
  · obtain ⟨c1, c2⟩ := clean h
    have no : dd ∉ before os e (before os f k.seen) := fun q => not_true.mp h (turned_bad.mpr (.inr (.inr ((before_turned nd c1).1.mpr q))))
    rw [List.mem_append, List.mem_append, turned_seen c1, List.mem_filter, List.mem_filter, (before_turned nd c1).2 no]
    have sk : ∀ z, z ∈ (turned os f k).seen ↔ z ∈ f.seen ∨ (z ∈ os ∧ z ∈ before os f k.seen) := fun z => turned_seen c2
    rw [before_filter (ts := before os f k.seen), mem_before (ts := f.seen), mem_before (ts := (before os f k.seen).filter _), mem_before (ts := (turned os f k).seen)]
    simp only [sk, List.mem_filter, decide_eq_true_eq]
    grind
  · obtain ⟨c1, c2⟩ := clean h
    have hg : (turned os f k).g o = nrm false (before os f (k.g o)) := by
      show nrm (turned os f k).bad _ = _
      rw [c2]
    rw [hg]
    obtain ⟨b1, b2⟩ := before_turned (ts := k.g o) nd c1
    have u := fun z => before_nrm (os := os) (e := e) (b := false) (ts := before os f (k.g o)) (z := z) nd
    have v := fun q => before_dd (os := os) (e := e) (ts := before os f (k.g o)) nd q
    refine ⟨?_, fun no z => ?_⟩
    · rw [b1, u]
      grind
    · have no2 : dd ∉ before os e (before os f (k.g o)) := fun q => no (b1.mpr q)
      rw [b2 no2, u]
      grind
end UL

set_option Elab.async false
set_option linter.all false
set_option maxRecDepth 100000
/-! own: y = {..} of a comprehension, dicts by the texts of a tuple, == of dicts of data, comprehensions with two fors -/
namespace UL
open PySem PySem.Spec PyProof.Rows L2 Evl TL

/-! ### y = {k: v for ..} -/
section
variable {X : Cx}
theorem ps_setDc {i : Nat} {y : Str} {py : Pos} {kx vx tg iter : Expr} {ifs : List Expr} {scope : Scope} {own : List (Str × Nat)} {pos spos : Pos} {wi : TI} {g : TG} {tt : TT} {tk tv : TE} (hc : X.calm = true) (nd : X.N.Nodup) (hy : X.N[i]? = some y) (lo : X.env.scope.names.lookup y = some .local)
    (sw : swapsWith (.DictComp kx vx [⟨tg, iter, ifs, 0⟩] scope pos) (some (.Name y py)) spos.line X.env = pure true) (hi : PI X tg iter wi) (ok : BlkOk X.N X.env.scope scope own)
    (hg : ∀ (s : Shared) (H : Hp) (C : Addr) (cl : List (Str × Addr)) (fp : List Addr), PG (X.blk s H scope (compEnvC scope cl C X.env) fp) tg g) (ht : ∀ (s : Shared) (H : Hp) (C : Addr) (cl : List (Str × Addr)) (fp : List Addr), PTs (X.blk s H scope (compEnvC scope cl C X.env) fp) ifs tt)
    (hk : ∀ (s : Shared) (H : Hp) (C : Addr) (cl : List (Str × Addr)) (fp : List Addr), PE (X.blk s H scope (compEnvC scope cl C X.env) fp) kx tk)
    (he : ∀ (s : Shared) (H : Hp) (C : Addr) (cl : List (Str × Addr)) (fp : List Addr), PE (X.blk s H scope (compEnvC scope cl C X.env) fp) vx tv) (hs : ∀ x, foldedSetIterable iter X.env x = pure x := by intro _; rfl) :
    PS X (.Assign [.Name y py] (.DictComp kx vx [⟨tg, iter, ifs, 0⟩] scope pos) spos) (tAsg (tDc wi g tt tk tv (own.map (·.2))) (gName i)) := by
  refine ⟨fun pins s σ H D I h => ?_⟩
  have h : tDc wi g tt tk tv (own.map (·.2)) σ H (fun x H1 => gName i x σ H1 D.nx) := h
  rw [exec_Assign_Name_used _ _ _ _ sw]
  refine wpAny_bind (wpAny_standAt (wpAny_bind ?_))
  show wpAny _ X.A (do let _ ← comprehension (.DictComp kx vx [⟨tg, iter, ifs, 0⟩] scope pos) scope X.env (firstIterPos [⟨tg, iter, ifs, 0⟩] pos) newDict false (eval iter X.env) (some (assign (.Name y py) X.env))) _ _ s
  refine wpAny_bind (thn (dc_core (Qf := fun _ s' => SP X pins D .next s') hc nd I hi ok hg ht hk he hs h fun L C s' m H' I' q hn f => ?_) fun _ s' hq => wpAny_pure (wpAny_pure hq))
  show wpAny _ _ (assign (.Name y py) X.env (.ref L)) _ _ _
  refine wpAny_assign_Name (store_ok2 (v := V.ref L) I' nd hy (.inl lo) rfl (fun s2 I2 ⟨a, sb, ha⟩ => ?_) (.inr lo))
  obtain ⟨f0, f1, f2, f3, f4, f5⟩ := f
  have ne : C ≠ a := ha.elim (fun z => z ▸ f1) fun z e => f4 y a z e.symm
  exact ⟨m, hn.sameBut sb ne, fun h3 sb3 => ⟨_, H', I2.turned (t' := s2.toks) (fun b o hb e => (sb3.2 b hb).trans e) f0 f1 f3 f4 f5, q⟩⟩
theorem sw_dict {kx vx : Expr} {gs : List Comprehension} {scope : Scope} {pos py : Pos} {y : Str} {l : Nat} {env : Env} (hk : env.scope.kind = .function) (hy : env.scope.names.lookup y = some .local) (hl : (py.line == pos.line) = true)
    (ha : (scope.names.any fun (n, k) => n == y && (k == .local || k == .cell)) = false) : swapsWith (.DictComp kx vx gs scope pos) (some (.Name y py)) l env = pure true := by
  have k1 : env.kindOf y = some .local := hy
  have k2 : env.blockKind = .function := by unfold Env.blockKind; rw [hk]; rfl
  unfold swapsWith
  simp only [k2, k1, ha, Expr.pos, hl]
  rfl
end
/-! ### a dict whose keys are the texts of a tuple -/
def dzip (os : List Str) (ws : List V) : List (Key × V) := List.zipWith (fun o v => ((Sum.inr o : Key), v)) os ws
theorem dzip_keys : ∀ {os : List Str} {ws : List V}, os.length = ws.length → (dzip os ws).map (·.1) = os.map Sum.inr
  | [], [], _ => rfl
  | [], _ :: _, h => (nomatch h)
  | _ :: _, [], h => (nomatch h)
  | o :: os, w :: ws, h => by
    show (Sum.inr o : Key) :: (dzip os ws).map (·.1) = _
    rw [dzip_keys (Nat.succ.inj h)]
    rfl
theorem dzip_len (os : List Str) (ws : List V) : (dzip os ws).length ≤ os.length := by
  unfold dzip
  rw [List.length_zipWith]
  exact Nat.min_le_left _ _
theorem dzip_none {z : Str} : ∀ {os : List Str} {ws : List V}, z ∉ os → valV (dzip os ws) (Sum.inr z) = none
  | [], _, _ => rfl
  | _ :: _, [], _ => rfl
  | o :: os, w :: ws, h => by
    rw [List.mem_cons, not_or] at h
    show valV (((Sum.inr o : Key), w) :: dzip os ws) (Sum.inr z) = none
    rw [valV_neg (by intro e; exact h.1 (Sum.inr.inj e).symm)]
    exact dzip_none h.2
theorem dzip_at {F : Str → V → Prop} {z : Str} : ∀ {os : List Str} {ws : List V}, Paired F os ws → z ∈ os → ∃ v, valV (dzip os ws) (Sum.inr z) = some v ∧ F z v
  | _, _, .nil, h => (nomatch h)
  | o :: os, w :: ws, .cons a t, h => by
    show ∃ v, valV (((Sum.inr o : Key), w) :: dzip os ws) (Sum.inr z) = some v ∧ F z v
    by_cases e : o = z
    · subst e
      exact ⟨w, valV_pos rfl, a⟩
    · rw [valV_neg (by intro q; exact e (Sum.inr.inj q))]
      exact dzip_at t ((List.mem_cons.mp h).resolve_left fun q => e q.symm)
theorem dzip_snoc {o : Str} {v : V} : ∀ {os : List Str} {ws : List V}, os.length = ws.length → dzip (os ++ [o]) (ws ++ [v]) = dzip os ws ++ [((Sum.inr o : Key), v)]
  | [], [], _ => rfl
  | [], _ :: _, h => (nomatch h)
  | _ :: _, [], h => (nomatch h)
  | x :: os, w :: ws, h => by
    show _ :: dzip (os ++ [o]) (ws ++ [v]) = _
    rw [dzip_snoc (Nat.succ.inj h)]
    rfl
theorem dzip_put {o : Str} {v : V} {os : List Str} {ws : List V} (h : o ∉ os) (hl : os.length = ws.length) : putK (dzip os ws) (Sum.inr o) v = dzip (os ++ [o]) (ws ++ [v]) := by
  unfold putK
  rw [valV_any, dzip_none h, if_neg (by simp), dzip_snoc hl]
theorem paired_imp {α β : Type} {F G : α → β → Prop} (h : ∀ a b, F a b → G a b) : ∀ {xs : List α} {ys : List β}, Paired F xs ys → Paired G xs ys
  | _, _, .nil => .nil
  | _, _, .cons a t => .cons (h _ _ a) (paired_imp h t)
/-- {o: v for o in a tuple of texts}: each value is of its kind, and stays -/
theorem dc_outs {K : PySem.W.Frag} {a : Addr} {os : List Str} {G : Hp → Str → V → Prop} {j : Nat} {tk tv : TE} {vs : List Nat} {σ : L2.St} {H1 : Hp} {D : Addr} {Qd : Hp → Prop} (ha : SqT K H1 a (os.map V.str)) (nd : os.Nodup) (hz : os.length ≤ 4000) (hD : H1 D = none)
    (hw : ∀ x, wipe ((wipe σ vs).set j (some x)) vs = wipe σ vs) (gE : ∀ H H' o v, Ex H H' → G H o v → G H' o v) (gD : ∀ H kvs kvs' o v, H D = some (.dK kvs) → G H o v → G (upd H D (.dK kvs')) o v)
    (hk : ∀ o H' (Q : VK), Q (.str o) H' → tk ((wipe σ vs).set j (some (.str o))) H' Q)
    (he : ∀ o H', o ∈ os → Ex H1 H' → ∀ Q : VK, (∀ v H2, Ex H' H2 → G H2 o v → Q v H2) → tv ((wipe σ vs).set j (some (.str o))) H' Q)
    (hd : ∀ H' ws, Ex H1 H' → H' D = some (.dK (dzip os ws)) → Paired (G H') os ws → Qd H') :
    ∃ W : Nat → Nat → Hp → Prop, (∃ m, W 0 m (upd H1 D (.dK []))) ∧ ∀ i m H, W i m H →
      ((Itt K a).stop i H ∧ Qd H) ∨ ((Itt K a).go i H ∧ ∃ Nx : Hp → Prop, (∀ H', Nx H' → ∃ m', m' < m ∧ W (i + 1) m' H') ∧ ∀ x H', (Itt K a).yld i H x H' → gName j x (wipe σ vs) H' fun σ2 H2 => wipe σ2 vs = wipe σ vs ∧ tYes σ2 H2 fun b H3 =>
        if b = true then tk σ2 H3 fun y H4 => tv σ2 H4 fun z H5 => ∃ kvs k, y = kV k ∧ H5 D = some (.dK kvs) ∧ kvs.length < sizeLine ∧ Nx (upd H5 D (.dK (putK kvs k z))) else Nx H3) := by
  refine dc_tup (xs := os.map V.str) (fun i H' => Ex H1 H' ∧ ∃ ws, H' D = some (.dK (dzip (os.take i) ws)) ∧ Paired (G H') (os.take i) ws) ⟨Ex.new hD, [], upd_same, .nil⟩ (fun i H' _ q => ex_t q.1 ha) ?_ ?_
  · rintro i x H' hi ⟨e1, ws, hd', hp⟩
    rw [List.getElem?_map] at hi
    cases ho : os[i]? with
    | none => rw [ho] at hi; cases hi
    | some o =>
    rw [ho] at hi
    cases hi
    have nx : os.take (i + 1) = os.take i ++ [o] := by rw [List.take_add_one, ho]; rfl
    have out : o ∉ os.take i := fun hm => by
      obtain ⟨k, hk1, hk2⟩ := List.mem_iff_getElem.mp hm
      rw [List.length_take] at hk1
      rw [List.getElem_take] at hk2
      obtain ⟨hlt, hio⟩ := List.getElem?_eq_some_iff.mp ho
      have := (List.getElem_inj nd).mp (hk2.trans hio.symm)
      omega
    refine ⟨hw _, ?_⟩
    show tk _ _ _
    refine hk _ _ _ (he o H' (List.mem_of_getElem? ho) e1 _ fun v H2 e2 gv => ⟨_, Sum.inr o, rfl, e2 _ _ hd', ?_, (e1.trans e2).mut hD, ws ++ [v], ?_, ?_⟩)
    · have h1 := dzip_len (os.take i) ws
      rw [List.length_take] at h1
      exact sz_lt (by omega)
    · rw [upd_same, dzip_put out (Paired.length hp), nx]
    · rw [nx]
      exact Paired.snoc (paired_imp (fun o' v' q => gD _ _ _ _ _ (e2 _ _ hd') (gE _ _ _ _ e2 q)) hp) (gD _ _ _ _ _ (e2 _ _ hd') gv)
  · rintro H' ⟨e1, ws, hd', hp⟩
    rw [List.length_map, List.take_length] at hd' hp
    exact hd H' ws e1 hd' hp
/-! ### == of dicts of data -/
inductive DEq (K : PySem.W.Frag) (H : Hp) (ls : List (Key × V)) : List (Key × V) → Bool → Prop
  | nil : DEq K H ls [] true
  | cons {k : Key} {x u : V} {d e : PyData} {r : List (Key × V)} {b : Bool} : valV ls k = some u → Dp K H x d → Dp K H u e → SeqAt.shaped d = true → SeqAt.shaped e = true → DEq K H ls r b → DEq K H ls ((k, x) :: r) (PyData.eqv d e && b)
def rDEq (K : PySem.W.Frag) : R2 := fun x y H Q => ∃ a b ks ls r, x = .ref a ∧ y = .ref b ∧ H a = some (.dK ks) ∧ H b = some (.dK ls) ∧ ks.length = ls.length ∧ DEq K H ls ks r ∧ Q (.bl r) H
theorem deq_hits {X : Cx} {pins : List (Addr × Obj)} {σ : L2.St} {H : Hp} {s : Shared} (I : Inv X pins σ H s) (hu : X.A.in1.units + 64 < cLine) {ls : List (Key × V)} {vb : List (Key × Value)} (rb : KV ls vb) {ks : List (Key × V)} {r : Bool} (h : DEq X.K H ls ks r) :
    ∀ {va : List (Key × Value)}, KV ks va → PySem.W.KeqHitsP X.prog X.w X.A.in1 s vb va r := by
  induction h with
  | nil =>
    intro va ra
    unfold KV at ra
    cases ra
    exact .nil
  | @cons k x u d e r b h1 h2 h3 h4 h5 h6 ih =>
    intro va ra
    unfold KV at ra
    cases ra with
    | @cons p q ps qs hh t =>
      obtain ⟨key, v⟩ := q
      obtain ⟨rfl, rv⟩ := hh
      have rr : RelO (some u) (valueAt vb k) := by rw [← h1]; exact rb.val k
      obtain ⟨y, hy, ry⟩ := rr.some_of
      obtain ⟨as, r1⟩ := Dp.reads I d x v h2 rv
      obtain ⟨bs, r2⟩ := Dp.reads I e u y h3 ry
      exact .hit hy (PySem.W.keq_at r1 r2 h4 h5 hu).eqP (ih t)
theorem op_deq {X : Cx} (hu : X.A.units + 65 < cLine) : OpR X (compareOp .Eq) (rDEq X.K) := by
  intro pins s σ H x y v u Q I rx ry h
  obtain ⟨a, b, ks, ls, r, rfl, rfl, ha, hb, hl, hd, q⟩ := h
  cases rx
  cases ry
  obtain ⟨_, ya, va, ra, da⟩ := (show ObjOk X.prog X.w H s.heap a (.dK ks) from I.hok a _ ha)
  obtain ⟨_, yb, vb, rb, db⟩ := (show ObjOk X.prog X.w H s.heap b (.dK ls) from I.hok b _ hb)
  refine PySem.W.rcP_dicts (knd := mixKind X.prog X.w) (r := r) ya yb da db (by omega) (fun _ => deq_hits I (by show X.A.units + 1 + 64 < cLine; omega) rb hd ra) _ _ ?_
  rw [show (va.length == vb.length && r) = r from by rw [← Paired.length ra, ← Paired.length rb, hl]; simp]
  exact ⟨.bl r, H, I, rfl, q⟩
def rDNe (K : PySem.W.Frag) : R2 := fun x y H Q => rDEq K x y H fun v H' => ∃ b, v = .bl b ∧ Q (.bl (!b)) H'
end UL

set_option Elab.async false
set_option linter.all false
set_option maxRecDepth 100000
/-! own: [e for x in xs for y in f x]: walks for both clauses; texts from texts -/
namespace UL
open PySem PySem.Spec PyProof.Rows L2 Evl TL
section
variable {J : It} {n : Nat} {G : Hp → Prop} {Y : Nat → Hp → V → Hp → Prop}
/-- the second clause over a walk -/
theorem lc_in (w : Walk J n G Y) {g1 : TG} {tt1 : TT} {te : TE} {vs1 : List Nat} {σ2 : L2.St} {H4 : Hp} {D : Addr} {Nx : Hp → Prop} (Pv : Nat → Hp → Prop) (h0 : Pv 0 H4) (hG : ∀ i H, i ≤ n → Pv i H → G H)
    (hs : ∀ i x H H', i < n → Pv i H → Y i H x H' → g1 x (wipe σ2 vs1) H' fun σ3 H5 => wipe σ3 vs1 = wipe σ2 vs1 ∧ tt1 σ3 H5 fun b H6 =>
      if b = true then te σ3 H6 fun y H7 => ∃ acc, H7 D = some (.lst acc) ∧ acc.length < sizeLine ∧ Pv (i + 1) (upd H7 D (.lst (acc ++ [y]))) else Pv (i + 1) H6) (hd : ∀ H, Pv n H → Nx H) :
    ∃ W1 : Nat → Nat → Hp → Prop, (∃ m, W1 0 m H4) ∧ ∀ j k H, W1 j k H →
      (J.stop j H ∧ Nx H) ∨ (J.go j H ∧ ∃ Nx1 : Hp → Prop, (∀ H', Nx1 H' → ∃ k', k' < k ∧ W1 (j + 1) k' H') ∧ ∀ x H', J.yld j H x H' → g1 x (wipe σ2 vs1) H' fun σ3 H5 => wipe σ3 vs1 = wipe σ2 vs1 ∧ tt1 σ3 H5 fun b H6 =>
        if b = true then te σ3 H6 fun y H7 => ∃ acc, H7 D = some (.lst acc) ∧ acc.length < sizeLine ∧ Nx1 (upd H7 D (.lst (acc ++ [y]))) else Nx1 H6) := by
  refine ⟨fun i m H => m = n - i ∧ i ≤ n ∧ Pv i H, ⟨n, by simp, Nat.zero_le _, h0⟩, ?_⟩
  rintro i m H ⟨rfl, hi, p⟩
  have q := hG i H hi p
  by_cases hlt : i < n
  · refine .inr ⟨w.goes i H hlt q, Pv (i + 1), fun H' p' => ⟨n - (i + 1), by omega, rfl, hlt, p'⟩, fun x H' y => hs i x H H' hlt p (w.yields i H x H' hlt q y)⟩
  · have e : i = n := by omega
    subst e
    exact .inl ⟨w.stops H q, hd H p⟩
/-- the first clause over a walk -/
theorem lc_out (w : Walk J n G Y) {g : TG} {tt : TT} {wi1 : TI} {g1 : TG} {tt1 : TT} {te : TE} {vs vs1 : List Nat} {σ : L2.St} {H1 : Hp} {D : Addr} {Qd : Hp → Prop} (Pv : Nat → Hp → Prop) (h0 : Pv 0 (upd H1 D (.lst []))) (hG : ∀ i H, i ≤ n → Pv i H → G H)
    (hs : ∀ i x H H', i < n → Pv i H → Y i H x H' → g x (wipe σ vs) H' fun σ2 H2 => wipe σ2 vs = wipe σ vs ∧ tt σ2 H2 fun b H3 =>
      if b = true then wi1 σ2 H3 fun J1 H4 => ∃ W1 : Nat → Nat → Hp → Prop, (∃ m, W1 0 m H4) ∧ ∀ j k H, W1 j k H →
        (J1.stop j H ∧ Pv (i + 1) H) ∨ (J1.go j H ∧ ∃ Nx1 : Hp → Prop, (∀ H', Nx1 H' → ∃ k', k' < k ∧ W1 (j + 1) k' H') ∧ ∀ x H', J1.yld j H x H' → g1 x (wipe σ2 vs1) H' fun σ3 H5 => wipe σ3 vs1 = wipe σ2 vs1 ∧ tt1 σ3 H5 fun b H6 =>
          if b = true then te σ3 H6 fun y H7 => ∃ acc, H7 D = some (.lst acc) ∧ acc.length < sizeLine ∧ Nx1 (upd H7 D (.lst (acc ++ [y]))) else Nx1 H6)
      else Pv (i + 1) H3) (hd : ∀ H, Pv n H → Qd H) :
    ∃ W : Nat → Nat → Hp → Prop, (∃ m, W 0 m (upd H1 D (.lst []))) ∧ ∀ i m H, W i m H →
      (J.stop i H ∧ Qd H) ∨ (J.go i H ∧ ∃ Nx : Hp → Prop, (∀ H', Nx H' → ∃ m', m' < m ∧ W (i + 1) m' H') ∧ ∀ x H', J.yld i H x H' → g x (wipe σ vs) H' fun σ2 H2 => wipe σ2 vs = wipe σ vs ∧ tt σ2 H2 fun b H3 =>
        if b = true then wi1 σ2 H3 fun J1 H4 => ∃ W1 : Nat → Nat → Hp → Prop, (∃ m, W1 0 m H4) ∧ ∀ j k H, W1 j k H →
          (J1.stop j H ∧ Nx H) ∨ (J1.go j H ∧ ∃ Nx1 : Hp → Prop, (∀ H', Nx1 H' → ∃ k', k' < k ∧ W1 (j + 1) k' H') ∧ ∀ x H', J1.yld j H x H' → g1 x (wipe σ2 vs1) H' fun σ3 H5 => wipe σ3 vs1 = wipe σ2 vs1 ∧ tt1 σ3 H5 fun b H6 =>
            if b = true then te σ3 H6 fun y H7 => ∃ acc, H7 D = some (.lst acc) ∧ acc.length < sizeLine ∧ Nx1 (upd H7 D (.lst (acc ++ [y]))) else Nx1 H6)
        else Nx H3) := by
  refine ⟨fun i m H => m = n - i ∧ i ≤ n ∧ Pv i H, ⟨n, by simp, Nat.zero_le _, h0⟩, ?_⟩
  rintro i m H ⟨rfl, hi, p⟩
  have q := hG i H hi p
  by_cases hlt : i < n
  · refine .inr ⟨w.goes i H hlt q, Pv (i + 1), fun H' p' => ⟨n - (i + 1), by omega, rfl, hlt, p'⟩, fun x H' y => hs i x H H' hlt p (w.yields i H x H' hlt q y)⟩
  · have e : i = n := by omega
    subst e
    exact .inl ⟨w.stops H q, hd H p⟩
end
theorem sqT_putL {K : PySem.W.Frag} {H : Hp} {D t : Addr} {zs zs' xs : List V} (hD : H D = some (.lst zs)) (h : SqT K H t xs) : SqT K (upd H D (.lst zs')) t xs := by
  rcases h with (h | ⟨u, h⟩) | h
  · exact .inl (.inl (by rw [upd_ne (ne_of h hD (by intro z; cases z))]; exact h))
  · exact .inl (.inr ⟨u, by rw [upd_ne (ne_of h hD (by intro z; cases z))]; exact h⟩)
  · exact .inr h
/-- [z for t in ts for z in f t], texts; f t stands as a tuple -/
theorem lc_flat {K : PySem.W.Frag} {J : It} {ts : List Str} {f : Str → List Str} {G : Hp → Prop} {j j1 : Nat} {wi1 : TI} {te : TE} {vs vs1 : List Nat} {σ : L2.St} {H1 : Hp} {D : Addr} {Qd : Hp → Prop}
    (w : Walk J (ts.map V.str).length G (YAt (ts.map V.str))) (hz : (ts.flatMap f).length ≤ 100000) (hD : H1 D = none) (hG : ∀ H', Ex H1 H' → G H')
    (hw : ∀ x, wipe ((wipe σ vs).set j (some x)) vs = wipe σ vs) (hw1 : ∀ x y, wipe ((wipe ((wipe σ vs).set j (some x)) vs1).set j1 (some y)) vs1 = wipe ((wipe σ vs).set j (some x)) vs1)
    (hi : ∀ t, t ∈ ts → ∀ H', Ex H1 H' → ∀ R : It → Hp → Prop, (∀ a H2, Ex H' H2 → SqT K H2 a ((f t).map V.str) → R (Itt K a) H2) → wi1 ((wipe σ vs).set j (some (.str t))) H' R)
    (he : ∀ t z H', ∀ Q : VK, Q (.str z) H' → te ((wipe ((wipe σ vs).set j (some (.str t))) vs1).set j1 (some (.str z))) H' Q)
    (hd : ∀ H', Ex H1 H' → H' D = some (.lst ((ts.flatMap f).map V.str)) → Qd H') :
    ∃ W : Nat → Nat → Hp → Prop, (∃ m, W 0 m (upd H1 D (.lst []))) ∧ ∀ i m H, W i m H →
      (J.stop i H ∧ Qd H) ∨ (J.go i H ∧ ∃ Nx : Hp → Prop, (∀ H', Nx H' → ∃ m', m' < m ∧ W (i + 1) m' H') ∧ ∀ x H', J.yld i H x H' → gName j x (wipe σ vs) H' fun σ2 H2 => wipe σ2 vs = wipe σ vs ∧ tYes σ2 H2 fun b H3 =>
        if b = true then wi1 σ2 H3 fun J1 H4 => ∃ W1 : Nat → Nat → Hp → Prop, (∃ m, W1 0 m H4) ∧ ∀ j k H, W1 j k H →
          (J1.stop j H ∧ Nx H) ∨ (J1.go j H ∧ ∃ Nx1 : Hp → Prop, (∀ H', Nx1 H' → ∃ k', k' < k ∧ W1 (j + 1) k' H') ∧ ∀ x H', J1.yld j H x H' → gName j1 x (wipe σ2 vs1) H' fun σ3 H5 => wipe σ3 vs1 = wipe σ2 vs1 ∧ tYes σ3 H5 fun b H6 =>
            if b = true then te σ3 H6 fun y H7 => ∃ acc, H7 D = some (.lst acc) ∧ acc.length < sizeLine ∧ Nx1 (upd H7 D (.lst (acc ++ [y]))) else Nx1 H6)
        else Nx H3) := by
  refine lc_out w (fun i H' => Ex H1 H' ∧ H' D = some (.lst (((ts.take i).flatMap f).map V.str))) ⟨Ex.new hD, upd_same⟩ (fun i H' _ q => hG _ q.1) ?_ ?_
  · rintro i x _ H hi' ⟨e1, hL⟩ ⟨rfl, hx⟩
    rw [List.getElem?_map] at hx
    cases ht : ts[i]? with
    | none => rw [ht] at hx; cases hx
    | some t =>
    rw [ht] at hx
    cases hx
    obtain ⟨hlt, hti⟩ := List.getElem?_eq_some_iff.mp ht
    have nx : ts.take (i + 1) = ts.take i ++ [t] := by rw [List.take_add_one, ht]; rfl
    have whole : (ts.take i).flatMap f ++ f t = (ts.take (i + 1)).flatMap f := by rw [nx, List.flatMap_append, List.flatMap_cons, List.flatMap_nil, List.append_nil]
    have hlen : ((ts.take i).flatMap f).length + (f t).length ≤ (ts.flatMap f).length := by
      rw [← List.length_append, whole]
      conv => rhs; rw [← List.take_append_drop (i + 1) ts, List.flatMap_append, List.length_append]
      omega
    refine ⟨hw _, ?_⟩
    show wi1 _ _ _
    refine hi t (List.mem_of_getElem? ht) H e1 _ fun a H2 e2 ha => ?_
    refine lc_in (walk_tup (K := K) (a := a) (xs := (f t).map V.str)) (fun k H' => Ex H1 H' ∧ SqT K H' a ((f t).map V.str) ∧ H' D = some (.lst (((ts.take i).flatMap f ++ (f t).take k).map V.str))) ⟨e1.trans e2, ha, ?_⟩ (fun k H' _ q => q.2.1) ?_ ?_
    · rw [List.take_zero, List.append_nil]
      exact e2 _ _ hL
    · rintro k y _ H hk ⟨e3, ha3, hL3⟩ ⟨rfl, hy⟩
      rw [List.getElem?_map] at hy
      cases hz' : (f t)[k]? with
      | none => rw [hz'] at hy; cases hy
      | some z =>
      rw [hz'] at hy
      cases hy
      refine ⟨hw1 _ _, ?_⟩
      show te _ _ _
      refine he t z H _ ⟨_, hL3, ?_, e3.mut hD, sqT_putL hL3 ha3, ?_⟩
      · rw [List.length_map, List.length_append, List.length_take]
        have := (List.getElem?_eq_some_iff.mp hz').1
        exact sz_lt (by omega)
      · rw [upd_same, List.take_add_one, hz', ← List.append_assoc, List.map_append (l₂ := (some z).toList)]
        rfl
    · rintro H' ⟨e3, _, hL3⟩
      rw [List.length_map, List.take_length, whole] at hL3
      exact ⟨e3, hL3⟩
  · rintro H' ⟨e1, hL⟩
    rw [List.length_map, List.take_length] at hL
    exact hd H' e1 hL
/-- [z for z in ts if p z], texts in a list or a tuple -/
theorem lc_filt {J : It} {ts : List Str} {p : Str → Bool} {G : Hp → Prop} {j : Nat} {tt : TT} {te : TE} {vs : List Nat} {σ : L2.St} {H1 : Hp} {D : Addr} {Qd : Hp → Prop}
    (w : Walk J (ts.map V.str).length G (YAt (ts.map V.str))) (hz : ts.length ≤ 100000) (hD : H1 D = none) (hG : ∀ H', Ex H1 H' → G H') (hw : ∀ x, wipe ((wipe σ vs).set j (some x)) vs = wipe σ vs)
    (ht : ∀ z H', z ∈ ts → Ex H1 H' → (∃ xs, H' D = some (.lst xs)) → ∀ Q : Bool → Hp → Prop, (∀ H2, Ex H' H2 → Q (p z) H2) → tt ((wipe σ vs).set j (some (.str z))) H' Q)
    (he : ∀ z H', ∀ Q : VK, Q (.str z) H' → te ((wipe σ vs).set j (some (.str z))) H' Q) (hd : ∀ H', Ex H1 H' → H' D = some (.lst ((ts.filter p).map V.str)) → Qd H') :
    ∃ W : Nat → Nat → Hp → Prop, (∃ m, W 0 m (upd H1 D (.lst []))) ∧ ∀ i m H, W i m H →
      (J.stop i H ∧ Qd H) ∨ (J.go i H ∧ ∃ Nx : Hp → Prop, (∀ H', Nx H' → ∃ m', m' < m ∧ W (i + 1) m' H') ∧ ∀ x H', J.yld i H x H' → gName j x (wipe σ vs) H' fun σ2 H2 => wipe σ2 vs = wipe σ vs ∧ tt σ2 H2 fun b H3 =>
        if b = true then te σ2 H3 fun y H4 => ∃ acc, H4 D = some (.lst acc) ∧ acc.length < sizeLine ∧ Nx (upd H4 D (.lst (acc ++ [y]))) else Nx H3) := by
  refine lc_it w (fun i H' => Ex H1 H' ∧ H' D = some (.lst (((ts.take i).filter p).map V.str))) ⟨Ex.new hD, upd_same⟩ (fun i H' _ q => hG _ q.1) ?_ ?_
  · rintro i x _ H hi ⟨e1, hL⟩ ⟨rfl, hx⟩
    rw [List.getElem?_map] at hx
    cases hy : ts[i]? with
    | none => rw [hy] at hx; cases hx
    | some z =>
    rw [hy] at hx
    cases hx
    have nx : ts.take (i + 1) = ts.take i ++ [z] := by rw [List.take_add_one, hy]; rfl
    have hlt := (List.getElem?_eq_some_iff.mp hy).1
    refine ⟨hw _, ?_⟩
    refine ht z H (List.mem_of_getElem? hy) e1 ⟨_, hL⟩ _ fun H2 e2 => ?_
    cases hp : p z with
    | true =>
      rw [if_pos rfl]
      refine he z H2 _ ⟨_, e2 _ _ hL, ?_, (e1.trans e2).mut hD, ?_⟩
      · rw [List.length_map]
        have := List.length_filter_le p (ts.take i)
        rw [List.length_take] at this
        exact sz_lt (by omega)
      · rw [upd_same, nx, List.filter_append, List.filter_cons, if_pos hp, List.map_append (l₂ := z :: _)]
        rfl
    | false =>
      rw [if_neg Bool.false_ne_true]
      refine ⟨e1.trans e2, ?_⟩
      rw [nx, List.filter_append, List.filter_cons, if_neg (by rw [hp]; exact Bool.false_ne_true), List.filter_nil, List.append_nil]
      exact e2 _ _ hL
  · rintro H' ⟨e1, hL⟩
    rw [List.length_map, List.take_length] at hL
    exact hd H' e1 hL
theorem units1 {k : Nat} {A : Around} (r : Room k A) : A.units + 65 < cLine := by
  have := r.un
  omega
end UL

set_option Elab.async false
set_option linter.all false
set_option maxRecDepth 100000
set_option maxHeartbeats 2000000
/-! own: {e for x in xs for y in x if t}: the set of texts and ints of two clauses; sorted(set) of ints -/
namespace UL
open PySem PySem.Spec PyProof.Rows L2 Evl TL
section
variable {X : Cx}
/-- one more member, as the comprehension adds it -/
theorem addM_ok {pins : List (Addr × Obj)} {σ : L2.St} {H : Hp} {s : Shared} {E : Value → Shared → Prop} {D : Addr} {S : Key → Bool} {n : Nat} {k : Key} {u : Value} {Q : Value → Shared → Prop} (I : Inv X pins σ H s) (hD : H D = some (SetMO X.w D S n)) (room : n + 1 < scanBound) (ru : RelV (kV k) u)
    (h : ∀ s', Inv X pins σ (upd H D (SetMO X.w D (fun j => S j || decide (j = k)) (if S k = true then n else n + 1))) s' → Q .none s') : wpAny (model X.prog X.w) X.A (call (.builtin "set.add") [.ref D, u]) Q E s := by
  have R : SetM X.w s.heap D S n := (I.hok D _ hD).1
  have hS : s.heap.SetOf (mixKind X.prog X.w) D S n := R.setOf
  refine wpAny_call_entry F.slot_set_add hS.typeIs F.entry_set_add ?_ (F.args_set_add_2 _ _)
  unfold Builtin.«set.add» Builtin.Frozenset.oneOther
  simp only [List.isEmpty_nil, bind_assoc]
  unfold Builtin.Frozenset.addrOf setAdd
  refine wpAny_bind (wpAny_pure ?_)
  try dsimp only
  refine wpAny_bind (wpAny_pure ?_)
  try dsimp only
  refine wpAny_bind ?_
  refine wpAny_holding ?_
  refine wpAny_bind ((mixKind X.prog X.w).pyHash (k := k) (kV_is ru) ?_)
  refine setM_add (s := { s with toks := s.toks + 1 }) R ru room fun h' sb new => ?_
  show wpAny _ _ (ret Value.none) _ _ _
  have he : ∃ v, h'.get? D = some v := by
    have ⟨o, _, _, _, ho, _⟩ := new
    exact ⟨o, ho⟩
  exact wpAny_pure ⟨_, rfl, h _ (I.write (e := D) (t' := s.toks + 1) (by rw [hD]; trivial) (.inl rfl) (fun b v hb hu => (sb.2 b hb).trans hu) he (setMO_new new))⟩
end
theorem turn2_out (elt t0 i0 t1 i1 : Expr) (ifs0 ifs1 : List Expr) (scope : Scope) (pos : Pos) (it acc : Value) (env : Env) :
    compTurn (.SetComp elt [⟨t0, i0, ifs0, 0⟩, ⟨t1, i1, ifs1, 0⟩] scope pos) 0 it acc env = (do
      standAt i0.pos
      match ← pyNext it with
      | none => pure (.done .next)
      | some u =>
        letOwnedTupleGo t0 it u
        assign t0 env u
        let mut ok := true
        for c in ifs0 do
          if ok then ok ← isTrue c env (eval c env)
        if ok then
          let y ← eval i1 env
          standAt i1.pos
          let y ← foldedSetIterable i1 env y
          let _ ← runOwn (.compStart (.SetComp elt [⟨t0, i0, ifs0, 0⟩, ⟨t1, i1, ifs1, 0⟩] scope pos) 1 (← holding [y] (pyIter y)) acc env) env
        again (.compLoop (.SetComp elt [⟨t0, i0, ifs0, 0⟩, ⟨t1, i1, ifs1, 0⟩] scope pos) 0 it acc env)) := by rfl
theorem turn2_in (elt t0 i0 t1 i1 : Expr) (ifs0 ifs1 : List Expr) (scope : Scope) (pos : Pos) (it acc : Value) (env : Env) :
    compTurn (.SetComp elt [⟨t0, i0, ifs0, 0⟩, ⟨t1, i1, ifs1, 0⟩] scope pos) 1 it acc env = (do
      standAt i1.pos
      match ← pyNext it with
      | none => pure (.done .next)
      | some u =>
        letOwnedTupleGo t1 it u
        assign t1 env u
        let mut ok := true
        for c in ifs1 do
          if ok then ok ← isTrue c env (eval c env)
        if ok then
          (do let u ← eval elt env; standAt elt.pos; let _ ← call (.builtin "set.add") [acc, u])
        again (.compLoop (.SetComp elt [⟨t0, i0, ifs0, 0⟩, ⟨t1, i1, ifs1, 0⟩] scope pos) 1 it acc env)) := by rfl
section
variable {prog : Program} {w : World} {A : Around} {R : Result → Shared → Prop} {s : Shared} {elt t0 i0 t1 i1 : Expr} {ifs0 ifs1 : List Expr} {scope : Scope} {pos : Pos} {it acc : Value} {env : Env}
theorem loopS2_out (hs : ∀ y, foldedSetIterable i1 env y = pure y) (I : Nat → Shared → Prop)
    (turn : ∀ n s, I n s → wpAny (model prog w) A (pyNext it) (fun r s1 => match r with
      | none => R (.ok .next) s1
      | some u => wpAny (model prog w) A (letOwnedTupleGo t0 it u) (fun _ s1' => wpAny (model prog w) A (assign t0 env u) (fun _ s2 =>
          wpAny (model prog w) A (forIn ifs0 true fun c r => if r = true then do let ok ← isTrue c env (eval c env); pure (ForInStep.yield ok) else pure (ForInStep.yield r)) (fun ok s3 =>
            if ok = true then wpAny (model prog w) A (eval i1 env) (fun y s4 => wpAny (model prog w) A (pyIter y) (fun it1 s5 =>
              codeAny (model prog w) A (.compStart (.SetComp elt [⟨t0, i0, ifs0, 0⟩, ⟨t1, i1, ifs1, 0⟩] scope pos) 1 it1 acc env) (fun r s' => match r with
                | .ok _ => ∃ m, m < n ∧ I m s'
                | .error _ => False) s5) (notedBy (model prog w) A env fun e s' => R (.error e) s') s4) (notedBy (model prog w) A env fun e s' => R (.error e) s') s3
            else ∃ m, m < n ∧ I m s3) (notedBy (model prog w) A env fun e s' => R (.error e) s') s2) (notedBy (model prog w) A env fun e s' => R (.error e) s') s1') (notedBy (model prog w) A env fun e s' => R (.error e) s') s1) (notedBy (model prog w) A env fun e s' => R (.error e) s') s)
    (n : Nat) (h : I n s) :
    codeAny (model prog w) A (.compLoop (.SetComp elt [⟨t0, i0, ifs0, 0⟩, ⟨t1, i1, ifs1, 0⟩] scope pos) 0 it acc env) R s := by
  refine codeAny_loop rfl I (fun n s hI => ?_) n h
  show wpAny _ A ((compTurn (.SetComp elt [⟨t0, i0, ifs0, 0⟩, ⟨t1, i1, ifs1, 0⟩] scope pos) 0 it acc env).onRaise (fun e => do noteFrame e env; theTreesLotGoes e)) _ _ s
  refine wpAny_noted ?_
  rw [turn2_out]
  refine wpAny_bind (wpAny_standAt (wpAny_bind (wpAny_mono (turn n s hI) (fun r s1 g1 => ?_) fun _ _ g => g)))
  cases r with
  | none => exact wpAny_pure g1
  | some u =>
    refine wpAny_bind (wpAny_mono g1 (fun _ s1' g1' => ?_) fun _ _ g => g)
    refine wpAny_bind (wpAny_mono g1' (fun _ s2 g2 => wpAny_bind (wpAny_mono g2 (fun ok s3 g3 => ?_) fun _ _ g => g)) fun _ _ g => g)
    cases ok with
    | false => exact wpAny_pure ⟨rfl, g3⟩
    | true =>
      refine wpAny_bind (wpAny_mono g3 (fun y s4 g4 => ?_) fun _ _ g => g)
      refine wpAny_bind (wpAny_standAt (wpAny_bind (wpAny_of_eq (hs y) (wpAny_bind (wpAny_holding (wpAny_mono g4 (fun it1 s5 g5 => ?_) fun _ _ g => g))))))
      refine wpAny_bind (wpAny_runOwn ?_)
      rw [Around.mark_none]
      refine codeAny_mono g5 fun r s' hr => ?_
      cases r with
      | ok f =>
        first
          | exact wpAny_pure ⟨rfl, hr⟩
          | exact wpAny_bind (wpAny_pure (wpAny_pure ⟨rfl, hr⟩))
      | error e => exact hr.elim
theorem loopS2_in (I : Nat → Shared → Prop)
    (turn : ∀ n s, I n s → wpAny (model prog w) A (pyNext it) (fun r s1 => match r with
      | none => R (.ok .next) s1
      | some u => wpAny (model prog w) A (letOwnedTupleGo t1 it u) (fun _ s1' => wpAny (model prog w) A (assign t1 env u) (fun _ s2 =>
          wpAny (model prog w) A (forIn ifs1 true fun c r => if r = true then do let ok ← isTrue c env (eval c env); pure (ForInStep.yield ok) else pure (ForInStep.yield r)) (fun ok s3 =>
            if ok = true then wpAny (model prog w) A (eval elt env) (fun y s4 =>
              wpAny (model prog w) A (call (.builtin "set.add") [acc, y]) (fun _ s5 => ∃ m, m < n ∧ I m s5) (notedBy (model prog w) A env fun e s' => R (.error e) s') s4) (notedBy (model prog w) A env fun e s' => R (.error e) s') s3
            else ∃ m, m < n ∧ I m s3) (notedBy (model prog w) A env fun e s' => R (.error e) s') s2) (notedBy (model prog w) A env fun e s' => R (.error e) s') s1') (notedBy (model prog w) A env fun e s' => R (.error e) s') s1) (notedBy (model prog w) A env fun e s' => R (.error e) s') s)
    (n : Nat) (h : I n s) :
    codeAny (model prog w) A (.compLoop (.SetComp elt [⟨t0, i0, ifs0, 0⟩, ⟨t1, i1, ifs1, 0⟩] scope pos) 1 it acc env) R s := by
  refine codeAny_loop rfl I (fun n s hI => ?_) n h
  show wpAny _ A ((compTurn (.SetComp elt [⟨t0, i0, ifs0, 0⟩, ⟨t1, i1, ifs1, 0⟩] scope pos) 1 it acc env).onRaise (fun e => do noteFrame e env; theTreesLotGoes e)) _ _ s
  refine wpAny_noted ?_
  rw [turn2_in]
  refine wpAny_bind (wpAny_standAt (wpAny_bind (wpAny_mono (turn n s hI) (fun r s1 g1 => ?_) fun _ _ g => g)))
  cases r with
  | none => exact wpAny_pure g1
  | some u =>
    refine wpAny_bind (wpAny_mono g1 (fun _ s1' g1' => ?_) fun _ _ g => g)
    refine wpAny_bind (wpAny_mono g1' (fun _ s2 g2 => wpAny_bind (wpAny_mono g2 (fun ok s3 g3 => ?_) fun _ _ g => g)) fun _ _ g => g)
    cases ok with
    | false => exact wpAny_pure ⟨rfl, g3⟩
    | true =>
      exact wpAny_bind (wpAny_bind (wpAny_mono g3 (fun y s4 g4 => wpAny_bind (wpAny_standAt (wpAny_bind (wpAny_mono g4 (fun _ s5 g5 => wpAny_pure (wpAny_pure ⟨rfl, g5⟩)) fun _ _ g => g)))) fun _ _ g => g))
theorem startS1_ok (h0 : codeAny (model prog w) A (.compLoop (.SetComp elt [⟨t0, i0, ifs0, 0⟩, ⟨t1, i1, ifs1, 0⟩] scope pos) 1 it acc env) R s)
    (h : wpAny (model prog w) A (pyIter it) (fun it' s' => codeAny (model prog w) A (.compLoop (.SetComp elt [⟨t0, i0, ifs0, 0⟩, ⟨t1, i1, ifs1, 0⟩] scope pos) 1 it' acc env) R s')
      (notedBy (model prog w) A env fun e s' => R (.error e) s') s) :
    codeAny (model prog w) A (.compStart (.SetComp elt [⟨t0, i0, ifs0, 0⟩, ⟨t1, i1, ifs1, 0⟩] scope pos) 1 it acc env) R s := by
  refine codeAny_of_tree ?_
  show wpAny _ _ ((compStart (.SetComp elt [⟨t0, i0, ifs0, 0⟩, ⟨t1, i1, ifs1, 0⟩] scope pos) 1 it acc env).onRaise (fun e => do noteFrame e env; standAt theWindowsPlace)) _ _ s
  refine wpAny_notedAt ?_
  unfold compStart
  show wpAny _ _ (ask >>= _) _ _ s
  refine wpAny_bind (wpAny_askSetting (wpAny_ite ?_))
  split
  · first
      | exact wpAny_bind (wpAny_pure (wpAny_pure (And.intro rfl h0)))
      | exact wpAny_pure (And.intro rfl h0)
  · first
      | exact wpAny_bind (wpAny_rule (wpAny_bind (wpAny_standAt (wpAny_bind (wpAny_mono h (fun it' s' g => wpAny_pure (And.intro rfl g)) fun _ _ g => g)))))
      | (refine wpAny_bind (wpAny_rule ?_); show wpAny _ _ (standAt i1.pos >>= _) _ _ s; exact wpAny_bind (wpAny_standAt (wpAny_bind (wpAny_mono h (fun it' s' g => wpAny_pure (And.intro rfl g)) fun _ _ g => g))))
end
section
variable {X : Cx}
/-- {elt for tg in iter for tg1 in iter1 if ..}: as tLc2, D the new set -/
def tSc2 (w : World) (wi : TI) (g : TG) (tt : TT) (wi1 : TI) (g1 : TG) (tt1 : TT) (te : TE) (vs vs1 : List Nat) : TE := fun σ H Q => wi σ H fun J H1 => ∀ D, H1 D = none → ∃ W : Nat → Nat → Hp → Prop, (∃ m, W 0 m (upd H1 D (SetMO w D (fun _ => false) 0))) ∧ ∀ i m H, W i m H →
  (J.stop i H ∧ Q (.ref D) H) ∨ (J.go i H ∧ ∃ Nx : Hp → Prop, (∀ H', Nx H' → ∃ m', m' < m ∧ W (i + 1) m' H') ∧ ∀ x H', J.yld i H x H' → g x (wipe σ vs) H' fun σ2 H2 => wipe σ2 vs = wipe σ vs ∧ tt σ2 H2 fun b H3 =>
    if b = true then wi1 σ2 H3 fun J1 H4 => ∃ W1 : Nat → Nat → Hp → Prop, (∃ m, W1 0 m H4) ∧ ∀ j k H, W1 j k H →
      (J1.stop j H ∧ Nx H) ∨ (J1.go j H ∧ ∃ Nx1 : Hp → Prop, (∀ H', Nx1 H' → ∃ k', k' < k ∧ W1 (j + 1) k' H') ∧ ∀ x H', J1.yld j H x H' → g1 x (wipe σ2 vs1) H' fun σ3 H5 => wipe σ3 vs1 = wipe σ2 vs1 ∧ tt1 σ3 H5 fun b H6 =>
        if b = true then te σ3 H6 fun y H7 => ∃ (c : Key) (S : Key → Bool) (n : Nat), y = kV c ∧ H7 D = some (SetMO w D S n) ∧ n + 1 < scanBound ∧ Nx1 (upd H7 D (SetMO w D (fun j => S j || decide (j = c)) (if S c = true then n else n + 1))) else Nx1 H6)
    else Nx H3)
theorem sc2_core {pins : List (Addr × Obj)} {s : Shared} {σ : L2.St} {H : Hp} {Q : VK} {elt tg iter tg1 iter1 : Expr} {ifs ifs1 : List Expr} {scope : Scope} {own : List (PySem.Str × Nat)} {vs1 : List Nat} {pos pos' : Pos} {wi wi1 : TI} {g g1 : TG} {tt tt1 : TT} {te : TE} {use : Option (Value → Sem Unit)} {Qf : Value → Shared → Prop}
    (hc : X.calm = true) (hN : X.N.Nodup) (I : Inv X pins σ H s) (hi : PI X tg iter wi) (ok : BlkOk X.N X.env.scope scope own) (hv : ∀ i ∈ vs1, i ∈ own.map (·.2))
    (hg : ∀ (s : Shared) (H : Hp) (C : Addr) (cl : List (PySem.Str × Addr)) (fp : List Addr), PG (X.blk s H scope (compEnvC scope cl C X.env) fp) tg g) (ht : ∀ (s : Shared) (H : Hp) (C : Addr) (cl : List (PySem.Str × Addr)) (fp : List Addr), PTs (X.blk s H scope (compEnvC scope cl C X.env) fp) ifs tt)
    (he : ∀ (s : Shared) (H : Hp) (C : Addr) (cl : List (PySem.Str × Addr)) (fp : List Addr), PE (X.blk s H scope (compEnvC scope cl C X.env) fp) elt te) (hs : ∀ y, foldedSetIterable iter X.env y = pure y)
    (hi1 : ∀ (s : Shared) (H : Hp) (C : Addr) (cl : List (PySem.Str × Addr)) (fp : List Addr), PI (X.blk s H scope (compEnvC scope cl C X.env) fp) tg1 iter1 wi1)
    (hg1 : ∀ (s : Shared) (H : Hp) (C : Addr) (cl : List (PySem.Str × Addr)) (fp : List Addr), PG (X.blk s H scope (compEnvC scope cl C X.env) fp) tg1 g1)
    (ht1 : ∀ (s : Shared) (H : Hp) (C : Addr) (cl : List (PySem.Str × Addr)) (fp : List Addr), PTs (X.blk s H scope (compEnvC scope cl C X.env) fp) ifs1 tt1)
    (hs1 : ∀ env y, foldedSetIterable iter1 env y = pure y)
    (h : tSc2 X.w wi g tt wi1 g1 tt1 te (own.map (·.2)) vs1 σ H Q)
    (hRR : ∀ D C s' m H', Inv X pins σ H' s' → Q (.ref D) H' → s'.heap.Ns C m → FpOk X pins H' C → compPost (model X.prog X.w) X.A X.xe use Qf (.ref D) C (.ok .next) s') :
    wpAny (model X.prog X.w) X.A (comprehension (.SetComp elt [⟨tg, iter, ifs, 0⟩, ⟨tg1, iter1, ifs1, 0⟩] scope pos) scope X.env pos' (newSet (.type "set")) false (eval iter X.env) use) Qf X.xe s := by
  have hfree : ∀ y ∈ scope.names, y.2 = .free → ∃ c, X.env.cells.lookup y.1 = some c := fun y hy e => by
    rcases ok.free y hy e with z | z
    · exact I.ok.has _ (.inl z)
    · exact I.ok.has _ (.inr z)
  refine wpAny_comprehension_free (use := use) rfl hs (closure_ok hfree) ok.kind (fun y hy e => by rw [ok.uniq y hy, e])
    (thn (hi.run pins s σ H _ I h) fun xv s1 hx => thn hx fun itv s2 h2 => ?_)
  obtain ⟨it, fp, tn, J, H2, e, I2, T, st2, f2, q⟩ := h2
  subst e
  refine PpSet.newSet_ok (newEnv_comp ?_)
  generalize hD : s2.heap.objs.size = D
  have hDn : H2 D = none := I2.hok.fresh (Nat.le_of_eq hD)
  obtain ⟨W, ⟨m0, w0⟩, turn⟩ := q D hDn
  generalize hs3 : ({ s2 with heap := s2.heap.push { cls := .type "set", dict := none, data := .set #[] 0 (.fresh 0 0 (!X.w.params.followText "set-order")) } } : Shared) = s3
  generalize hH3 : upd H2 D (SetMO X.w D (fun _ => false) 0) = H3 at w0
  have I3 : Inv X pins σ H3 s3 := by
    rw [← hs3, ← hH3]
    refine I2.laid (t' := s2.toks) (fun b o e => Heap.get?_push_of_some _ e) (Nat.le_of_eq hD) ?_
    rw [← hD]
    exact setMO_new (setM_empty (Heap.get?_push_size _ rfl))
  have h3 : s3.heap = s2.heap.push { cls := .type "set", dict := none, data := .set #[] 0 (.fresh 0 0 (!X.w.params.followText "set-order")) } := by rw [← hs3]
  have sz : ∀ b ∈ fp, b < s2.heap.objs.size := fun b hb => by
    obtain ⟨o, e, _⟩ := T.obj _ _ st2 b hb
    exact Heap.lt_size e
  have f3 : ∀ b ∈ fp, FpOk X pins H3 b ∧ b < s3.heap.objs.size := fun b hb => by
    have hlt := sz b hb
    refine ⟨⟨?_, (f2 b hb).2⟩, by rw [h3, Heap.size_push]; exact Nat.lt_succ_of_lt hlt⟩
    rw [← hH3, upd_ne (by rw [← hD]; exact Nat.ne_of_lt hlt)]
    exact (f2 b hb).1
  have st3 : tn 0 s3.heap := T.keep _ _ _ st2 fun b _ o e => by rw [h3]; exact Heap.get?_push_of_some _ e
  have I4 := block_start I3 ok hN f3
  have pg := hg s3 H3 s3.heap.objs.size (cellsFrom (s3.heap.objs.size + 1) scope.names (cloFrom X.env.cells scope.names [])) fp
  have pt := ht s3 H3 s3.heap.objs.size (cellsFrom (s3.heap.objs.size + 1) scope.names (cloFrom X.env.cells scope.names [])) fp
  have pe := he s3 H3 s3.heap.objs.size (cellsFrom (s3.heap.objs.size + 1) scope.names (cloFrom X.env.cells scope.names [])) fp
  have pi1 := hi1 s3 H3 s3.heap.objs.size (cellsFrom (s3.heap.objs.size + 1) scope.names (cloFrom X.env.cells scope.names [])) fp
  have pg1 := hg1 s3 H3 s3.heap.objs.size (cellsFrom (s3.heap.objs.size + 1) scope.names (cloFrom X.env.cells scope.names [])) fp
  have pt1 := ht1 s3 H3 s3.heap.objs.size (cellsFrom (s3.heap.objs.size + 1) scope.names (cloFrom X.env.cells scope.names [])) fp
  show codeAny _ _ (.compStart (.SetComp elt [⟨tg, iter, ifs, 0⟩, ⟨tg1, iter1, ifs1, 0⟩] scope pos) 0 (.ref it) (.ref D) (compEnvC scope (cellsFrom (s3.heap.objs.size + 1) scope.names (cloFrom X.env.cells scope.names [])) s3.heap.objs.size X.env)) (compPost (model X.prog X.w) X.A X.xe use Qf (.ref D) s3.heap.objs.size) { s3 with heap := pushCells (s3.heap.push { cls := .type "dict", data := .dict #[] }) scope.names }
  have nfp : ∀ b ∈ fp, H3 b = none := fun b hb => (f3 b hb).1.1
  generalize hce : compEnvC scope (cellsFrom (s3.heap.objs.size + 1) scope.names (cloFrom X.env.cells scope.names [])) s3.heap.objs.size X.env = ce at I4 pg pt pe pi1 pg1 pt1 ⊢
  have cL : ce.locals = s3.heap.objs.size := by subst hce; rfl
  generalize hs4 : ({ s3 with heap := pushCells (s3.heap.push { cls := .type "dict", data := .dict #[] }) scope.names } : Shared) = s4 at I4 ⊢
  have st4 : tn 0 s4.heap := T.keep _ _ _ st3 fun b _ o e => by rw [← hs4]; exact pushCells_keeps _ _ _ _ (Heap.get?_push_of_some _ e)
  have stat : ∀ {σ' : L2.St} {H' : Hp} {s' : Shared}, Inv (X.blk s3 H3 scope ce fp) [] σ' H' s' → (∀ b ∈ fp, H' b = none) → ∀ b ∈ fp, FpOk (X.blk s3 H3 scope ce fp) [] H' b := fun {σ' H' s'} J hn b hb =>
    ⟨hn b hb, (J.ok.exf b hb).1, J.ok.exfs b hb, .inl hb, fun x c e => (J.ok.exf b hb).2 x c e, fun p hp => absurd (show p ∈ ([] : List (Addr × Obj)) ++ [] from hp) (by simp)⟩
  have loop : codeAny (model X.prog X.w) X.A (.compLoop (.SetComp elt [⟨tg, iter, ifs, 0⟩, ⟨tg1, iter1, ifs1, 0⟩] scope pos) 0 (.ref it) (.ref D) ce) (compPost (model X.prog X.w) X.A X.xe use Qf (.ref D) s3.heap.objs.size) s4 := by
    refine loopS2_out (hs1 ce) (fun n s' => ∃ i H', Inv (X.blk s3 H3 scope ce fp) [] (wipe σ (own.map (·.2))) H' s' ∧ tn i s'.heap ∧ (∀ b ∈ fp, H' b = none) ∧ W i n H') ?_ m0 ⟨0, H3, I4, st4, nfp, w0⟩
    rintro n s5 ⟨i, H5, I5, st5, n5, w5⟩
    rcases turn i n H5 w5 with ⟨stop, qq⟩ | ⟨go, Nx, hNx, step⟩
    · refine thnF (T.done (X.blk s3 H3 scope ce fp) rfl rfl rfl hc i [] s5 _ H5 (fun _ _ => False) I5 (stat I5 n5) st5 stop) fun r s6 ⟨hr, I6⟩ => ?_
      subst hr
      have I7 : Inv X pins σ H5 s6 := I3.call' (ch := fp) I6.os I6.base I6.hok I6.bare fun b hb => ⟨(f3 b hb).1.2.2.2.1, (f3 b hb).1.2.1, (f3 b hb).1.2.2.2.2.1, (f3 b hb).1.2.2.2.2.2⟩
      have nC : H5 s3.heap.objs.size = none := by
        have z : H5 ce.locals = none := I6.free
        rw [cL] at z
        exact z
      obtain ⟨m, hn, _⟩ := I6.loc
      have hn : s6.heap.Ns ce.locals m := hn
      rw [cL] at hn
      exact hRR D s3.heap.objs.size s6 m H5 I7 qq hn (I3.fpOk (Nat.le_refl _) nC)
    · refine thnF (T.item (X.blk s3 H3 scope ce fp) rfl rfl rfl hc i [] s5 _ H5 (fun _ _ => False) I5 (stat I5 n5) st5 go) fun r s6 ⟨u, hr, h6⟩ => ?_
      subst hr
      refine thnF h6 fun _ s7 ⟨x, H7, I7, r7, y7, st7, n7⟩ => ?_
      have I7' := I7.pinned (stat I7 n7) (T.obj _ _ st7)
      refine thnF (pg.run _ s7 _ H7 x u _ I7' r7 (step x H7 y7)) fun _ s8 ⟨σ8, H8, I8, hw8, q8⟩ => ?_
      refine thnF (pt.run _ s8 σ8 H8 _ I8 q8) fun b s9 ⟨H9, I9, q9⟩ => ?_
      have fin : ∀ {σ9 : L2.St} {s' : Shared} {H' : Hp}, Inv (X.blk s3 H3 scope ce fp) ([] ++ pinsAt fp s7.heap) σ9 H' s' → (wipe σ (own.map (·.2))).length = σ9.length → (∀ (j : Nat) v, (wipe σ (own.map (·.2)))[j]? = some (some v) → σ9[j]? = some (some v)) → Nx H' →
          ∃ m, m < n ∧ ∃ i H', Inv (X.blk s3 H3 scope ce fp) [] (wipe σ (own.map (·.2))) H' s' ∧ tn i s'.heap ∧ (∀ b ∈ fp, H' b = none) ∧ W i m H' := fun {σ9 s' H'} J' hl hk nx => by
        obtain ⟨m', hm, w'⟩ := hNx H' nx
        have pin' : ∀ b ∈ fp, ∀ o, s7.heap.get? b = some o → s'.heap.get? b = some o ∧ H' b = none := fun b hb o e =>
          let z := J'.pin (b, o) (List.mem_append_right _ (List.mem_append_right _ (mem_pinsAt hb e)))
          ⟨z.1, z.2.1⟩
        refine ⟨m', hm, i + 1, H', (J'.unpinned (pins := [])).weak hl hk, T.keep _ _ _ st7 fun b hb o e => (pin' b hb o e).1, fun b hb => ?_, w'⟩
        obtain ⟨o, e, _⟩ := T.obj _ _ st7 b hb
        exact (pin' b hb o e).2
      have hl8 : (wipe σ (own.map (·.2))).length = σ8.length := by rw [← hw8, wipe_length]
      have hk8 : ∀ (j : Nat) v, (wipe σ (own.map (·.2)))[j]? = some (some v) → σ8[j]? = some (some v) := fun j v e => by
        rw [← hw8] at e
        exact (wipe_some e).1
      have hk9 : ∀ (j : Nat) v, (wipe σ (own.map (·.2)))[j]? = some (some v) → (wipe σ8 vs1)[j]? = some (some v) := fun j v e => by
        rw [← hw8] at e
        obtain ⟨e1, e2⟩ := wipe_some e
        rw [wipe_out fun z => e2 (hv j z)]
        exact e1
      cases b with
      | false =>
        simp only [Bool.false_eq_true, if_false] at q9 ⊢
        exact fin I9 hl8 hk8 q9
      | true =>
        simp only [if_true] at q9 ⊢
        refine thnF (pi1.run _ s9 σ8 H9 _ I9 q9) fun xv s10 hx => thnF hx fun itv s11 h11 => ?_
        obtain ⟨it1, fp1, tn1, J1, H11, e1, I11, T1, st11, f11, W1, ⟨m1, w1⟩, turn1⟩ := h11
        subst e1
        have stat1 : ∀ {H' : Hp}, (∀ b ∈ fp1, H' b = none) → ∀ b ∈ fp1, FpOk (X.blk s3 H3 scope ce fp) ([] ++ pinsAt fp s7.heap) H' b := fun hn b hb => ⟨hn b hb, (f11 b hb).2⟩
        have loop1 : codeAny (model X.prog X.w) X.A (.compLoop (.SetComp elt [⟨tg, iter, ifs, 0⟩, ⟨tg1, iter1, ifs1, 0⟩] scope pos) 1 (.ref it1) (.ref D) ce)
            (fun r s' => match r with
              | .ok _ => ∃ m, m < n ∧ ∃ i H', Inv (X.blk s3 H3 scope ce fp) [] (wipe σ (own.map (·.2))) H' s' ∧ tn i s'.heap ∧ (∀ b ∈ fp, H' b = none) ∧ W i m H'
              | .error _ => False) s11 := by
          refine loopS2_in (fun k s' => ∃ j H', Inv (X.blk s3 H3 scope ce fp) ([] ++ pinsAt fp s7.heap) (wipe σ8 vs1) H' s' ∧ tn1 j s'.heap ∧ (∀ b ∈ fp1, H' b = none) ∧ W1 j k H') ?_ m1 ⟨0, H11, I11.weak (wipe_length _ _) (fun j v e => (wipe_some e).1), st11, fun b hb => (f11 b hb).1, w1⟩
          rintro k s12 ⟨j, H12, I12, st12, n12, w12⟩
          rcases turn1 j k H12 w12 with ⟨stop1, nx1⟩ | ⟨go1, Nx1, hNx1, step1⟩
          · refine thnF (T1.done (X.blk s3 H3 scope ce fp) rfl rfl rfl hc j _ s12 (wipe σ8 vs1) H12 (fun _ _ => False) I12 (stat1 n12) st12 stop1) fun r s13 ⟨hr, I13⟩ => ?_
            subst hr
            exact fin I13 (hl8.trans (wipe_length σ8 vs1).symm) hk9 nx1
          · refine thnF (T1.item (X.blk s3 H3 scope ce fp) rfl rfl rfl hc j _ s12 (wipe σ8 vs1) H12 (fun _ _ => False) I12 (stat1 n12) st12 go1) fun r s13 ⟨u1, hr, h13⟩ => ?_
            subst hr
            refine thnF h13 fun _ s14 ⟨x1, H14, I14, r14, y14, st14, n14⟩ => ?_
            have I14' := I14.pinned (stat1 n14) (T1.obj _ _ st14)
            refine thnF (pg1.run _ s14 (wipe σ8 vs1) H14 x1 u1 _ I14' r14 (step1 x1 H14 y14)) fun _ s15 ⟨σ15, H15, I15, hw15, q15⟩ => ?_
            refine thnF (pt1.run _ s15 σ15 H15 _ I15 q15) fun b1 s16 ⟨H16, I16, q16⟩ => ?_
            have fin1 : ∀ {s' : Shared} {H' : Hp}, Inv (X.blk s3 H3 scope ce fp) (([] ++ pinsAt fp s7.heap) ++ pinsAt fp1 s14.heap) σ15 H' s' → Nx1 H' → ∃ m, m < k ∧ ∃ j H', Inv (X.blk s3 H3 scope ce fp) ([] ++ pinsAt fp s7.heap) (wipe σ8 vs1) H' s' ∧ tn1 j s'.heap ∧ (∀ b ∈ fp1, H' b = none) ∧ W1 j m H' := fun {s' H'} J' nx => by
              obtain ⟨m', hm, w'⟩ := hNx1 H' nx
              have pin' : ∀ b ∈ fp1, ∀ o, s14.heap.get? b = some o → s'.heap.get? b = some o ∧ H' b = none := fun b hb o e =>
                let z := J'.pin (b, o) (List.mem_append_right _ (List.mem_append_right _ (mem_pinsAt hb e)))
                ⟨z.1, z.2.1⟩
              refine ⟨m', hm, j + 1, H', J'.unpinned.weak (by rw [← hw15, wipe_length]) (fun j v e => by rw [← hw15] at e; exact (wipe_some e).1), T1.keep _ _ _ st14 fun b hb o e => (pin' b hb o e).1, fun b hb => ?_, w'⟩
              obtain ⟨o, e, _⟩ := T1.obj _ _ st14 b hb
              exact (pin' b hb o e).2
            cases b1 with
            | false =>
              simp only [Bool.false_eq_true, if_false] at q16 ⊢
              exact fin1 I16 q16
            | true =>
              simp only [if_true] at q16 ⊢
              refine thnF (pe.run _ s16 σ15 H16 _ I16 q16) fun z s17 ⟨yv, H17, I17, r17, cb, S0, n0, ey, hD17, hz17, nx⟩ => ?_
              subst ey
              exact addM_ok (X := X.blk s3 H3 scope ce fp) I17 hD17 hz17 r17 fun s18 I18 => fin1 I18 nx
        exact startS1_ok loop1 (T1.self X.A 0 _ _ _ st11 loop1)
  exact PpSet.codeAny_compStart_set loop (T.self X.A 0 _ _ _ st4 loop)
theorem pe_sc2 {elt tg iter tg1 iter1 : Expr} {ifs ifs1 : List Expr} {scope : Scope} {own : List (PySem.Str × Nat)} {vs1 : List Nat} {pos : Pos} {wi wi1 : TI} {g g1 : TG} {tt tt1 : TT} {te : TE} (hc : X.calm = true) (hN : X.N.Nodup) (hi : PI X tg iter wi) (ok : BlkOk X.N X.env.scope scope own) (hv : ∀ i ∈ vs1, i ∈ own.map (·.2))
    (hg : ∀ (s : Shared) (H : Hp) (C : Addr) (cl : List (PySem.Str × Addr)) (fp : List Addr), PG (X.blk s H scope (compEnvC scope cl C X.env) fp) tg g) (ht : ∀ (s : Shared) (H : Hp) (C : Addr) (cl : List (PySem.Str × Addr)) (fp : List Addr), PTs (X.blk s H scope (compEnvC scope cl C X.env) fp) ifs tt)
    (hi1 : ∀ (s : Shared) (H : Hp) (C : Addr) (cl : List (PySem.Str × Addr)) (fp : List Addr), PI (X.blk s H scope (compEnvC scope cl C X.env) fp) tg1 iter1 wi1)
    (hg1 : ∀ (s : Shared) (H : Hp) (C : Addr) (cl : List (PySem.Str × Addr)) (fp : List Addr), PG (X.blk s H scope (compEnvC scope cl C X.env) fp) tg1 g1) (ht1 : ∀ (s : Shared) (H : Hp) (C : Addr) (cl : List (PySem.Str × Addr)) (fp : List Addr), PTs (X.blk s H scope (compEnvC scope cl C X.env) fp) ifs1 tt1)
    (he : ∀ (s : Shared) (H : Hp) (C : Addr) (cl : List (PySem.Str × Addr)) (fp : List Addr), PE (X.blk s H scope (compEnvC scope cl C X.env) fp) elt te) (hs : ∀ y, foldedSetIterable iter X.env y = pure y := by intro _; rfl) (hs1 : ∀ env y, foldedSetIterable iter1 env y = pure y := by intro _ _; rfl) :
    PE X (.SetComp elt [⟨tg, iter, ifs, 0⟩, ⟨tg1, iter1, ifs1, 0⟩] scope pos) (tSc2 X.w wi g tt wi1 g1 tt1 te (own.map (·.2)) vs1) := by
  refine ⟨fun pins s σ H Q I h => ?_⟩
  rw [PpSet.eval_SetComp]
  refine sc2_core hc hN I hi ok hv hg ht he hs hi1 hg1 ht1 hs1 h fun D C s' m H' I' q hn f => ⟨m, hn, fun h'' sb => ?_⟩
  obtain ⟨f0, f1, f2, f3, f4, f5⟩ := f
  exact ⟨.ref D, H', I'.turned (t' := s'.toks) (fun b o hb e => (sb.2 b hb).trans e) f0 f1 f3 f4 f5, rfl, q⟩
end
end UL

set_option Elab.async false
set_option linter.all false
set_option maxRecDepth 100000
/-! own: lists of texts and numbers, united: the texts ascending, then the numbers ascending, none twice -/
namespace UL
open PySem PySem.Spec PyProof.Rows L2 Evl TL
/-! ### numbers -/
def RisI (xs : List Int) : Prop := xs.Pairwise fun a b => a < b
def insI (z : Int) : List Int → List Int
  | [] => [z]
  | x :: r => if z < x then z :: x :: r else if z = x then x :: r else x :: insI z r
def ascI (xs : List Int) : List Int := xs.foldr insI []
theorem mem_insI {z y : Int} : ∀ {xs : List Int}, y ∈ insI z xs ↔ y = z ∨ y ∈ xs
  | [] => by simp [insI]
  | x :: r => by
    unfold insI
    by_cases h1 : z < x
    · rw [if_pos h1, List.mem_cons]
    · rw [if_neg h1]
      by_cases h2 : z = x
      · rw [if_pos h2]
        subst h2
        simp
      · rw [if_neg h2, List.mem_cons, mem_insI, List.mem_cons]
        exact ⟨fun h => by rcases h with h | h | h <;> simp [h], fun h => by rcases h with h | h | h <;> simp [h]⟩
theorem mem_ascI {y : Int} : ∀ {xs : List Int}, y ∈ ascI xs ↔ y ∈ xs
  | [] => Iff.rfl
  | x :: r => by
    show y ∈ insI x (ascI r) ↔ _
    rw [mem_insI, mem_ascI, List.mem_cons]
theorem risI_ins {z : Int} : ∀ {xs : List Int}, RisI xs → RisI (insI z xs)
  | [], _ => List.pairwise_singleton _ _
  | x :: r, h => by
    obtain ⟨h1, h2⟩ := List.pairwise_cons.mp h
    unfold insI
    by_cases e1 : z < x
    · rw [if_pos e1]
      refine List.pairwise_cons.mpr ⟨fun y hy => ?_, h⟩
      rcases List.mem_cons.mp hy with rfl | hy
      · exact e1
      · exact Int.lt_trans e1 (h1 y hy)
    · rw [if_neg e1]
      by_cases e2 : z = x
      · rw [if_pos e2]
        exact h
      · rw [if_neg e2]
        refine List.pairwise_cons.mpr ⟨fun y hy => ?_, risI_ins h2⟩
        rcases mem_insI.mp hy with rfl | hy
        · omega
        · exact h1 y hy
theorem ascI_ris : ∀ xs : List Int, RisI (ascI xs)
  | [] => List.Pairwise.nil
  | x :: r => risI_ins (ascI_ris r)
theorem risI_ext : ∀ {xs ys : List Int}, RisI xs → RisI ys → (∀ z, z ∈ xs ↔ z ∈ ys) → xs = ys
  | [], [], _, _, _ => rfl
  | [], y :: _, _, _, h => absurd ((h y).mpr List.mem_cons_self) (by simp)
  | x :: _, [], _, _, h => absurd ((h x).mp List.mem_cons_self) (by simp)
  | x :: r, y :: t, h1, h2, h => by
    obtain ⟨a1, a2⟩ := List.pairwise_cons.mp h1
    obtain ⟨b1, b2⟩ := List.pairwise_cons.mp h2
    have e : x = y := by
      rcases List.mem_cons.mp ((h x).mp List.mem_cons_self) with e | e
      · exact e
      · rcases List.mem_cons.mp ((h y).mpr List.mem_cons_self) with q | q
        · exact q.symm
        · have := b1 x e
          have := a1 y q
          omega
    subst e
    refine congrArg (x :: ·) (risI_ext a2 b2 fun z => ⟨fun hz => ?_, fun hz => ?_⟩)
    · rcases List.mem_cons.mp ((h z).mp (List.mem_cons_of_mem _ hz)) with e | e
      · exact absurd (a1 z hz) (by omega)
      · exact e
    · rcases List.mem_cons.mp ((h z).mpr (List.mem_cons_of_mem _ hz)) with e | e
      · exact absurd (b1 z hz) (by omega)
      · exact e
theorem ascI_of {xs ys : List Int} (h : RisI ys) (hm : ∀ z, z ∈ ys ↔ z ∈ xs) : ys = ascI xs := risI_ext h (ascI_ris _) fun z => by rw [mem_ascI, hm]
/-! ### things -/
def keyS : Key → Bool
  | .inr _ => true
  | .inl _ => false
def namesOf (ks : List Key) : List Str := ks.filterMap fun k => match k with | .inr z => some z | .inl _ => none
def numsOf (ks : List Key) : List Int := ks.filterMap fun k => match k with | .inl i => some i | .inr _ => none
theorem mem_names {ks : List Key} {z : Str} : z ∈ namesOf ks ↔ Sum.inr z ∈ ks := by
  unfold namesOf
  rw [List.mem_filterMap]
  constructor
  · rintro ⟨k, hk, e⟩
    cases k with
    | inl i => cases e
    | inr y => cases e; exact hk
  · exact fun h => ⟨_, h, rfl⟩
theorem mem_nums {ks : List Key} {i : Int} : i ∈ numsOf ks ↔ Sum.inl i ∈ ks := by
  unfold numsOf
  rw [List.mem_filterMap]
  constructor
  · rintro ⟨k, hk, e⟩
    cases k with
    | inl j => cases e; exact hk
    | inr y => cases e
  · exact fun h => ⟨_, h, rfl⟩
def unit1 (ks : List Key) : List Key := (asc (namesOf ks)).map Sum.inr ++ (ascI (numsOf ks)).map Sum.inl
theorem mem_unit1 {ks : List Key} {k : Key} : k ∈ unit1 ks ↔ k ∈ ks := by
  unfold unit1
  rw [List.mem_append, List.mem_map, List.mem_map]
  constructor
  · rintro (⟨z, hz, rfl⟩ | ⟨i, hi, rfl⟩)
    · exact mem_names.mp (mem_asc.mp hz)
    · exact mem_nums.mp (mem_ascI.mp hi)
  · intro h
    cases k with
    | inl i => exact .inr ⟨i, mem_ascI.mpr (mem_nums.mpr h), rfl⟩
    | inr z => exact .inl ⟨z, mem_asc.mpr (mem_names.mpr h), rfl⟩
def ltK : Key → Key → Prop
  | .inr a, .inr b => ltS a b = true
  | .inr _, .inl _ => True
  | .inl a, .inl b => a < b
  | .inl _, .inr _ => False
theorem unit1_ord (ks : List Key) : (unit1 ks).Pairwise ltK := by
  unfold unit1
  refine List.pairwise_append.mpr ⟨List.pairwise_map.mpr (asc_ris _), List.pairwise_map.mpr (ascI_ris _), fun a ha b hb => ?_⟩
  obtain ⟨z, _, rfl⟩ := List.mem_map.mp ha
  obtain ⟨i, _, rfl⟩ := List.mem_map.mp hb
  trivial
theorem kV_inj {a b : Key} (h : kV a = kV b) : a = b := by
  cases a <;> cases b <;> first | (cases h; rfl) | cases h
theorem eqV_kV (a b : Key) : eqV (kV a) (kV b) = decide (a = b) := by
  cases a with
  | inl i =>
    cases b with
    | inl j =>
      show (i == j) = _
      by_cases e : i = j
      · subst e; simp
      · rw [decide_eq_false fun h => e (Sum.inl.inj h)]; simpa using e
    | inr y => rfl
  | inr x =>
    cases b with
    | inl j => rfl
    | inr y =>
      show (x == y) = _
      by_cases e : x = y
      · subst e; simp
      · rw [decide_eq_false fun h => e (Sum.inr.inj h)]; simpa using e
theorem inV_kV (k : Key) (ks : List Key) : inV (kV k) (ks.map kV) = isin ks k := by
  unfold inV
  rw [List.any_map]
  by_cases h : k ∈ ks
  · rw [isin_iff.mpr h, List.any_eq_true]
    exact ⟨k, h, by show eqV (kV k) (kV k) = true; rw [eqV_kV]; exact decide_eq_true rfl⟩
  · rw [show isin ks k = false by cases q : isin ks k with
      | false => rfl
      | true => exact absurd (isin_iff.mp q) h, List.any_eq_false]
    intro y hy e
    have e : eqV (kV y) (kV k) = true := e
    rw [eqV_kV] at e
    exact h (of_decide_eq_true e ▸ hy)
theorem flat_kV (k : Key) : flatV (kV k) = true := by cases k <;> rfl
theorem flat_kVs (ks : List Key) : (ks.map kV).all flatV = true := by
  rw [List.all_map]
  exact List.all_eq_true.mpr fun k _ => flat_kV k
theorem nd_lenD {α : Type} [DecidableEq α] {U : List α} : ∀ {xs : List α}, xs.Nodup → (∀ z ∈ xs, z ∈ U) → xs.length ≤ U.length := by
  intro xs
  induction xs generalizing U with
  | nil => exact fun _ _ => Nat.zero_le _
  | cons x r ih =>
    intro nd h
    obtain ⟨n1, n2⟩ := List.nodup_cons.mp nd
    have hx := h x List.mem_cons_self
    have h2 := ih (U := U.erase x) n2 fun z hz => (List.mem_erase_of_ne fun e => n1 (by rw [← e]; exact hz)).mpr (h z (List.mem_cons_of_mem _ hz))
    rw [List.length_erase_of_mem hx] at h2
    have h3 : 0 < U.length := List.length_pos_of_mem hx
    rw [List.length_cons]
    omega
theorem ltK_ne {a b : Key} (h : ltK a b) : a ≠ b := by
  rintro rfl
  cases a with
  | inl i => exact absurd (show i < i from h) (by omega)
  | inr z => exact lt_ne (show ltS z z = true from h) rfl
theorem unit1_nodup (ks : List Key) : (unit1 ks).Nodup := List.Pairwise.imp (fun q => ltK_ne q) (unit1_ord ks)
theorem unit1_le {ks U : List Key} (h : ∀ k ∈ ks, k ∈ U) : (unit1 ks).length ≤ U.length := nd_lenD (unit1_nodup ks) fun z hz => h z (mem_unit1.mp hz)
end UL

set_option Elab.async false
set_option linter.all false
set_option maxRecDepth 100000
set_option maxHeartbeats 2000000
/-! own: sorted(set) of numbers; the walks of {z for zs in xs for z in zs if p z} -/
namespace UL
open PySem PySem.Spec PyProof.Rows L2 Evl TL
section
variable {P : Program} {w : World} {A : Around} {E : Value → Shared → Prop} {s : Shared}
theorem call_sorted_setI {S : Key → Bool} {n : Nat} {a : Addr} {Q : Value → Shared → Prop} (R : SetM w s.heap a S n) (hS : ∀ k, S k = true → ∃ i, k = .inl i) (hh : A.handled = none)
    (hQ : ∀ s' p (out : Array Value) (c : Nat) (ys : List Int), (∀ b o, s.heap.get? b = some o → s'.heap.get? b = some o) → s'.gens = s.gens → s'.os = s.os → s.heap.objs.size ≤ p →
      s'.heap.get? p = some (seqObj "list" out c) → IntsAre out.toList ys → RisI ys → (∀ i, i ∈ ys ↔ S (.inl i) = true) → ys.length = n → Q (.ref p) s') :
    wpAny (model P w) A (call (.builtin "sorted") [.ref a]) Q E s := by
  obtain ⟨o, es, ep, t, ho, hex, hd, g, nd, hm, hb, hf, hn, hr, hl⟩ := R
  refine Calls.call_function_entry kind_sorted plain_sorted entry_sorted (args_sorted1 _) ?_
  unfold Builtin.«sorted»
  refine wpAny_bind (m := checkCount "sorted" 1 1 _) (wpAny_pure ?_)
  refine wpAny_bind (collect_set (A := A.in1) hh ⟨o, ho, hex.1, hd⟩ hf hb hr hl fun s1 us k1 hz g1 o1 pm => ?_)
  have hvl : us.length = n := by rw [pm.length_eq, List.length_map, Array.length_toList]; exact hn
  have lim : us.length ≤ sizeLine := by rw [hvl, ← hn]; exact fits_of_scanBound hb
  have num : ∀ e ∈ es.toList, ∃ i tk, e.2 = Value.int i tk ∧ mem1 e = .inl i := fun e he => by
    obtain ⟨i, hi⟩ := hS (mem1 e) ((hm _).2 (List.mem_map_of_mem he))
    have r := (g e he).r
    rw [hi] at r
    obtain ⟨tk, q⟩ := r
    exact ⟨i, tk, q, hi⟩
  have hI : IntsAre us (us.map Builtin.Re.reRawOf) := L2.ints_of us fun v hv => by
    obtain ⟨e, he, q⟩ := List.mem_map.mp (pm.mem_iff.mp hv)
    obtain ⟨i, tk, h1, _⟩ := num e he
    exact ⟨i, tk, by rw [← q]; exact h1⟩
  have pk : (us.map Builtin.Re.reRawOf).Perm (es.toList.map fun e => Builtin.Re.reRawOf e.2) := by
    have q := pm.map Builtin.Re.reRawOf
    rw [List.map_map] at q
    exact q
  have ek : (es.toList.map fun e => (Sum.inl (Builtin.Re.reRawOf e.2) : Key)) = es.toList.map mem1 := List.map_congr_left fun e he => by
    obtain ⟨i, tk, h1, h2⟩ := num e he
    rw [h1, h2]
    rfl
  have kk : ((us.map Builtin.Re.reRawOf).map Sum.inl : List Key).Perm (es.toList.map mem1) := by
    have q := pk.map (Sum.inl : Int → Key)
    rw [List.map_map (f := fun e : Int × Value => Builtin.Re.reRawOf e.2)] at q
    rw [← ek]
    exact q
  refine wpAny_bind (wpAny_newList ?_ lim)
  have hoL : (s1.heap.push (seqObj "list" us.toArray 0)).get? s1.heap.objs.size = some (seqObj "list" us.toArray 0) := Heap.get?_push_size _ rfl
  refine wpAny_bind (wpAny_holding (wpAny_call_entry slot_list_sort ⟨_, hoL, rfl⟩ entry_list_sort (list_sort_treeAny hoL hI lim fun out ys a1 a2 a3 => ⟨_, rfl, ?_⟩) (args_list_sort _)))
  obtain ⟨c, hc⟩ := sortedHeap_at (vs := us) (out := out) hoL
  have yk : (ys.map Sum.inl : List Key).Perm (es.toList.map mem1) := (a2.map Sum.inl).trans kk
  have ynd : ys.Nodup := by
    have q : (ys.map Sum.inl : List Key).Nodup := yk.nodup_iff.mpr nd
    exact List.Pairwise.imp (fun h e => h (congrArg Sum.inl e)) (List.pairwise_map.mp q)
  refine wpAny_pure ⟨_, rfl, hQ _ s1.heap.objs.size out c ys (fun b u e => ?_) g1 o1 hz hc a1 (L2.lt_of_le_nodup ys a3 ynd) (fun i => ?_) ?_⟩
  · have q := k1 b u e
    have lt := Heap.lt_size q
    show (sortedHeap (s1.heap.push (seqObj "list" us.toArray 0)) s1.heap.objs.size us out).get? b = some u
    rw [sortedHeap_old (Nat.ne_of_lt lt) (by rw [size_push']; exact Nat.lt_succ_of_lt lt)]
    exact Heap.get?_push_of_some _ q
  · rw [hm, ← yk.mem_iff]
    exact ⟨fun h => List.mem_map_of_mem h, fun h => by
      obtain ⟨y, hy, e⟩ := List.mem_map.mp h
      cases e
      exact hy⟩
  · have q := yk.length_eq
    rw [List.length_map, List.length_map] at q
    rw [q, Array.length_toList]
    exact hn
end
section
variable {X : Cx}
/-- sorted(found), all members numbers -/
def rSortedMI (w : World) : List V → Hp → VK → Prop := fun vs H Q => ∃ (a : Addr) (S : Key → Bool) (n : Nat), vs = [V.ref a] ∧ H a = some (SetMO w a S n) ∧ n ≤ 4000 ∧ (∀ k, S k = true → ∃ i, k = .inl i) ∧
  ∀ (ys : List Int) (p : Addr), RisI ys → (∀ i, i ∈ ys ↔ S (.inl i) = true) → ys.length = n → H p = none → Q (.ref p) (upd H p (.lst (ys.map V.int)))
theorem call_sortedMI (hc : X.calm = true) : CallR X (.builtin "sorted") (rSortedMI X.w) := by
  intro pins s σ H vs us Q I r h
  obtain ⟨a, S, n, rfl, ha, lim, tx, q⟩ := h
  have R : SetM X.w s.heap a S n := (I.hok a _ ha).1
  rw [Vals.ref1 r]
  refine call_sorted_setI R tx (I.ok.hd hc) fun s' p out c ys k g o hp hg hi hs hm hl => ?_
  have hlen : (ys.map V.int).length ≤ sizeLine := by rw [List.length_map, hl]; exact Nat.le_trans lim (by decide)
  have hn : H p = none := I.hok.fresh hp
  have J : Inv X pins σ (upd H p (.lst (ys.map V.int))) { s with heap := s'.heap, gens := s'.gens, drawn := s'.drawn, toks := s'.toks } :=
    I.call (ch := []) (Un.laid k hp hn) (I.hok.laid k hp ⟨hlen, out.toList, c, vals_of_ints hi, hg⟩) (by rw [g]; exact I.bare) (fun _ z => nomatch z)
  have e : s' = { s with heap := s'.heap, gens := s'.gens, drawn := s'.drawn, toks := s'.toks } := by
    cases s'
    cases s
    cases o
    rfl
  rw [e]
  exact ⟨.ref p, _, J, rfl, q ys p hs hm hl hn⟩
end
/-! ### the walks -/
theorem sqL_putS {K : PySem.W.Frag} {w : World} {H : Hp} {D t : Addr} {S S' : Key → Bool} {n n' : Nat} {xs : List V} (hD : H D = some (SetMO w D S n)) (h : SqL K H t xs) : SqL K (upd H D (SetMO w D S' n')) t xs := by
  rcases h with (h | ⟨u, h⟩) | h
  · exact .inl (.inl (by rw [upd_ne (ne_of h hD (by intro z; cases z))]; exact h))
  · exact .inl (.inr ⟨u, by rw [upd_ne (ne_of h hD (by intro z; cases z))]; exact h⟩)
  · exact .inr h
/-- {z for zs in xs for z in zs if p z}; the lists stand -/
theorem sc_flat {K : PySem.W.Frag} {w : World} {J : It} {as : List Addr} {ls : List (List Key)} {p : Key → Bool} {G : Hp → Prop} {j j1 : Nat} {wi1 : TI} {tt1 : TT} {te : TE} {vs vs1 : List Nat} {σ : L2.St} {H1 : Hp} {D : Addr} {Qd : Hp → Prop}
    (W : Walk J (as.map V.ref).length G (YAt (as.map V.ref))) (hl : Al2 (fun a ks => SqL K H1 a (ks.map kV)) as ls) (hz : ls.flatten.length ≤ 3000) (hD : H1 D = none) (hG : ∀ H', Ex H1 H' → G H')
    (hw : ∀ x, wipe ((wipe σ vs).set j (some x)) vs = wipe σ vs) (hw1 : ∀ x y, wipe ((wipe ((wipe σ vs).set j (some x)) vs1).set j1 (some y)) vs1 = wipe ((wipe σ vs).set j (some x)) vs1)
    (hi : ∀ a (ks : List Key) H' (R : It → Hp → Prop), SqL K H' a (ks.map kV) → R (Itl K a) H' → wi1 ((wipe σ vs).set j (some (.ref a))) H' R)
    (ht : ∀ a k H', ∀ Q : Bool → Hp → Prop, Q (p k) H' → tt1 ((wipe ((wipe σ vs).set j (some (.ref a))) vs1).set j1 (some (kV k))) H' Q)
    (he : ∀ a k H', ∀ Q : VK, Q (kV k) H' → te ((wipe ((wipe σ vs).set j (some (.ref a))) vs1).set j1 (some (kV k))) H' Q)
    (hd : ∀ n H', Ex H1 H' → n ≤ ls.flatten.length → H' D = some (SetMO w D (fun k => isin (ls.flatten.filter p) k) n) → Qd H') :
    ∃ W : Nat → Nat → Hp → Prop, (∃ m, W 0 m (upd H1 D (SetMO w D (fun _ => false) 0))) ∧ ∀ i m H, W i m H →
      (J.stop i H ∧ Qd H) ∨ (J.go i H ∧ ∃ Nx : Hp → Prop, (∀ H', Nx H' → ∃ m', m' < m ∧ W (i + 1) m' H') ∧ ∀ x H', J.yld i H x H' → gName j x (wipe σ vs) H' fun σ2 H2 => wipe σ2 vs = wipe σ vs ∧ tYes σ2 H2 fun b H3 =>
        if b = true then wi1 σ2 H3 fun J1 H4 => ∃ W1 : Nat → Nat → Hp → Prop, (∃ m, W1 0 m H4) ∧ ∀ j k H, W1 j k H →
          (J1.stop j H ∧ Nx H) ∨ (J1.go j H ∧ ∃ Nx1 : Hp → Prop, (∀ H', Nx1 H' → ∃ k', k' < k ∧ W1 (j + 1) k' H') ∧ ∀ x H', J1.yld j H x H' → gName j1 x (wipe σ2 vs1) H' fun σ3 H5 => wipe σ3 vs1 = wipe σ2 vs1 ∧ tt1 σ3 H5 fun b H6 =>
            if b = true then te σ3 H6 fun y H7 => ∃ (c : Key) (S : Key → Bool) (n : Nat), y = kV c ∧ H7 D = some (SetMO w D S n) ∧ n + 1 < scanBound ∧ Nx1 (upd H7 D (SetMO w D (fun j => S j || decide (j = c)) (if S c = true then n else n + 1))) else Nx1 H6)
        else Nx H3) := by
  have lal : (as.map V.ref).length = as.length := List.length_map _
  have lll : as.length = ls.length := hl.len
  -- the invariant: the members so far
  obtain ⟨Iv, hIv⟩ : ∃ Iv : List Key → Hp → Prop, Iv = fun ks H' => Ex H1 H' ∧ ∃ n, n ≤ ks.length ∧ H' D = some (SetMO w D (fun k => isin (ks.filter p) k) n) := ⟨_, rfl⟩
  have step : ∀ {ks : List Key} {k : Key} {H' : Hp}, Iv ks H' → p k = false → Iv (ks ++ [k]) H' := fun {ks k H'} h hp => by
    rw [hIv] at h ⊢
    obtain ⟨e, n, hn, hs⟩ := h
    refine ⟨e, n, by rw [List.length_append]; exact Nat.le_add_right_of_le hn, ?_⟩
    rw [List.filter_append, List.filter_cons, if_neg (by rw [hp]; exact Bool.false_ne_true), List.filter_nil, List.append_nil]
    exact hs
  refine ⟨fun i m H => m = as.length - i ∧ i ≤ as.length ∧ Iv (ls.take i).flatten H, ⟨as.length, by simp, Nat.zero_le _, ?_⟩, ?_⟩
  · rw [hIv]
    exact ⟨Ex.new hD, 0, Nat.zero_le _, upd_same⟩
  rintro i m H ⟨rfl, hi', iv⟩
  have iv0 := iv
  rw [hIv] at iv
  obtain ⟨e1, n1, hn1, hs1⟩ := iv
  have g := hG H e1
  by_cases hlt : i < as.length
  · refine .inr ⟨W.goes i H (by rw [lal]; exact hlt) g, fun H' => Iv (ls.take (i + 1)).flatten H', fun H' q => ⟨as.length - (i + 1), by omega, rfl, hlt, q⟩, fun x H' y => ?_⟩
    obtain ⟨e0, hx⟩ := W.yields i H x H' (by rw [lal]; exact hlt) g y
    subst e0
    rw [List.getElem?_map] at hx
    obtain ⟨a, ha, rfl⟩ := Option.map_eq_some_iff.mp hx
    obtain ⟨ks, hks, hat⟩ := hl.get i a ha
    have nx : ls.take (i + 1) = ls.take i ++ [ks] := by rw [List.take_add_one, hks]; rfl
    have whole : (ls.take (i + 1)).flatten = (ls.take i).flatten ++ ks := by rw [nx, List.flatten_append, List.flatten_singleton]
    have hlen : ((ls.take i).flatten).length + ks.length ≤ ls.flatten.length := by
      rw [← List.length_append, ← whole]
      conv => rhs; rw [← List.take_append_drop (i + 1) ls, List.flatten_append, List.length_append]
      omega
    refine ⟨hw _, ?_⟩
    show wi1 _ _ _
    refine hi a ks _ _ ?_ ?_
    · rcases hat with (h | ⟨u, h⟩) | h
      · exact .inl (.inl (e1 _ _ h))
      · exact .inl (.inr ⟨u, e1 _ _ h⟩)
      · exact .inr h
    refine ⟨fun k m H => m = ks.length - k ∧ k ≤ ks.length ∧ Iv ((ls.take i).flatten ++ ks.take k) H, ⟨ks.length, by simp, Nat.zero_le _, ?_⟩, ?_⟩
    · rw [List.take_zero, List.append_nil]
      exact iv0
    rintro k m H2 ⟨rfl, hk, jv⟩
    have jv0 := jv
    rw [hIv] at jv
    obtain ⟨e2, n2, hn2, hs2⟩ := jv
    have sq : SqL K H2 a (ks.map kV) := by
      rcases hat with (h | ⟨u, h⟩) | h
      · exact .inl (.inl (e2 _ _ h))
      · exact .inl (.inr ⟨u, e2 _ _ h⟩)
      · exact .inr h
    have lk : (ks.map kV).length = ks.length := List.length_map _
    by_cases hlk : k < ks.length
    · refine .inr ⟨walk_list.goes k H2 (by rw [lk]; exact hlk) sq, fun H' => Iv ((ls.take i).flatten ++ ks.take (k + 1)) H', fun H' q => ⟨ks.length - (k + 1), by omega, rfl, hlk, q⟩, fun x H' y => ?_⟩
      obtain ⟨e0, hx⟩ := walk_list.yields k H2 x H' (by rw [lk]; exact hlk) sq y
      subst e0
      rw [List.getElem?_map] at hx
      obtain ⟨z, hz', rfl⟩ := Option.map_eq_some_iff.mp hx
      have nk : (ls.take i).flatten ++ ks.take (k + 1) = ((ls.take i).flatten ++ ks.take k) ++ [z] := by rw [List.take_add_one, hz', ← List.append_assoc]; rfl
      rw [nk]
      refine ⟨hw1 _ _, ?_⟩
      show tt1 _ _ _
      refine ht a z _ _ ?_
      cases hp : p z with
      | false =>
        rw [if_neg Bool.false_ne_true]
        exact step jv0 hp
      | true =>
        rw [if_pos rfl]
        refine he a z _ _ ⟨z, _, n2, rfl, hs2, ?_, ?_⟩
        · refine Nat.lt_of_le_of_lt ?_ (scan_room (n := 3000) (by omega))
          rw [List.length_append, List.length_take] at hn2
          omega
        · rw [hIv]
          refine ⟨e2.mut hD, (if isin (((ls.take i).flatten ++ ks.take k).filter p) z = true then n2 else n2 + 1), ?_, ?_⟩
          · rw [List.length_append, List.length_singleton]
            split <;> omega
          · have ef : (((ls.take i).flatten ++ ks.take k) ++ [z]).filter p = ((ls.take i).flatten ++ ks.take k).filter p ++ [z] := by
              rw [List.filter_append (l₂ := [z]), List.filter_cons, if_pos hp, List.filter_nil]
            rw [upd_same, ef]
            exact congrArg some (congrArg (fun S => SetMO w D S _) (funext fun j => isin_snoc.symm))
    · have e : k = ks.length := by omega
      subst e
      refine .inl ⟨by have := walk_list.stops H2 sq; rw [lk] at this; exact this, ?_⟩
      rw [List.take_length, ← whole] at jv0
      exact jv0
  · have e : i = as.length := by omega
    subst e
    refine .inl ⟨by have := W.stops H g; rw [lal] at this; exact this, ?_⟩
    rw [lll, List.take_length] at hn1 hs1
    exact hd n1 H e1 hn1 hs1
end UL

set_option Elab.async false
set_option linter.all false
set_option maxRecDepth 100000
/-! own: o.m(e, ..) in a try, where it may let an error out -/
namespace UL
open PySem PySem.Spec PyProof.Rows L2 Evl TL
def tMethT (C : Addr) (m : Str) (sp : Sp) (E : L2.St → XK) (ta : TE) (t : TA) : TE := fun σ H Q => ta σ H fun x H1 => ∃ a dx fs, x = .ref a ∧ H1 a = some (.ins C dx fs) ∧ fs.lookup m = none ∧ t σ H1 fun vs H2 => sp (.ref a :: vs) H2 Q (E σ)
section
variable {X : Cx} {CX : CXT} {k : Nat} {f C : Addr} {fd : FuncData} {ps : List Str} {sp : Sp} {E : L2.St → XK} {m : Str} {pos apos : Pos} {e o : Expr} {es : List Expr} {ta : TE} {t : TA}
theorem pe_methT {pl : Sem Bool} (he : PE X o ta) (c : Cls X.K C) (hm : Meth X.K C m f) (F : FnOk X.prog X.w X.K X.mg X.base CX k f fd ps sp) (hr : Room k X.A) (hb : L2.Binds X.K fd ps []) (hx : ∀ σ, PassesAt CX X σ (E σ)) (ha : PA X (e :: es) t)
    (hst : starEach (e :: es) X.env = (false, eval e X.env) :: starEach es X.env := by rfl) (hpl : (backTo pos (starEach es X.env)).any (·.1) = false := by rfl)
    (ht : eval (.Call (.Attribute o m apos) (e :: es) [] pos) X.env = (do
      let ov ← eval o X.env
      standAt apos.atName
      let (f, first) ← holding [ov] (getMethod ov m pl)
      callWith pos f first (backTo pos (starEach (e :: es) X.env)) (backToKw pos (keywordEach [] X.env))) := by rfl) :
    PE X (.Call (.Attribute o m apos) (e :: es) [] pos) (tMethT C m sp E ta t) := by
  refine ⟨fun pins s σ H Q I h => ?_⟩
  refine PySem.W.methodCall_KW (pl := pl) (thn (he.run pins s σ H _ I h) fun u s1 ⟨x, H1, I1, rx, a, dx, fs, ex, ea, l, q⟩ => ?_) ht
  subst ex
  obtain rfl : u = Value.ref a := rx
  refine getmeth_ok I1 ea c hm l ?_
  refine PySem.W.callWith_K (first := [.ref a]) (h₀ := X.base) I.ok.mod.kin hm.kp (thn (ha.run pos pins s1 σ H1 _ I1 q) fun us s2 ⟨vs, H2, I2, r, q2⟩ => ⟨I2.kIn, ?_⟩) hst hpl
  exact run_fnS (us := .ref a :: us) (vs := .ref a :: vs) F hr hb (hx σ) I2 (.cons rfl r) q2
end
end UL

set_option Elab.async false
set_option linter.all false
set_option maxRecDepth 100000
namespace K18
open PySem PySem.Spec PyProof.Rows L2 Evl TL UL StX
def k_OPERATIONS : List (Str × Int) := [("part", 1), ("pick", 2), ("then", 2)]
def k_RESERVED : List V := [V.str "fun", V.str "out", V.str "use", V.str "val", V.str "ref", V.str "set", V.str "block", V.str "if", V.str "else", V.str "loop", V.str "end", V.str "part", V.str "pick", V.str "then", V.str "dead"]
/-! ### the text -/
def topS (i : Nat) : Stmt := PySem.Challenge.pw_unnamedlives_k18_way_to_result.main.body.getD i (.Pass ⟨0, 0, 0, 0⟩)
abbrev s_copied : Stmt := topS 1
abbrev n_copied : List Str := ["thing", "levels", "part", "key"]
abbrev p_copied : List Str := ["thing", "levels"]
theorem sc_copied : FnScope n_copied p_copied (defScope s_copied) := ⟨rfl, rfl, rfl, by decide +kernel, rfl, by decide +kernel, by decide +kernel⟩
abbrev s_lives_init : Stmt := inClass (topS 2) 0
abbrev n_lives_init : List Str := ["self", "what"]
abbrev p_lives_init : List Str := ["self", "what"]
theorem sc_lives_init : FnScope n_lives_init p_lives_init (defScope s_lives_init) := ⟨rfl, rfl, rfl, by decide +kernel, rfl, by decide +kernel, by decide +kernel⟩
abbrev s_is_whole : Stmt := topS 11
abbrev n_is_whole : List Str := ["thing"]
abbrev p_is_whole : List Str := ["thing"]
theorem sc_is_whole : FnScope n_is_whole p_is_whole (defScope s_is_whole) := ⟨rfl, rfl, rfl, by decide +kernel, rfl, by decide +kernel, by decide +kernel⟩
abbrev s_is_int : Stmt := topS 12
abbrev n_is_int : List Str := ["thing", "low", "high"]
abbrev p_is_int : List Str := ["thing", "low", "high"]
theorem sc_is_int : FnScope n_is_int p_is_int (defScope s_is_int) := ⟨rfl, rfl, rfl, by decide +kernel, rfl, by decide +kernel, by decide +kernel⟩
abbrev s_is_name : Stmt := topS 18
abbrev n_is_name : List Str := ["text", "sign"]
abbrev p_is_name : List Str := ["text"]
theorem sc_is_name : FnScope n_is_name p_is_name (defScope s_is_name) := ⟨rfl, rfl, rfl, by decide +kernel, rfl, by decide +kernel, by decide +kernel⟩
abbrev s_are_sources : Stmt := topS 45
abbrev n_are_sources : List Str := ["sources", "count", "least", "source"]
abbrev p_are_sources : List Str := ["sources", "count"]
theorem sc_are_sources : FnScope n_are_sources p_are_sources (defScope s_are_sources) := ⟨rfl, rfl, rfl, by decide +kernel, rfl, by decide +kernel, by decide +kernel⟩
abbrev s_is_signature : Stmt := topS 46
abbrev n_is_signature : List Str := ["name", "count", "sources"]
abbrev p_is_signature : List Str := ["name", "count", "sources"]
theorem sc_is_signature : FnScope n_is_signature p_is_signature (defScope s_is_signature) := ⟨rfl, rfl, rfl, by decide +kernel, rfl, by decide +kernel, by decide +kernel⟩
abbrev s_sig_init : Stmt := inClass (topS 47) 0
abbrev n_sig_init : List Str := ["self", "name", "count", "sources"]
abbrev p_sig_init : List Str := ["self", "name", "count", "sources"]
theorem sc_sig_init : FnScope n_sig_init p_sig_init (defScope s_sig_init) := ⟨rfl, rfl, rfl, by decide +kernel, rfl, by decide +kernel, by decide +kernel⟩
abbrev s_sig_eq : Stmt := inClass (topS 47) 4
abbrev n_sig_eq : List Str := ["self", "other"]
abbrev p_sig_eq : List Str := ["self", "other"]
theorem sc_sig_eq : FnScope n_sig_eq p_sig_eq (defScope s_sig_eq) := ⟨rfl, rfl, rfl, by decide +kernel, rfl, by decide +kernel, by decide +kernel⟩
abbrev s_book_init : Stmt := inClass (topS 48) 0
abbrev n_book_init : List Str := ["self", "signatures", "every", "by_name", "signature"]
abbrev p_book_init : List Str := ["self", "signatures"]
theorem sc_book_init : FnScope n_book_init p_book_init (defScope s_book_init) := ⟨rfl, rfl, rfl, by decide +kernel, rfl, by decide +kernel, by decide +kernel⟩
abbrev s_book_len : Stmt := inClass (topS 48) 1
abbrev n_book_len : List Str := ["self"]
abbrev p_book_len : List Str := ["self"]
theorem sc_book_len : FnScope n_book_len p_book_len (defScope s_book_len) := ⟨rfl, rfl, rfl, by decide +kernel, rfl, by decide +kernel, by decide +kernel⟩
abbrev s_book_has : Stmt := inClass (topS 48) 2
abbrev n_book_has : List Str := ["self", "name"]
abbrev p_book_has : List Str := ["self", "name"]
theorem sc_book_has : FnScope n_book_has p_book_has (defScope s_book_has) := ⟨rfl, rfl, rfl, by decide +kernel, rfl, by decide +kernel, by decide +kernel⟩
abbrev s_book_get : Stmt := inClass (topS 48) 3
abbrev n_book_get : List Str := ["self", "name"]
abbrev p_book_get : List Str := ["self", "name"]
theorem sc_book_get : FnScope n_book_get p_book_get (defScope s_book_get) := ⟨rfl, rfl, rfl, by decide +kernel, rfl, by decide +kernel, by decide +kernel⟩
abbrev s_book_iter : Stmt := inClass (topS 48) 4
abbrev n_book_iter : List Str := ["self"]
abbrev p_book_iter : List Str := ["self"]
theorem sc_book_iter : FnScope n_book_iter p_book_iter (defScope s_book_iter) := ⟨rfl, rfl, rfl, by decide +kernel, rfl, by decide +kernel, by decide +kernel⟩
abbrev s_book_or : Stmt := inClass (topS 48) 5
abbrev n_book_or : List Str := ["self", "other", "signature", "added", "given"]
abbrev p_book_or : List Str := ["self", "other"]
theorem sc_book_or : FnScope n_book_or p_book_or (defScope s_book_or) := ⟨rfl, rfl, rfl, by decide +kernel, rfl, by decide +kernel, by decide +kernel⟩
abbrev s_cut : Stmt := topS 22
abbrev n_cut : List Str := ["text", "pieces", "start", "at", "sign"]
abbrev p_cut : List Str := ["text"]
theorem sc_cut : FnScope n_cut p_cut (defScope s_cut) := ⟨rfl, rfl, rfl, by decide +kernel, rfl, by decide +kernel, by decide +kernel⟩
abbrev s_operation : Stmt := topS 23
abbrev n_operation : List Str := ["word", "operands"]
abbrev p_operation : List Str := ["word", "operands"]
theorem sc_operation : FnScope n_operation p_operation (defScope s_operation) := ⟨rfl, rfl, rfl, by decide +kernel, rfl, by decide +kernel, by decide +kernel⟩
abbrev s_closed : Stmt := topS 24
abbrev n_closed : List Str := ["waiting", "behind_operand", "word", "operands"]
abbrev p_closed : List Str := ["waiting", "behind_operand"]
theorem sc_closed : FnScope n_closed p_closed (defScope s_closed) := ⟨rfl, rfl, rfl, by decide +kernel, rfl, by decide +kernel, by decide +kernel⟩
abbrev s_add_node : Stmt := topS 25
abbrev n_add_node : List Str := ["nodes", "waiting", "node"]
abbrev p_add_node : List Str := ["nodes", "waiting", "node"]
theorem sc_add_node : FnScope n_add_node p_add_node (defScope s_add_node) := ⟨rfl, rfl, rfl, by decide +kernel, rfl, by decide +kernel, by decide +kernel⟩
abbrev s_nodes_of : Stmt := topS 26
abbrev n_nodes_of : List Str := ["text", "nodes", "waiting", "behind_operand", "piece", "node"]
abbrev p_nodes_of : List Str := ["text"]
theorem sc_nodes_of : FnScope n_nodes_of p_nodes_of (defScope s_nodes_of) := ⟨rfl, rfl, rfl, by decide +kernel, rfl, by decide +kernel, by decide +kernel⟩
abbrev s_operands_of : Stmt := topS 27
abbrev n_operands_of : List Str := ["node"]
abbrev p_operands_of : List Str := ["node"]
theorem sc_operands_of : FnScope n_operands_of p_operands_of (defScope s_operands_of) := ⟨rfl, rfl, rfl, by decide +kernel, rfl, by decide +kernel, by decide +kernel⟩
abbrev s_firsts_of : Stmt := topS 28
abbrev n_firsts_of : List Str := ["nodes", "firsts", "at", "node", "operands"]
abbrev p_firsts_of : List Str := ["nodes"]
theorem sc_firsts_of : FnScope n_firsts_of p_firsts_of (defScope s_firsts_of) := ⟨rfl, rfl, rfl, by decide +kernel, rfl, by decide +kernel, by decide +kernel⟩
abbrev s_ex_init : Stmt := inClass (topS 30) 1
abbrev n_ex_init : List Str := ["self", "nodes"]
abbrev p_ex_init : List Str := ["self", "nodes"]
theorem sc_ex_init : FnScope n_ex_init p_ex_init (defScope s_ex_init) := ⟨rfl, rfl, rfl, by decide +kernel, rfl, by decide +kernel, by decide +kernel⟩
abbrev s_ex_read : Stmt := inClass (topS 30) 2
abbrev n_ex_read : List Str := ["cls", "text", "nodes"]
abbrev p_ex_read : List Str := ["cls", "text"]
theorem sc_ex_read : FnScope n_ex_read p_ex_read (defScope s_ex_read) := ⟨rfl, rfl, rfl, by decide +kernel, rfl, by decide +kernel, by decide +kernel⟩
abbrev s_ex_nodes : Stmt := inClass (topS 30) 3
abbrev n_ex_nodes : List Str := ["self"]
abbrev p_ex_nodes : List Str := ["self"]
theorem sc_ex_nodes : FnScope n_ex_nodes p_ex_nodes (defScope s_ex_nodes) := ⟨rfl, rfl, rfl, by decide +kernel, rfl, by decide +kernel, by decide +kernel⟩
abbrev s_ex_len : Stmt := inClass (topS 30) 4
abbrev n_ex_len : List Str := ["self"]
abbrev p_ex_len : List Str := ["self"]
theorem sc_ex_len : FnScope n_ex_len p_ex_len (defScope s_ex_len) := ⟨rfl, rfl, rfl, by decide +kernel, rfl, by decide +kernel, by decide +kernel⟩
abbrev s_draws : Stmt := topS 50
abbrev n_draws : List Str := ["_law_script", "_law_draws_here", "_law_place", "_law_cell", "_law_rest", "_law_turn", "_law_mixed"]
abbrev p_draws : List Str := ["_law_script"]
theorem sc_draws : FnScope n_draws p_draws (defScope s_draws) := ⟨rfl, rfl, rfl, by decide +kernel, rfl, by decide +kernel, by decide +kernel⟩
abbrev s_take : Stmt := topS 51
abbrev n_take : List Str := ["_law_draws_here", "_law_many"]
abbrev p_take : List Str := ["_law_draws_here", "_law_many"]
theorem sc_take : FnScope n_take p_take (defScope s_take) := ⟨rfl, rfl, rfl, by decide +kernel, rfl, by decide +kernel, by decide +kernel⟩
abbrev s_name : Stmt := topS 52
abbrev n_name : List Str := ["_law_draws_here", "_law_k", "_law_letters", "_law_plain", "_law_shape", "_law_word"]
abbrev p_name : List Str := ["_law_draws_here", "_law_k"]
theorem sc_name : FnScope n_name p_name (defScope s_name) := ⟨rfl, rfl, rfl, by decide +kernel, rfl, by decide +kernel, by decide +kernel⟩
abbrev s_functions : Stmt := topS 53
abbrev n_functions : List Str := ["_law_draws_here", "_law_functions_here", "_law_k", "_law_word", "_law_count", "_law_mask", "_law_numbers", "_law_j"]
abbrev p_functions : List Str := ["_law_draws_here"]
theorem sc_functions : FnScope n_functions p_functions (defScope s_functions) := ⟨rfl, rfl, rfl, by decide +kernel, rfl, by decide +kernel, by decide +kernel⟩
abbrev s_add : Stmt := topS 54
abbrev n_add : List Str := ["_law_heap", "_law_kind", "_law_word", "_law_need", "_law_nodes", "_law_roots", "_law_texts", "_law_at", "_law_args", "_law_text", "_law_node", "_law_turn"]
abbrev p_add : List Str := ["_law_heap", "_law_kind", "_law_word", "_law_need"]
theorem sc_add : FnScope n_add p_add (defScope s_add) := ⟨rfl, rfl, rfl, by decide +kernel, rfl, by decide +kernel, by decide +kernel⟩
abbrev s_expression : Stmt := topS 55
abbrev n_expression : List Str := ["_law_draws_here", "_law_names", "_law_functions_here", "_law_most", "_law_heap", "_law_turn", "_law_form", "_law_kind", "_law_word", "_law_need", "_law_called"]
abbrev p_expression : List Str := ["_law_draws_here", "_law_names", "_law_functions_here", "_law_most"]
theorem sc_expression : FnScope n_expression p_expression (defScope s_expression) := ⟨rfl, rfl, rfl, by decide +kernel, rfl, by decide +kernel, by decide +kernel⟩
abbrev s_book_rows : Stmt := topS 58
abbrev n_book_rows : List Str := ["_law_functions_here", "_law_book_here", "_law_one"]
abbrev p_book_rows : List Str := ["_law_functions_here"]
theorem sc_book_rows : FnScope n_book_rows p_book_rows (defScope s_book_rows) := ⟨rfl, rfl, rfl, by decide +kernel, rfl, by decide +kernel, by decide +kernel⟩
abbrev s_givers_of : Stmt := topS 32
abbrev n_givers_of : List Str := ["node", "sources", "source"]
abbrev p_givers_of : List Str := ["node", "sources"]
theorem sc_givers_of : FnScope n_givers_of p_givers_of (defScope s_givers_of) := ⟨rfl, rfl, rfl, by decide +kernel, rfl, by decide +kernel, by decide +kernel⟩
abbrev s_givers : Stmt := topS 33
abbrev n_givers : List Str := ["expression", "book", "nodes", "sources", "node", "own"]
abbrev p_givers : List Str := ["expression", "book"]
theorem sc_givers : FnScope n_givers p_givers (defScope s_givers) := ⟨rfl, rfl, rfl, by decide +kernel, rfl, by decide +kernel, by decide +kernel⟩
abbrev s_options : Stmt := topS 34
abbrev n_options : List Str := ["expression", "book", "operands"]
abbrev p_options : List Str := ["expression", "book"]
theorem sc_options : FnScope n_options p_options (defScope s_options) := ⟨rfl, rfl, rfl, by decide +kernel, rfl, by decide +kernel, by decide +kernel⟩
abbrev s_united : Stmt := topS 36
abbrev n_united : List Str := ["lists", "names", "numbers", "things", "thing"]
abbrev p_united : List Str := ["lists"]
theorem sc_united : FnScope n_united p_united (defScope s_united) := ⟨rfl, rfl, rfl, by decide +kernel, rfl, by decide +kernel, by decide +kernel⟩
abbrev s_results : Stmt := topS 37
abbrev n_results : List Str := ["expression", "book", "found", "operands", "at", "node", "i"]
abbrev p_results : List Str := ["expression", "book"]
theorem sc_results : FnScope n_results p_results (defScope s_results) := ⟨rfl, rfl, rfl, by decide +kernel, rfl, by decide +kernel, by decide +kernel⟩
abbrev s_numbers_for : Stmt := topS 38
abbrev n_numbers_for : List Str := ["expression", "book", "at", "wanted", "found", "operands", "numbers", "number"]
abbrev p_numbers_for : List Str := ["expression", "book", "at", "wanted"]
theorem sc_numbers_for : FnScope n_numbers_for p_numbers_for (defScope s_numbers_for) := ⟨rfl, rfl, rfl, by decide +kernel, rfl, by decide +kernel, by decide +kernel⟩
abbrev s_completed : Stmt := topS 39
abbrev n_completed : List Str := ["expression", "book", "numbers", "at", "allowed"]
abbrev p_completed : List Str := ["expression", "book", "numbers"]
theorem sc_completed : FnScope n_completed p_completed (defScope s_completed) := ⟨rfl, rfl, rfl, by decide +kernel, rfl, by decide +kernel, by decide +kernel⟩
abbrev s_choice_for_result : Stmt := topS 40
abbrev n_choice_for_result : List Str := ["expression", "book", "wanted", "root", "possible"]
abbrev p_choice_for_result : List Str := ["expression", "book", "wanted"]
theorem sc_choice_for_result : FnScope n_choice_for_result p_choice_for_result (defScope s_choice_for_result) := ⟨rfl, rfl, rfl, by decide +kernel, rfl, by decide +kernel, by decide +kernel⟩
abbrev s_sources : Stmt := topS 56
abbrev n_sources : List Str := ["_law_functions_here", "_law_word", "_law_one"]
abbrev p_sources : List Str := ["_law_functions_here", "_law_word"]
theorem sc_sources : FnScope n_sources p_sources (defScope s_sources) := ⟨rfl, rfl, rfl, by decide +kernel, rfl, by decide +kernel, by decide +kernel⟩
abbrev s_others : Stmt := topS 59
abbrev n_others : List Str := ["_law_functions_here", "_law_gone", "_law_others", "_law_k", "_law_one", "_law_j"]
abbrev p_others : List Str := ["_law_functions_here", "_law_gone"]
theorem sc_others : FnScope n_others p_others (defScope s_others) := ⟨rfl, rfl, rfl, by decide +kernel, rfl, by decide +kernel, by decide +kernel⟩
abbrev s_lresults : Stmt := topS 57
abbrev n_lresults : List Str := ["_law_nodes", "_law_functions_here", "_law_found", "_law_at", "_law_node", "_law_parts", "_law_taken", "_law_part", "_law_one", "_law_j"]
abbrev p_lresults : List Str := ["_law_nodes", "_law_functions_here"]
theorem sc_lresults : FnScope n_lresults p_lresults (defScope s_lresults) := ⟨rfl, rfl, rfl, by decide +kernel, rfl, by decide +kernel, by decide +kernel⟩
abbrev s_integer : Stmt := topS 60
abbrev n_integer : List Str := ["_law_thing"]
abbrev p_integer : List Str := ["_law_thing"]
theorem sc_integer : FnScope n_integer p_integer (defScope s_integer) := ⟨rfl, rfl, rfl, by decide +kernel, rfl, by decide +kernel, by decide +kernel⟩
abbrev s_lchoice : Stmt := topS 61
abbrev n_lchoice : List Str := ["_law_nodes", "_law_functions_here", "_law_choice", "_law_at", "_law_node", "_law_some"]
abbrev p_lchoice : List Str := ["_law_nodes", "_law_functions_here", "_law_choice"]
theorem sc_lchoice : FnScope n_lchoice p_lchoice (defScope s_lchoice) := ⟨rfl, rfl, rfl, by decide +kernel, rfl, by decide +kernel, by decide +kernel⟩
abbrev s_origin : Stmt := topS 62
abbrev n_origin : List Str := ["_law_nodes", "_law_functions_here", "_law_choice", "_law_at", "_law_step", "_law_node"]
abbrev p_origin : List Str := ["_law_nodes", "_law_functions_here", "_law_choice"]
theorem sc_origin : FnScope n_origin p_origin (defScope s_origin) := ⟨rfl, rfl, rfl, by decide +kernel, rfl, by decide +kernel, by decide +kernel⟩
abbrev s_told : Stmt := topS 63
abbrev n_told : List Str := ["_law_expression_here", "_law_book_here", "_law_wanted", "_law_choice", "_law_told_here", "e"]
abbrev p_told : List Str := ["_law_expression_here", "_law_book_here", "_law_wanted"]
theorem sc_told : FnScope n_told p_told (defScope s_told) := ⟨rfl, rfl, rfl, by decide +kernel, rfl, by decide +kernel, by decide +kernel⟩
abbrev s_same : Stmt := topS 64
abbrev n_same : List Str := ["_law_one", "_law_due"]
abbrev p_same : List Str := ["_law_one", "_law_due"]
theorem sc_same : FnScope n_same p_same (defScope s_same) := ⟨rfl, rfl, rfl, by decide +kernel, rfl, by decide +kernel, by decide +kernel⟩
abbrev s_lholds : Stmt := topS 65
abbrev n_lholds : List Str := ["_law_expression_here", "_law_book_here", "_law_nodes", "_law_functions_here", "_law_root", "_law_wanted", "_law_told_here"]
abbrev p_lholds : List Str := ["_law_expression_here", "_law_book_here", "_law_nodes", "_law_functions_here", "_law_root", "_law_wanted"]
theorem sc_lholds : FnScope n_lholds p_lholds (defScope s_lholds) := ⟨rfl, rfl, rfl, by decide +kernel, rfl, by decide +kernel, by decide +kernel⟩
abbrev s_law : Stmt := topS 66
abbrev n_law : List Str := ["_law_script", "_law_draws_here", "_law_names", "_law_functions_here", "_law_drawn", "_law_nodes", "_law_root", "_law_expression_here", "_law_book_here", "_law_every", "_law_wanted", "_law_gone", "_law_others", "_law_second", "_law_fewer", "_law_words", "_law_lacking", "_law_k", "_law_one", "_law_node", "_law_at"]
abbrev p_law : List Str := ["_law_script"]
theorem sc_law : FnScope n_law p_law (defScope s_law) := ⟨rfl, rfl, rfl, by decide +kernel, rfl, by decide +kernel, by decide +kernel⟩
structure Adr where
  copied : Addr
  d_copied : FuncData
  lives_init : Addr
  d_lives_init : FuncData
  is_whole : Addr
  d_is_whole : FuncData
  is_int : Addr
  d_is_int : FuncData
  is_name : Addr
  d_is_name : FuncData
  are_sources : Addr
  d_are_sources : FuncData
  is_signature : Addr
  d_is_signature : FuncData
  sig_init : Addr
  d_sig_init : FuncData
  sig_eq : Addr
  d_sig_eq : FuncData
  book_init : Addr
  d_book_init : FuncData
  book_len : Addr
  d_book_len : FuncData
  book_has : Addr
  d_book_has : FuncData
  book_get : Addr
  d_book_get : FuncData
  book_iter : Addr
  d_book_iter : FuncData
  book_or : Addr
  d_book_or : FuncData
  cut : Addr
  d_cut : FuncData
  operation : Addr
  d_operation : FuncData
  closed : Addr
  d_closed : FuncData
  add_node : Addr
  d_add_node : FuncData
  nodes_of : Addr
  d_nodes_of : FuncData
  operands_of : Addr
  d_operands_of : FuncData
  firsts_of : Addr
  d_firsts_of : FuncData
  ex_init : Addr
  d_ex_init : FuncData
  ex_read : Addr
  d_ex_read : FuncData
  ex_nodes : Addr
  d_ex_nodes : FuncData
  ex_len : Addr
  d_ex_len : FuncData
  draws : Addr
  d_draws : FuncData
  take : Addr
  d_take : FuncData
  name : Addr
  d_name : FuncData
  functions : Addr
  d_functions : FuncData
  add : Addr
  d_add : FuncData
  expression : Addr
  d_expression : FuncData
  book_rows : Addr
  d_book_rows : FuncData
  givers_of : Addr
  d_givers_of : FuncData
  givers : Addr
  d_givers : FuncData
  options : Addr
  d_options : FuncData
  united : Addr
  d_united : FuncData
  results : Addr
  d_results : FuncData
  numbers_for : Addr
  d_numbers_for : FuncData
  completed : Addr
  d_completed : FuncData
  choice_for_result : Addr
  d_choice_for_result : FuncData
  sources : Addr
  d_sources : FuncData
  others : Addr
  d_others : FuncData
  lresults : Addr
  d_lresults : FuncData
  integer : Addr
  d_integer : FuncData
  lchoice : Addr
  d_lchoice : FuncData
  origin : Addr
  d_origin : FuncData
  told : Addr
  d_told : FuncData
  same : Addr
  d_same : FuncData
  lholds : Addr
  d_lholds : FuncData
  law : Addr
  d_law : FuncData
  k_sig_init_sources : Addr
  o_ex_read : Addr
  o_ex_nodes : Addr
  LivesError : Addr
  InvalidSignature : Addr
  UnknownFunction : Addr
  TooLarge : Addr
  DuplicateFunction : Addr
  Signature : Addr
  Book : Addr
  Expression : Addr
  NoWay : Addr
  t_DIGITS : Nat
  t_LETTERS : Nat
  t_MOST_ARGUMENTS : Nat
  t_MOST_CHARACTERS : Nat
  t_MOST_GIVEN : Nat
  t_MOST_PARAMETERS : Nat
  OPERATIONS : Addr
  RESERVED : Addr
structure Tx0 (w : World) (K : PySem.W.Frag) (mg : Str → Option Value) (A : Adr) : Prop where
  F_copied : FunD K "copied" "copied" (defArgs s_copied) (defBody s_copied) (defScope s_copied) [.int 4] [] A.copied A.d_copied
  g_copied : mg "copied" = some (.ref A.copied)
  F_lives_init : Fun K "__init__" "LivesError.__init__" s_lives_init A.lives_init A.d_lives_init
  b_lives_init : L2.Binds K A.d_lives_init p_lives_init []
  ti_lives_init : PySem.W.typeIn K (.ref A.lives_init) = some (.type "function")
  F_is_whole : Fun K "is_whole" "is_whole" s_is_whole A.is_whole A.d_is_whole
  b_is_whole : L2.Binds K A.d_is_whole p_is_whole []
  g_is_whole : mg "is_whole" = some (.ref A.is_whole)
  F_is_int : Fun K "is_integer_in" "is_integer_in" s_is_int A.is_int A.d_is_int
  b_is_int : L2.Binds K A.d_is_int p_is_int []
  g_is_int : mg "is_integer_in" = some (.ref A.is_int)
  F_is_name : Fun K "is_name" "is_name" s_is_name A.is_name A.d_is_name
  b_is_name : L2.Binds K A.d_is_name p_is_name []
  g_is_name : mg "is_name" = some (.ref A.is_name)
  F_are_sources : Fun K "are_sources" "are_sources" s_are_sources A.are_sources A.d_are_sources
  b_are_sources : L2.Binds K A.d_are_sources p_are_sources []
  g_are_sources : mg "are_sources" = some (.ref A.are_sources)
  F_is_signature : Fun K "is_signature" "is_signature" s_is_signature A.is_signature A.d_is_signature
  b_is_signature : L2.Binds K A.d_is_signature p_is_signature []
  g_is_signature : mg "is_signature" = some (.ref A.is_signature)
  F_sig_init : FunD K "__init__" "Signature.__init__" (defArgs s_sig_init) (defBody s_sig_init) (defScope s_sig_init) [] [("sources", .ref A.k_sig_init_sources)] A.sig_init A.d_sig_init
  q_sig_init_sources : ∀ H : Hp, SqT K H A.k_sig_init_sources []
  o_sig_init_sources : ∃ o, K.lookup A.k_sig_init_sources = some o ∧ o.cls = .type "tuple"
  e_sig_init : Meth K A.Signature "__init__" A.sig_init
  F_sig_eq : Fun K "__eq__" "Signature.__eq__" s_sig_eq A.sig_eq A.d_sig_eq
  b_sig_eq : L2.Binds K A.d_sig_eq p_sig_eq []
  e_sig_eq : Meth K A.Signature "__eq__" A.sig_eq
  F_book_init : Fun K "__init__" "Book.__init__" s_book_init A.book_init A.d_book_init
  e_book_init : Meth K A.Book "__init__" A.book_init
  F_book_len : Fun K "__len__" "Book.__len__" s_book_len A.book_len A.d_book_len
  b_book_len : L2.Binds K A.d_book_len p_book_len []
  e_book_len : Meth K A.Book "__len__" A.book_len
  F_book_has : Fun K "__contains__" "Book.__contains__" s_book_has A.book_has A.d_book_has
  b_book_has : L2.Binds K A.d_book_has p_book_has []
  e_book_has : Meth K A.Book "__contains__" A.book_has
  F_book_get : Fun K "__getitem__" "Book.__getitem__" s_book_get A.book_get A.d_book_get
  b_book_get : L2.Binds K A.d_book_get p_book_get []
  e_book_get : Meth K A.Book "__getitem__" A.book_get
  F_book_iter : Fun K "__iter__" "Book.__iter__" s_book_iter A.book_iter A.d_book_iter
  b_book_iter : L2.Binds K A.d_book_iter p_book_iter []
  e_book_iter : Meth K A.Book "__iter__" A.book_iter
  F_book_or : Fun K "__or__" "Book.__or__" s_book_or A.book_or A.d_book_or
  b_book_or : L2.Binds K A.d_book_or p_book_or []
  e_book_or : Meth K A.Book "__or__" A.book_or
  F_cut : Fun K "cut" "cut" s_cut A.cut A.d_cut
  b_cut : L2.Binds K A.d_cut p_cut []
  g_cut : mg "cut" = some (.ref A.cut)
  F_operation : Fun K "operation" "operation" s_operation A.operation A.d_operation
  b_operation : L2.Binds K A.d_operation p_operation []
  g_operation : mg "operation" = some (.ref A.operation)
  F_closed : Fun K "closed" "closed" s_closed A.closed A.d_closed
  b_closed : L2.Binds K A.d_closed p_closed []
  g_closed : mg "closed" = some (.ref A.closed)
  F_add_node : Fun K "add_node" "add_node" s_add_node A.add_node A.d_add_node
  b_add_node : L2.Binds K A.d_add_node p_add_node []
  g_add_node : mg "add_node" = some (.ref A.add_node)
  F_nodes_of : Fun K "nodes_of" "nodes_of" s_nodes_of A.nodes_of A.d_nodes_of
  b_nodes_of : L2.Binds K A.d_nodes_of p_nodes_of []
  g_nodes_of : mg "nodes_of" = some (.ref A.nodes_of)
  F_operands_of : Fun K "operands_of" "operands_of" s_operands_of A.operands_of A.d_operands_of
  b_operands_of : L2.Binds K A.d_operands_of p_operands_of []
  g_operands_of : mg "operands_of" = some (.ref A.operands_of)
  F_firsts_of : Fun K "firsts_of" "firsts_of" s_firsts_of A.firsts_of A.d_firsts_of
  b_firsts_of : L2.Binds K A.d_firsts_of p_firsts_of []
  g_firsts_of : mg "firsts_of" = some (.ref A.firsts_of)
  F_ex_init : Fun K "__init__" "Expression.__init__" s_ex_init A.ex_init A.d_ex_init
  b_ex_init : L2.Binds K A.d_ex_init p_ex_init []
  e_ex_init : Meth K A.Expression "__init__" A.ex_init
  F_ex_read : Fun K "read" "Expression.read" s_ex_read A.ex_read A.d_ex_read
  b_ex_read : L2.Binds K A.d_ex_read p_ex_read []
  cm_ex_read : ClX.CMet K A.Expression (.type "type") "read" A.o_ex_read A.ex_read
  F_ex_nodes : Fun K "nodes" "Expression.nodes" s_ex_nodes A.ex_nodes A.d_ex_nodes
  b_ex_nodes : L2.Binds K A.d_ex_nodes p_ex_nodes []
  r_ex_nodes : PropOf K A.Expression "nodes" A.o_ex_nodes A.ex_nodes
  F_ex_len : Fun K "__len__" "Expression.__len__" s_ex_len A.ex_len A.d_ex_len
  b_ex_len : L2.Binds K A.d_ex_len p_ex_len []
  e_ex_len : Meth K A.Expression "__len__" A.ex_len
  F_draws : Fun K "_law_draws" "_law_draws" s_draws A.draws A.d_draws
  b_draws : L2.Binds K A.d_draws p_draws []
  g_draws : mg "_law_draws" = some (.ref A.draws)
  F_take : Fun K "_law_take" "_law_take" s_take A.take A.d_take
  b_take : L2.Binds K A.d_take p_take []
  g_take : mg "_law_take" = some (.ref A.take)
  F_name : Fun K "_law_name" "_law_name" s_name A.name A.d_name
  b_name : L2.Binds K A.d_name p_name []
  g_name : mg "_law_name" = some (.ref A.name)
  F_functions : Fun K "_law_functions" "_law_functions" s_functions A.functions A.d_functions
  b_functions : L2.Binds K A.d_functions p_functions []
  g_functions : mg "_law_functions" = some (.ref A.functions)
  F_add : Fun K "_law_add" "_law_add" s_add A.add A.d_add
  b_add : L2.Binds K A.d_add p_add []
  g_add : mg "_law_add" = some (.ref A.add)
  F_expression : Fun K "_law_expression" "_law_expression" s_expression A.expression A.d_expression
  b_expression : L2.Binds K A.d_expression p_expression []
  g_expression : mg "_law_expression" = some (.ref A.expression)
  F_book_rows : Fun K "_law_book" "_law_book" s_book_rows A.book_rows A.d_book_rows
  b_book_rows : L2.Binds K A.d_book_rows p_book_rows []
  g_book_rows : mg "_law_book" = some (.ref A.book_rows)
  F_givers_of : Fun K "givers_of" "givers_of" s_givers_of A.givers_of A.d_givers_of
  b_givers_of : L2.Binds K A.d_givers_of p_givers_of []
  g_givers_of : mg "givers_of" = some (.ref A.givers_of)
  F_givers : Fun K "givers" "givers" s_givers A.givers A.d_givers
  b_givers : L2.Binds K A.d_givers p_givers []
  g_givers : mg "givers" = some (.ref A.givers)
  F_options : Fun K "options" "options" s_options A.options A.d_options
  b_options : L2.Binds K A.d_options p_options []
  g_options : mg "options" = some (.ref A.options)
  F_united : Fun K "united" "united" s_united A.united A.d_united
  b_united : L2.Binds K A.d_united p_united []
  g_united : mg "united" = some (.ref A.united)
  F_results : Fun K "results" "results" s_results A.results A.d_results
  b_results : L2.Binds K A.d_results p_results []
  g_results : mg "results" = some (.ref A.results)
  F_numbers_for : Fun K "numbers_for" "numbers_for" s_numbers_for A.numbers_for A.d_numbers_for
  b_numbers_for : L2.Binds K A.d_numbers_for p_numbers_for []
  g_numbers_for : mg "numbers_for" = some (.ref A.numbers_for)
  F_completed : Fun K "completed" "completed" s_completed A.completed A.d_completed
  b_completed : L2.Binds K A.d_completed p_completed []
  g_completed : mg "completed" = some (.ref A.completed)
  F_choice_for_result : Fun K "choice_for_result" "choice_for_result" s_choice_for_result A.choice_for_result A.d_choice_for_result
  b_choice_for_result : L2.Binds K A.d_choice_for_result p_choice_for_result []
  g_choice_for_result : mg "choice_for_result" = some (.ref A.choice_for_result)
  F_sources : Fun K "_law_sources" "_law_sources" s_sources A.sources A.d_sources
  b_sources : L2.Binds K A.d_sources p_sources []
  g_sources : mg "_law_sources" = some (.ref A.sources)
  F_others : Fun K "_law_other_sources" "_law_other_sources" s_others A.others A.d_others
  b_others : L2.Binds K A.d_others p_others []
  g_others : mg "_law_other_sources" = some (.ref A.others)
  F_lresults : Fun K "_law_results" "_law_results" s_lresults A.lresults A.d_lresults
  b_lresults : L2.Binds K A.d_lresults p_lresults []
  g_lresults : mg "_law_results" = some (.ref A.lresults)
  F_integer : Fun K "_law_integer" "_law_integer" s_integer A.integer A.d_integer
  b_integer : L2.Binds K A.d_integer p_integer []
  g_integer : mg "_law_integer" = some (.ref A.integer)
  F_lchoice : Fun K "_law_is_choice" "_law_is_choice" s_lchoice A.lchoice A.d_lchoice
  b_lchoice : L2.Binds K A.d_lchoice p_lchoice []
  g_lchoice : mg "_law_is_choice" = some (.ref A.lchoice)
  F_origin : Fun K "_law_origin" "_law_origin" s_origin A.origin A.d_origin
  b_origin : L2.Binds K A.d_origin p_origin []
  g_origin : mg "_law_origin" = some (.ref A.origin)
  F_told : Fun K "_law_told" "_law_told" s_told A.told A.d_told
  b_told : L2.Binds K A.d_told p_told []
  g_told : mg "_law_told" = some (.ref A.told)
  F_same : Fun K "_law_same" "_law_same" s_same A.same A.d_same
  b_same : L2.Binds K A.d_same p_same []
  g_same : mg "_law_same" = some (.ref A.same)
  F_lholds : Fun K "_law_holds" "_law_holds" s_lholds A.lholds A.d_lholds
  b_lholds : L2.Binds K A.d_lholds p_lholds []
  g_lholds : mg "_law_holds" = some (.ref A.lholds)
  F_law : Fun K "law" "law" s_law A.law A.d_law
  b_law : L2.Binds K A.d_law p_law []
  g_law : mg "law" = some (.ref A.law)
  m_ValueError : mg "ValueError" = none
  m_abs : mg "abs" = none
  m_all : mg "all" = none
  m_bool : mg "bool" = none
  m_dict : mg "dict" = none
  m_enumerate : mg "enumerate" = none
  m_int : mg "int" = none
  m_isinstance : mg "isinstance" = none
  m_iter : mg "iter" = none
  m_len : mg "len" = none
  m_list : mg "list" = none
  m_max : mg "max" = none
  m_min : mg "min" = none
  m_range : mg "range" = none
  m_reversed : mg "reversed" = none
  m_sorted : mg "sorted" = none
  m_str : mg "str" = none
  m_tuple : mg "tuple" = none
  m_zip : mg "zip" = none
  g_LivesError : mg "LivesError" = some (.ref A.LivesError)
  ex_LivesError : UL.ExF K A.LivesError A.lives_init
  g_InvalidSignature : mg "InvalidSignature" = some (.ref A.InvalidSignature)
  ex_InvalidSignature : UL.ExF K A.InvalidSignature A.lives_init
  g_UnknownFunction : mg "UnknownFunction" = some (.ref A.UnknownFunction)
  ex_UnknownFunction : UL.ExF K A.UnknownFunction A.lives_init
  g_TooLarge : mg "TooLarge" = some (.ref A.TooLarge)
  ex_TooLarge : UL.ExF K A.TooLarge A.lives_init
  g_DuplicateFunction : mg "DuplicateFunction" = some (.ref A.DuplicateFunction)
  ex_DuplicateFunction : UL.ExF K A.DuplicateFunction A.lives_init
  g_Signature : mg "Signature" = some (.ref A.Signature)
  cl_Signature : Cls K A.Signature
  ty_Signature : UL.TyF K A.Signature
  mk_Signature : Mk K A.Signature A.sig_init
  na_Signature_name : NoAttr K A.Signature "name"
  na_Signature_count : NoAttr K A.Signature "count"
  na_Signature_sources : NoAttr K A.Signature "sources"
  g_Book : mg "Book" = some (.ref A.Book)
  cl_Book : Cls K A.Book
  ty_Book : UL.TyF K A.Book
  mk_Book : Mk K A.Book A.book_init
  na_Book__given : NoAttr K A.Book "_given"
  na_Book__every : NoAttr K A.Book "_every"
  na_Book__by_name : NoAttr K A.Book "_by_name"
  g_Expression : mg "Expression" = some (.ref A.Expression)
  cl_Expression : Cls K A.Expression
  ty_Expression : UL.TyF K A.Expression
  mk_Expression : Mk K A.Expression A.ex_init
  cr_Expression : ClX.CRead K A.Expression (.type "type")
  cv_Expression_MOST_NODES : ∃ u, ClX.CVal K A.Expression (.type "type") "MOST_NODES" (.int 20) u
  na_Expression__nodes : NoAttr K A.Expression "_nodes"
  na_Expression__firsts : NoAttr K A.Expression "_firsts"
  g_NoWay : mg "NoWay" = some (.ref A.NoWay)
  ex_NoWay : UL.ExF K A.NoWay A.lives_init
  xi_NoWay : UL.ExI K A.NoWay
  ks_str : PySem.W.kitOne K (.type "str") (.ref A.Signature) = some false
  ks_tup : PySem.W.kitOne K (.type "tuple") (.ref A.Signature) = some false
  ks_own : PySem.W.kitOne K (.ref A.Signature) (.ref A.Signature) = some true
  kb_own : PySem.W.kitOne K (.ref A.Book) (.ref A.Book) = some true
  te_tt : PySem.W.exmOne K (.ref A.TooLarge) (.ref A.TooLarge) = some true
  te_dd : PySem.W.exmOne K (.ref A.DuplicateFunction) (.ref A.DuplicateFunction) = some true
  te_td : PySem.W.exmOne K (.ref A.TooLarge) (.ref A.DuplicateFunction) = some false
  te_uu : PySem.W.exmOne K (.ref A.UnknownFunction) (.ref A.UnknownFunction) = some true
  te_nn : PySem.W.exmOne K (.ref A.NoWay) (.ref A.NoWay) = some true
  te_un : PySem.W.exmOne K (.ref A.UnknownFunction) (.ref A.NoWay) = some false
  si_dd : PySem.W.subIn K (.ref A.DuplicateFunction) (.ref A.DuplicateFunction) = some true
  tyS : PySem.W.typeIn K (.ref A.Signature) = some (.type "type")
  sb_str : PySem.W.subIn K (.type "str") (.ref A.Signature) = some false
  sb_tup : PySem.W.subIn K (.type "tuple") (.ref A.Signature) = some false
  fi_book_get : PySem.W.fnIn K A.book_get = true
  si_tt : PySem.W.subIn K (.ref A.TooLarge) (.ref A.TooLarge) = some true
  si_td : PySem.W.subIn K (.ref A.TooLarge) (.ref A.DuplicateFunction) = some false
  sf_Book : PySem.W.selfFirst K A.Book = true
  ne_Sig : PySem.W.findIn K (.ref A.Signature) "__ne__" = some (some (.builtin "object.__ne__"))
  ob_Sig : PySem.W.subIn K (.ref A.Signature) (.type "object") = some true
  si_uu : PySem.W.subIn K (.ref A.UnknownFunction) (.ref A.UnknownFunction) = some true
  si_nn : PySem.W.subIn K (.ref A.NoWay) (.ref A.NoWay) = some true
  si_un : PySem.W.subIn K (.ref A.UnknownFunction) (.ref A.NoWay) = some false
  c_DIGITS : mg "DIGITS" = some (.str "0123456789" A.t_DIGITS)
  c_LETTERS : mg "LETTERS" = some (.str "abcdefghijklmnopqrstuvwxyz" A.t_LETTERS)
  c_MOST_ARGUMENTS : mg "MOST_ARGUMENTS" = some (.int 4 A.t_MOST_ARGUMENTS)
  c_MOST_CHARACTERS : mg "MOST_CHARACTERS" = some (.int 8 A.t_MOST_CHARACTERS)
  c_MOST_GIVEN : mg "MOST_GIVEN" = some (.int 12 A.t_MOST_GIVEN)
  c_MOST_PARAMETERS : mg "MOST_PARAMETERS" = some (.int 4 A.t_MOST_PARAMETERS)
  c_OPERATIONS : mg "OPERATIONS" = some (.ref A.OPERATIONS)
  w_OPERATIONS : UL.WD K w A.OPERATIONS k_OPERATIONS
  c_RESERVED : mg "RESERVED" = some (.ref A.RESERVED)
  q_RESERVED : ∀ H : Hp, SqT K H A.RESERVED k_RESERVED
  o_RESERVED : ∃ o, K.lookup A.RESERVED = some o ∧ o.cls = .type "tuple"
section
variable {P : Program} {w : World} {K : PySem.W.Frag} {mg : Str → Option Value} {base : Heap} {A : Adr}
def spTake : Sp := fun vs H Q _ => ∃ d m, vs = [.ref d, .int m] ∧ H d = some (DrO d) ∧ 0 < m ∧ ∀ n : Int, 0 ≤ n → n < m → Q (.int n) H
theorem ok_take (T : Tx0 w K mg A) : FnOk P w K mg base CX0 1 A.take A.d_take p_take spTake := by
  refine T.F_take.ok sc_take (fun vs H Q E h => ?_) (fun cdv Ar outer s H vs Q E hr h => ?_)
  · obtain ⟨d, m, rfl, _⟩ := h
    rfl
  · obtain ⟨d, m, rfl, hd, hm, k⟩ := h
    refine ⟨_, (UL.pss_open 0 (pss_cons (ps_if (pt_cmpR op_eq (pe_callB call_len_seq (by rfl) T.m_len PySem.boot_len (pa_cons (pv 0) pa_nil)) pe_int (nomark _)) (pss_one (ps_ret (UL.pe_close pe_int))) pss_nil)
      (pss_one (ps_ret (UL.pe_close (pe_op op_mod (pe_callTy call_int1 (by rfl) T.m_int (by decide +kernel) (pa_cons (pe_bm PySem.F.plainAttrs_list PySem.F.slot_list_pop PySem.F.type_list_pop mt_popAt (pv 0) (pa_cons pe_int pa_nil)) pa_nil)) (pv 1))))))), ?_⟩
    refine ⟨d, rfl, hd, fun ns g => ?_⟩
    refine ⟨.ref d, rfl, d, _, rfl, .inl (SqL.of upd_same), rfl, _, rfl, ite2 (fun e => ?_) (fun e => ?_)⟩
    · refine ⟨d, ns, upd_same, g, ?_⟩
      show Q _ (upd (upd H d _) d _)
      rw [upd_back hd]
      exact k 0 (Int.le_refl 0) hm
    · obtain ⟨n, r, rfl⟩ : ∃ n r, ns = n :: r := by
        cases ns with
        | nil => exact absurd (decide_eq_true rfl) e
        | cons n r => exact ⟨n, r, rfl⟩
      obtain ⟨n0, n1, gr⟩ := good_tail g
      refine ⟨.ref d, rfl, .inl ⟨rfl, _, SqL.of upd_same⟩, d, _, 0, 0, .int n, rfl, rfl, upd_same, by decide, by decide, (by rw [List.length_map]; exact seq0 _), rfl, .inl ⟨n, rfl, .int m, rfl, n, m, rfl, rfl, hm, d, r, upd_same, gr, ?_⟩⟩
      rw [upd_upd, upd_upd, upd_id hd]
      exact k _ (Int.emod_nonneg _ (by omega)) (Int.emod_lt_of_pos _ hm)
def spDraws (K : PySem.W.Frag) : Sp := fun vs H Q _ => ∃ (a : Addr) (ns : List Int), vs = [.ref a] ∧ SqL K H a (ns.map V.int) ∧ ns.length ≤ 63 ∧ ∀ p, H p = none → Q (.ref p) (upd H p (DrO p))
def DrawsAt (H : Hp) (p : Addr) (i : Nat) (H' : Hp) : Prop := ∃ ms : List Int, H' = upd H p (.lst (ms.map V.int)) ∧ (∀ m ∈ ms, 0 ≤ m ∧ m < 1000003) ∧ ms.length ≤ i
theorem draws_add {H H' : Hp} {p : Addr} {i : Nat} (h : DrawsAt H p i H') (hi : i < 4000) {P : Prop} (k : ∀ ms : List V, H' p = some (.lst ms) → ms.length < sizeLine → (∀ x : Int, DrawsAt H p (i + 1) (upd H' p (.lst (ms ++ [.int (x % 1000003)])))) → P) : P := by
  obtain ⟨ms, rfl, g, hl⟩ := h
  refine k (ms.map V.int) upd_same (by rw [List.length_map]; exact Nat.lt_of_le_of_lt hl (Nat.lt_trans hi (by decide))) fun x => ⟨ms ++ [x % 1000003], ?_, good_add g emod_in, ?_⟩
  · rw [upd_upd, List.map_append]
    rfl
  · rw [List.length_append, List.length_singleton]
    omega
theorem ok_draws (T : Tx0 w K mg A) : FnOk P w K mg base CX0 1 A.draws A.d_draws p_draws (spDraws K) := by
  refine T.F_draws.ok sc_draws (fun vs H Q E h => ?_) (fun cdv Ar outer s H vs Q E hr h => ?_)
  · obtain ⟨a, ns, rfl, _⟩ := h
    rfl
  · obtain ⟨a, ns, rfl, hS, hlen, k⟩ := h
    refine ⟨_, (pss_cons (ps_set (i := 1) sc_draws.nd rfl (Or.inl rfl) (pe_lst pa_nil))
      (pss_cons (ps_for PassesOwn.never rfl (pi_range1 (by rfl) T.m_range (pa_cons (pe_callB (call_min2 rfl) (by rfl) T.m_min (by decide +kernel) (pa_cons pe_int (pa_cons (pe_callB call_len_seq (by rfl) T.m_len PySem.boot_len (pa_cons (pv 0) pa_nil)) pa_nil))) pa_nil)) (pg_name (i := 2) sc_draws.nd rfl (Or.inl rfl)) (pss_cons (ps_set (i := 3) sc_draws.nd rfl (Or.inl rfl) (pe_callTy call_int1 (by rfl) T.m_int (by decide +kernel) (pa_cons (pe_ix ix_list (pv 0) (pv 2) (fun _ _ => rfl)) pa_nil)))
        (pss_cons (ps_set (i := 4) sc_draws.nd rfl (Or.inl rfl) (pe_op op_mul pe_int (pe_callB call_abs (by rfl) T.m_abs (by decide +kernel) (pa_cons (pv 3) pa_nil))))
        (Evl.pss_cut (ps_if (pt_cmpR op_lt (pv 3) pe_int (nomark _)) (pss_one (ps_set (i := 4) sc_draws.nd rfl (Or.inl rfl) (pe_op op_add (pv 4) pe_int))) pss_nil)
        (pss_one (ps_if (pt_cmpR op_lt (pv 4) (pe_op op_mul pe_int (pe_op op_pow pe_int pe_int)) (nomark _)) (pss_one (ps_for PassesOwn.never rfl (pi_range1 (by rfl) T.m_range (pa_cons pe_int pa_nil)) (pg_name (i := 5) sc_draws.nd rfl (Or.inl rfl)) (pss_cons (ps_set (i := 6) sc_draws.nd rfl (Or.inl rfl) (pe_op op_mod (pe_callTy call_int1 (by rfl) T.m_int (by decide +kernel) (pa_cons (pe_op op_add (pe_op op_mul (pe_op op_add (pv 4) pe_int) (pe_op op_add pe_int (pe_op op_mul pe_int (pv 2)))) (pe_op op_mul pe_int (pv 5))) pa_nil)) pe_int))
            (pss_cons (ps_set (i := 6) sc_draws.nd rfl (Or.inl rfl) (pe_op op_mod (pe_callTy call_int1 (by rfl) T.m_int (by decide +kernel) (pa_cons (pe_op op_mul (pv 6) (pv 6)) pa_nil)) pe_int))
            (pss_one (ps_expr (pe_bm PySem.F.plainAttrs_list PySem.F.slot_list_append PySem.F.type_list_append mt_append (pv 1) (pa_cons (pe_op op_mod (pe_callTy call_int1 (by rfl) T.m_int (by decide +kernel) (pa_cons (pv 6) pa_nil)) pe_int) pa_nil)))))))) (pss_one (ps_for PassesOwn.never rfl (pi_range1 (by rfl) T.m_range (pa_cons pe_int pa_nil)) (pg_name (i := 5) sc_draws.nd rfl (Or.inl rfl)) (pss_one (ps_if (pt_cmpR op_gt (pv 4) pe_int (nomark _)) (pss_cons (ps_expr (pe_bm PySem.F.plainAttrs_list PySem.F.slot_list_append PySem.F.type_list_append mt_append (pv 1) (pa_cons (pe_op op_mod (pe_callTy call_int1 (by rfl) T.m_int (by decide +kernel) (pa_cons (pv 4) pa_nil)) pe_int) pa_nil)))
              (pss_one (ps_set (i := 4) sc_draws.nd rfl (Or.inl rfl) (pe_op op_fdiv (pv 4) pe_int)))) pss_nil))))))))))
      (pss_one (ps_ret (UL.pe_close (pv 1)))))), ?_⟩
    refine ⟨Nat.zero_le _, fun p hp => ?_⟩
    have eL : ∀ {j H'}, DrawsAt H p j H' → SqL K H' a (ns.map V.int) := fun ⟨ms, e, _⟩ => by
      rw [e]
      exact (same_upd hp).seq hS
    refine ⟨.ref a, rfl, a, _, rfl, .inl ((same_upd hp).seq hS), 63, _, rfl, ?_⟩
    have hm : (if (((ns.map V.int).length : Nat) : Int) < 63 then (((ns.map V.int).length : Nat) : Int) else 63) = (ns.length : Int) := by
      rw [List.length_map]
      split <;> omega
    rw [hm]
    refine ⟨(ns.length : Int), rfl, forR1 ⟨by omega, by omega⟩ (fun i σ H' => ∃ v2 v3 v4 v5 v6, σ = [some (.ref a), some (.ref p), v2, v3, v4, v5, v6] ∧ DrawsAt H p (60 * i) H') ⟨none, none, none, none, none, rfl, [], rfl, fun _ h => (nomatch h), Nat.le_refl _⟩ ?_ ?_⟩
    · rintro i σ' H' hi ⟨v2, v3, v4, v5, v6, rfl, hD⟩
      have hi' : i < ns.length := by omega
      -- cell, rest
      refine ⟨.ref a, rfl, .int (i : Int), rfl, a, _, _, .int ns[i], rfl, rfl, eL hD, atI_nat (int_get hi'), .inl ⟨ns[i], rfl, ?_⟩⟩
      refine ⟨.int ns[i], rfl, ns[i], rfl, 2, _, rfl, rfl, .inl ⟨by decide, by decide⟩, ?_⟩
      have h0 : 0 ≤ 2 * (if ns[i] < 0 then -ns[i] else ns[i]) := by split <;> omega
      refine ⟨fun σ2 H2 => ∃ r : Int, 0 ≤ r ∧ σ2 = [some (.ref a), some (.ref p), some (.int (i : Int)), some (.int ns[i]), some (.int r), v5, v6] ∧ H2 = H', ?_, ?_⟩
      · refine ⟨_, rfl, _, 0, rfl, rfl, _, rfl, ite2 (fun _ => ?_) (fun _ => ?_)⟩
        · exact ⟨_, rfl, _, 1, rfl, rfl, _, Int.le_add_one h0, rfl, rfl⟩
        · exact ⟨_, h0, rfl, rfl⟩
      · generalize ns[i] = c
        rintro σ2 H2 ⟨r, h0, rfl, rfl⟩
        refine ⟨.int r, rfl, 10, 18, rfl, rfl, ⟨by decide, by decide, by decide⟩, 2, _, rfl, rfl, .inl ⟨by decide, by decide⟩, r, _, rfl, rfl, _, rfl, ite2 (fun e => ?_) (fun e => ?_)⟩
        · have hr1 : r < 2 * 10 ^ 18 := of_decide_eq_true e
          refine ⟨4, rfl, forR1 ⟨by decide, by decide⟩ (fun t σ H' => ∃ v5 v6, σ = [some (.ref a), some (.ref p), some (.int (i : Int)), some (.int c), some (.int r), v5, v6] ∧ DrawsAt H p (60 * i + t) H') ⟨_, _, rfl, hD⟩ ?_ ?_⟩
          · rintro t σ' H' ht ⟨v5, v6, rfl, hD⟩
            have hi63 : (i : Int) < 63 := by omega
            refine ⟨_, rfl, r, 1, rfl, rfl, _, rfl, 2, _, rfl, rfl, .inl ⟨by decide, by decide⟩, 48271, _, rfl, rfl, _, _, rfl, rfl, .inr ⟨by omega, by omega⟩, _, rfl, 69621, _, rfl, rfl, .inl ⟨by decide, by decide⟩, _, _, rfl, rfl, .inl ⟨_, rfl, _, 2147483647, rfl, rfl, (show (0 : Int) < 2147483647 by decide), ?_⟩⟩
            have hx0 : 0 ≤ ((r + 1) * (48271 + 2 * (i : Int)) + 69621 * (t : Int)) % 2147483647 := Int.emod_nonneg _ (by decide)
            have hx1 : ((r + 1) * (48271 + 2 * (i : Int)) + 69621 * (t : Int)) % 2147483647 < 2147483647 := Int.emod_lt_of_pos _ (by decide)
            refine ⟨_, rfl, _, rfl, _, _, rfl, rfl, .inl ⟨Int.lt_of_lt_of_le (by decide) hx0, Int.lt_trans hx1 (by decide)⟩, .inl ⟨_, rfl, _, 2147483629, rfl, rfl, (show (0 : Int) < 2147483629 by decide), ?_⟩⟩
            refine draws_add hD (by omega) fun ms h1 h2 h3 => ?_
            refine ⟨.ref p, rfl, .inl ⟨rfl, _, SqL.of h1⟩, _, rfl, .inl ⟨_, rfl, _, 1000003, rfl, rfl, (show (0 : Int) < 1000003 by decide), p, ms, _, rfl, rfl, h1, h2, ?_⟩⟩
            exact ⟨_, _, rfl, h3 _⟩
          · rintro σ' H' ⟨v5, v6, rfl, ms, e, g, hl⟩
            exact ⟨_, _, _, _, _, rfl, ms, e, g, Nat.le_trans hl (by show 60 * i + 4 ≤ 60 * (i + 1); omega)⟩
        · refine ⟨60, rfl, forR1 ⟨by decide, by decide⟩ (fun t σ H' => ∃ r v5 v6, σ = [some (.ref a), some (.ref p), some (.int (i : Int)), some (.int c), some (.int r), v5, v6] ∧ DrawsAt H p (60 * i + t) H') ⟨_, _, _, rfl, hD⟩ ?_ ?_⟩
          · rintro t σ' H' ht ⟨r, v5, v6, rfl, hD⟩
            refine ⟨.int r, rfl, r, 0, rfl, rfl, _, rfl, ite2 (fun _ => ?_) (fun _ => ?_)⟩
            · refine draws_add hD (by omega) fun ms h1 h2 h3 => ?_
              refine ⟨.ref p, rfl, .inl ⟨rfl, _, SqL.of h1⟩, .int r, rfl, .inl ⟨r, rfl, r, 1000003, rfl, rfl, (show (0 : Int) < 1000003 by decide), p, ms, _, rfl, rfl, h1, h2, ?_⟩⟩
              refine ⟨.int r, rfl, r, 1000003, rfl, rfl, ⟨by decide, by decide⟩, ?_⟩
              exact ⟨_, _, _, rfl, h3 _⟩
            · obtain ⟨ms, e, g, hl⟩ := hD
              exact ⟨_, _, _, rfl, ms, e, g, Nat.le_succ_of_le hl⟩
          · rintro σ' H' ⟨r, v5, v6, rfl, ms, e, g, hl⟩
            exact ⟨_, _, _, _, _, rfl, ms, e, g, Nat.le_trans hl (by show 60 * i + 60 ≤ 60 * (i + 1); omega)⟩
    · rintro σ' H' ⟨v2, v3, v4, v5, v6, rfl, ms, rfl, g, hl⟩
      refine ⟨.ref p, rfl, p, ms, upd_same, ⟨g, Nat.le_trans hl (by omega)⟩, ?_⟩
      rw [upd_upd]
      exact k p hp
def kWords : List V := [V.str "fun", V.str "out", V.str "use", V.str "val", V.str "ref", V.str "set", V.str "block", V.str "if", V.str "else", V.str "loop", V.str "end", V.str "part", V.str "pick", V.str "then", V.str "dead"]
def NoStr (H : Hp) (v : V) : Prop := v = .non ∨ (∃ b, v = .bl b) ∨ (∃ i, v = .int i) ∨ (∃ a xs, v = .ref a ∧ (H a = some (.lst xs) ∨ H a = some (.tup xs))) ∨ ∃ a kvs, v = .ref a ∧ H a = some (.dK kvs)
def Th (H : Hp) (v : V) : Prop := (∃ z, v = .str z ∧ z.length ≤ 2000) ∨ NoStr H v
theorem Th.mono {H H' : Hp} {v : V} (e : Ex H H') (h : Th H v) : Th H' v := by
  rcases h with h | h | h | h | ⟨a, xs, h, h1 | h1⟩ | ⟨a, kvs, h, h1⟩
  · exact .inl h
  · exact .inr (.inl h)
  · exact .inr (.inr (.inl h))
  · exact .inr (.inr (.inr (.inl h)))
  · exact .inr (.inr (.inr (.inr (.inl ⟨a, xs, h, .inl (e _ _ h1)⟩))))
  · exact .inr (.inr (.inr (.inr (.inl ⟨a, xs, h, .inr (e _ _ h1)⟩))))
  · exact .inr (.inr (.inr (.inr (.inr ⟨a, kvs, h, e _ _ h1⟩))))
def isS : V → Bool
  | .str _ => true
  | _ => false
theorem Th.isi {K : PySem.W.Frag} {H : Hp} {v : V} (h : Th H v) : ∃ t, TyX K H v t ∧ PySem.W.kitOne K t (.type "str") = some (isS v) := by
  rcases h with ⟨z, rfl, _⟩ | rfl | ⟨b, rfl⟩ | ⟨i, rfl⟩ | ⟨a, xs, rfl, h1 | h1⟩ | ⟨a, kvs, rfl, h1⟩
  · exact ⟨_, .base (.str z), kit_ty (r := true) (by decide +kernel)⟩
  · exact ⟨_, .base .non, kit_ty (r := false) (by decide +kernel)⟩
  · exact ⟨_, .base (.bl b), kit_ty (r := false) (by decide +kernel)⟩
  · exact ⟨_, .base (.int i), kit_ty (r := false) (by decide +kernel)⟩
  · exact ⟨_, .base (.lst h1), kit_ty (r := false) (by decide +kernel)⟩
  · exact ⟨_, .base (.tup h1), kit_ty (r := false) (by decide +kernel)⟩
  · exact ⟨_, .base (.dK h1), kit_ty (r := false) (by decide +kernel)⟩
def wordsS : List Str := ["fun", "out", "use", "val", "ref", "set", "block", "if", "else", "loop", "end", "part", "pick", "then", "dead"]
theorem kWords_eq : kWords = wordsS.map V.str := rfl
def alnum (c : Nat) : Bool := decide (c ∈ tl "abcdefghijklmnopqrstuvwxyz") || decide (c ∈ tl "0123456789")
def okS (z : Str) : Bool := decide (1 ≤ z.length) && decide (z.length ≤ 8) && (match tl z with | c :: _ => decide (c ∈ tl "abcdefghijklmnopqrstuvwxyz") | [] => false) && !inV (.str z) kWords && (tl z).all alnum
def nm : V → Bool
  | .str z => okS z
  | _ => false
theorem nm_no {v : V} (h : isS v = false) : nm v = false := by
  cases v <;> first | rfl | cases h
theorem isS_yes {v : V} (h : isS v = true) : ∃ z, v = .str z := by
  cases v with
  | str z => exact ⟨z, rfl⟩
  | _ => cases h
def spIsName : Sp := fun vs H Q _ => ∃ v, vs = [v] ∧ Th H v ∧ ∀ H', Ex H H' → Q (.bl (nm v)) H'
theorem ok_is_name (T : Tx0 w K mg A) : FnOk P w K mg base CX0 1 A.is_name A.d_is_name p_is_name spIsName := by
  refine T.F_is_name.ok sc_is_name (fun vs H Q E h => ?_) (fun cdv Ar outer s H vs Q E hr h => ?_)
  · obtain ⟨v, rfl, _⟩ := h
    rfl
  · obtain ⟨v, rfl, hv, k⟩ := h
    refine ⟨_, (pss_cons (ps_if (PW.pt (pw_or (pt_not (pt_val (pe_callB call_isi (by rfl) T.m_isinstance (by decide +kernel) (pa_cons (pv 0) (pa_cons (pe_bltn (v := .ty "str") (u := .type "str") (by rfl) T.m_str (by decide +kernel) rfl) pa_nil))))) (pw_or1 (pt_not (pt_chain op_le op_le pe_int (pe_callB call_len_str (by rfl) T.m_len PySem.boot_len (pa_cons (pv 0) pa_nil)) (pe_glob (v := .int 8) (by rfl) T.c_MOST_CHARACTERS ⟨_, rfl⟩)))))) (pss_one (ps_ret pe_bl)) pss_nil)
      (pss_cons (ps_if (PW.pt (pw_or (pt_cmpR op_notIn_sign (pe_ix ix_str (pv 0) pe_int (fun _ _ => rfl)) (pe_glob (v := .str "abcdefghijklmnopqrstuvwxyz") (by rfl) T.c_LETTERS ⟨_, rfl⟩) (by rfl)) (pw_or1 (pt_cmpR op_in_seq (pv 0) (pe_glob (v := .ref A.RESERVED) (by rfl) T.c_RESERVED rfl) (by rfl))))) (pss_one (ps_ret pe_bl)) pss_nil)
      (pss_one (ps_ret (pe_callB (cr_all rfl) (by rfl) T.m_all (by decide +kernel) (pa_cons (pe_lc (own := [("sign", 1)]) (g := gName 1) (tt := tYes) rfl sc_is_name.nd (pi_str (pv 0)) (blkOk_by (N := n_is_name) (sc := defScope s_is_name) (by decide +kernel)) (fun _ _ _ _ _ => pg_name (i := 1) sc_is_name.nd rfl (Or.inl rfl)) (fun _ _ _ _ _ => pts_nil) (fun _ _ _ _ _ => (pe_or (pe_cmpR op_in_sign (pv 1) (pe_glob (v := .str "abcdefghijklmnopqrstuvwxyz") (by rfl) T.c_LETTERS ⟨_, rfl⟩) (by rfl)) (pe_one (pe_cmpR op_in_sign (pv 1) (pe_glob (v := .str "0123456789") (by rfl) T.c_DIGITS ⟨_, rfl⟩) (by rfl)))))) pa_nil)))))), ?_⟩
    obtain ⟨t, ht, hk⟩ := hv.isi (K := K)
    refine ⟨v, rfl, v, _, t, _, _, rfl, .ty "str", ht, hk, _, rfl, ?_⟩
    cases hs : isS v with
    | false =>
      refine iteT ?_
      refine iteT ?_
      have q := k H (Ex.refl H)
      rw [nm_no hs] at q
      exact q
    | true =>
      obtain ⟨z, rfl⟩ := isS_yes hs
      have hz : z.length ≤ 2000 := by
        rcases hv with ⟨z', e, h⟩ | e | ⟨_, e⟩ | ⟨_, e⟩ | ⟨_, _, e, _⟩ | ⟨_, _, e, _⟩
        · cases e
          exact h
        all_goals cases e
      refine iteF ?_
      refine ⟨_, rfl, z, rfl, sz_of (by omega), 1, _, rfl, rfl, _, rfl, ?_⟩
      have no : okS z = false → Q (V.bl false) H := fun e => by
        have q := k H (Ex.refl H)
        rw [show nm (V.str z) = false from e] at q
        exact q
      by_cases z1 : 1 ≤ z.length
      · rw [decide_eq_true (show (1 : Int) ≤ (z.length : Int) by omega)]
        refine iteT ?_
        refine ⟨_, 8, rfl, rfl, _, rfl, ?_⟩
        by_cases z8 : z.length ≤ 8
        · rw [decide_eq_true (show (z.length : Int) ≤ 8 by omega)]
          refine iteF ?_
          obtain ⟨c, r, hcr⟩ : ∃ c r, tl z = c :: r := by
            cases e : tl z with
            | nil =>
              rw [len_tl, e] at z1
              exact absurd z1 (by decide)
            | cons c r => exact ⟨c, r, rfl⟩
          refine ⟨_, rfl, z, 0, c, rfl, rfl, sz_of (by omega), atI_nat (j := 0) (by show (tl z)[0]? = _; rw [hcr]; rfl), c, _, rfl, rfl, _, rfl, ?_⟩
          by_cases hc : c ∈ tl "abcdefghijklmnopqrstuvwxyz"
          · rw [decide_eq_true hc]
            refine iteF ?_
            refine ⟨_, rfl, A.RESERVED, k_RESERVED, rfl, .inr (T.q_RESERVED _), rfl, by decide, _, rfl, ?_⟩
            show if inV (.str z) k_RESERVED = true then _ else _
            cases hi : inV (.str z) k_RESERVED with
            | true =>
              refine iteT ?_
              refine no ?_
              unfold okS
              rw [show inV (.str z) kWords = true from hi, Bool.and_eq_false_iff]
              exact .inl (Bool.and_eq_false_iff.mpr (.inr rfl))
            | false =>
              refine iteF ?_
              refine ⟨_, rfl, z, rfl, fun D hD => ?_⟩
              refine lc_str (f := fun c => V.bl (alnum c)) (by omega) hD (fun _ => rfl) (fun c H' _ Q' q => ?_) ?_
              · refine ⟨_, rfl, c, _, rfl, rfl, _, rfl, ite2 (fun h => ?_) (fun h => ?_)⟩
                · have e : alnum c = true := by
                    unfold alnum
                    rw [show decide (c ∈ tl "abcdefghijklmnopqrstuvwxyz") = true from h, Bool.true_or]
                  rw [e] at q
                  exact q
                · refine ⟨_, rfl, c, _, rfl, rfl, ?_⟩
                  have e : alnum c = decide (c ∈ tl "0123456789") := by
                    unfold alnum
                    rw [show decide (c ∈ tl "abcdefghijklmnopqrstuvwxyz") = false from by simpa using h, Bool.false_or]
                  rw [e] at q
                  exact q
              · refine ⟨D, (tl z).map alnum, rfl, SqL.of (by rw [upd_same, List.map_map]; rfl), ?_⟩
                have e : okS z = ((tl z).map alnum).all id := by
                  unfold okS
                  rw [decide_eq_true z1, decide_eq_true z8, hcr, show inV (.str z) kWords = false from hi, List.all_map]
                  show (decide (c ∈ tl "abcdefghijklmnopqrstuvwxyz") && true && _) = _
                  rw [decide_eq_true hc]
                  rfl
                have q := k _ (Ex.new hD (o := .lst ((tl z).map fun c => V.bl (alnum c))))
                rw [show nm (V.str z) = ((tl z).map alnum).all id from e] at q
                exact q
          · rw [decide_eq_false hc]
            refine iteT ?_
            refine no ?_
            unfold okS
            rw [hcr]
            show (_ && decide (c ∈ tl "abcdefghijklmnopqrstuvwxyz") && _ && _) = false
            rw [decide_eq_false hc, Bool.and_false, Bool.false_and, Bool.false_and]
        · rw [decide_eq_false (show ¬ (z.length : Int) ≤ 8 by omega)]
          refine iteT ?_
          refine no ?_
          unfold okS
          rw [decide_eq_false z8, Bool.and_false, Bool.false_and, Bool.false_and, Bool.false_and]
      · rw [decide_eq_false (show ¬ (1 : Int) ≤ (z.length : Int) by omega)]
        refine iteF ?_
        refine ⟨_, rfl, ?_⟩
        refine iteT ?_
        refine no ?_
        unfold okS
        rw [decide_eq_false z1, Bool.false_and, Bool.false_and, Bool.false_and, Bool.false_and]
def tl36 : List Nat := tl "abcdefghijklmnopqrstuvwxyz0123456789"
theorem tl36_eq : tl36 = tl "abcdefghijklmnopqrstuvwxyz" ++ tl "0123456789" := by decide +kernel
theorem alnum36 (c : Nat) : alnum c = decide (c ∈ tl36) := by
  unfold alnum
  rw [tl36_eq]
  by_cases h1 : c ∈ tl "abcdefghijklmnopqrstuvwxyz" <;> by_cases h2 : c ∈ tl "0123456789" <;> simp [h1, h2]
theorem apart : ∀ c ∈ tl "abcdefghijklmnopqrstuvwxyz", c ∉ tl "0123456789" := by decide +kernel
def spCopied : Sp := fun vs H Q _ => ∃ v, vs = [v, .int 4] ∧ flatV v = true ∧ Q v H
theorem ok_copied (T : Tx0 w K mg A) : FnOk P w K mg base CX0 1 A.copied A.d_copied p_copied spCopied := by
  refine T.F_copied.ok sc_copied (fun vs H Q E h => ?_) (fun cdv Ar outer s H vs Q E hr h => ?_)
  · obtain ⟨v, rfl, _⟩ := h
    rfl
  · obtain ⟨v, rfl, hv, k⟩ := h
    refine ⟨_, (pss_cons (ps_if (pt_cmpR op_eq (pv 1) pe_int (nomark _)) (pss_one (ps_ret (pv 0))) pss_nil)
      (pss_cons (ps_if (pt_val (pe_callB call_isi (by rfl) T.m_isinstance (by decide +kernel) (pa_cons (pv 0) (pa_cons (pe_bltn (v := .ty "list") (u := .type "list") (by rfl) T.m_list (by decide +kernel) rfl) pa_nil)))) (pss_one ps_never) pss_nil)
      (pss_cons (ps_if (pt_val (pe_callB call_isi (by rfl) T.m_isinstance (by decide +kernel) (pa_cons (pv 0) (pa_cons (pe_bltn (v := .ty "tuple") (u := .type "tuple") (by rfl) T.m_tuple (by decide +kernel) rfl) pa_nil)))) (pss_one ps_never) pss_nil)
      (pss_cons (ps_if (pt_val (pe_callB call_isi (by rfl) T.m_isinstance (by decide +kernel) (pa_cons (pv 0) (pa_cons (pe_bltn (v := .ty "dict") (u := .type "dict") (by rfl) T.m_dict (by decide +kernel) rfl) pa_nil)))) (pss_one ps_never) pss_nil)
      (pss_one (ps_ret (pv 0))))))), ?_⟩
    obtain ⟨t, ht, h1, h2, h3⟩ := flat_ty (K := K) (H := H) hv
    refine ⟨_, rfl, rfl, _, rfl, iteF ?_⟩
    refine ⟨_, rfl, v, _, t, _, _, rfl, .ty "list", ht, h1, _, rfl, iteF ?_⟩
    refine ⟨_, rfl, v, _, t, _, _, rfl, .ty "tuple", ht, h2, _, rfl, iteF ?_⟩
    refine ⟨_, rfl, v, _, t, _, _, rfl, .ty "dict", ht, h3, _, rfl, iteF ?_⟩
    exact ⟨v, rfl, k⟩
theorem ok_lives_init (T : Tx0 w K mg A) : FnOk P w K mg base CX0 2 A.lives_init A.d_lives_init p_lives_init (UL.spWhat K) := by
  refine T.F_lives_init.ok sc_lives_init (fun vs H Q E h => ?_) (fun cdv Ar outer s H vs Q E hr h => ?_)
  · obtain ⟨a, C, v, rfl, _⟩ := h
    rfl
  · obtain ⟨a, C, v, rfl, hv, ha, hC, hw, k⟩ := h
    obtain ⟨ds, hvc, hbc⟩ := T.F_copied.binds1 (ps := p_copied) 1 0 (by simp) rfl (fun T' kV doc pm an cdv ct us its h1 h2 => by
      match us, h1, its, h2 with
      | [u], _, [d], _ => exact ⟨_, rfl, rfl⟩)
    refine ⟨_, (pss_one (ps_ost (pv 0) (pe_call (ok_copied T) (hr.mono (by decide)) (by rfl) T.g_copied T.F_copied.kp hbc hvc pass0 (pa_cons (pv 1) pa_nil)))), ?_⟩
    refine ⟨v, rfl, v, rfl, hv, _, rfl, a, C, rfl, hC, hw, .inl ⟨ha, fun dx hd hne => ?_⟩⟩
    exact k dx hd hne
/-! ### Signature -/
def inI : V → Int → Int → Bool
  | .int i, lo, hi => decide (lo ≤ i) && decide (i ≤ hi)
  | _, _, _ => false
def isInt : V → Bool
  | .int _ => true
  | .bl _ => true
  | _ => false
def isBl : V → Bool
  | .bl _ => true
  | _ => false
theorem Th.int {K : PySem.W.Frag} {H : Hp} {v : V} (h : Th H v) : ∃ t, TyX K H v t ∧ PySem.W.kitOne K t (.type "int") = some (isInt v) ∧ PySem.W.kitOne K t (.type "bool") = some (isBl v) := by
  rcases h with ⟨z, rfl, _⟩ | rfl | ⟨b, rfl⟩ | ⟨i, rfl⟩ | ⟨a, xs, rfl, h1 | h1⟩ | ⟨a, kvs, rfl, h1⟩
  · exact ⟨_, .base (.str z), kit_ty (r := false) (by decide +kernel), kit_ty (r := false) (by decide +kernel)⟩
  · exact ⟨_, .base .non, kit_ty (r := false) (by decide +kernel), kit_ty (r := false) (by decide +kernel)⟩
  · exact ⟨_, .base (.bl b), kit_ty (r := true) (by decide +kernel), kit_ty (r := true) (by decide +kernel)⟩
  · exact ⟨_, .base (.int i), kit_ty (r := true) (by decide +kernel), kit_ty (r := false) (by decide +kernel)⟩
  · exact ⟨_, .base (.lst h1), kit_ty (r := false) (by decide +kernel), kit_ty (r := false) (by decide +kernel)⟩
  · exact ⟨_, .base (.tup h1), kit_ty (r := false) (by decide +kernel), kit_ty (r := false) (by decide +kernel)⟩
  · exact ⟨_, .base (.dK h1), kit_ty (r := false) (by decide +kernel), kit_ty (r := false) (by decide +kernel)⟩
def intB : V → Bool
  | .int _ => true
  | _ => false
def spWhole : Sp := fun vs H Q _ => ∃ v, vs = [v] ∧ Th H v ∧ Q (.bl (intB v)) H
theorem ok_is_whole (T : Tx0 w K mg A) : FnOk P w K mg base CX0 1 A.is_whole A.d_is_whole p_is_whole spWhole := by
  refine T.F_is_whole.ok sc_is_whole (fun vs H Q E h => ?_) (fun cdv Ar outer s H vs Q E hr h => ?_)
  · obtain ⟨v, rfl, _⟩ := h
    rfl
  · obtain ⟨v, rfl, hv, k⟩ := h
    refine ⟨_, (pss_one (ps_ret (pe_and (pe_callB call_isi (by rfl) T.m_isinstance (by decide +kernel) (pa_cons (pv 0) (pa_cons (pe_bltn (v := .ty "int") (u := .type "int") (by rfl) T.m_int (by decide +kernel) rfl) pa_nil))) (pe_one (pe_not (pe_callB call_isi (by rfl) T.m_isinstance (by decide +kernel) (pa_cons (pv 0) (pa_cons (pe_bltn (v := .ty "bool") (u := .type "bool") (by rfl) T.m_bool (by decide +kernel) rfl) pa_nil)))))))), ?_⟩
    obtain ⟨t, ht, h1, h2⟩ := hv.int (K := K)
    refine ⟨_, rfl, v, _, t, _, _, rfl, .ty "int", ht, h1, _, rfl, ?_⟩
    cases v with
    | int i => exact iteT ⟨_, rfl, .int i, _, t, _, _, rfl, .ty "bool", ht, h2, _, rfl, k⟩
    | bl b => exact iteT ⟨_, rfl, .bl b, _, t, _, _, rfl, .ty "bool", ht, h2, _, rfl, k⟩
    | _ => exact iteF k
def spIsInt : Sp := fun vs H Q _ => ∃ v lo hi, vs = [v, .int lo, .int hi] ∧ Th H v ∧ Q (.bl (inI v lo hi)) H
theorem ok_is_int (T : Tx0 w K mg A) : FnOk P w K mg base CX0 2 A.is_int A.d_is_int p_is_int spIsInt := by
  refine T.F_is_int.ok sc_is_int (fun vs H Q E h => ?_) (fun cdv Ar outer s H vs Q E hr h => ?_)
  · obtain ⟨v, lo, hi, rfl, _⟩ := h
    rfl
  · obtain ⟨v, lo, hi, rfl, hv, k⟩ := h
    refine ⟨_, (pss_one (ps_ret (pe_and (pe_call (ok_is_whole T) (hr.mono (by decide)) (by rfl) T.g_is_whole T.F_is_whole.kp T.b_is_whole .nil pass0 (pa_cons (pv 0) pa_nil)) (pe_one (pe_chain op_le op_le (pv 1) (pv 0) (pv 2)))))), ?_⟩
    refine ⟨_, rfl, v, rfl, hv, _, rfl, ?_⟩
    cases v with
    | int i =>
      refine iteT ⟨_, rfl, _, rfl, lo, i, rfl, rfl, _, rfl, ?_⟩
      by_cases e : lo ≤ i
      · rw [decide_eq_true e]
        refine iteT ⟨_, rfl, i, hi, rfl, rfl, ?_⟩
        rw [show inI (.int i) lo hi = decide (i ≤ hi) by show (decide (lo ≤ i) && decide (i ≤ hi)) = _; rw [decide_eq_true e, Bool.true_and]] at k
        exact k
      · rw [decide_eq_false e]
        have q := k
        rw [show inI (.int i) lo hi = false by show (decide (lo ≤ i) && decide (i ≤ hi)) = false; rw [decide_eq_false e, Bool.false_and]] at q
        exact iteF q
    | _ => exact iteF k
def okSrc (n : Int) : Int → List V → Bool
  | _, [] => true
  | l, x :: r => inI x l n && (match x with | .int i => okSrc n (i + 1) r | _ => false)
def srcOk (n : Int) : Option (List V) → Bool
  | some xs => okSrc n 1 xs
  | none => false
def Src (K : PySem.W.Frag) (H : Hp) (v : V) : Option (List V) → Prop
  | some xs => SeqV K H v xs ∧ (∀ x ∈ xs, Th H x) ∧ xs.length ≤ 2500
  | none => NSeq H v
theorem Src.mono {K : PySem.W.Frag} {H H' : Hp} {v : V} {o : Option (List V)} (e : Ex H H') (h : Src K H v o) : Src K H' v o := by
  cases o with
  | none => exact NSeq.mono e h
  | some xs => exact ⟨h.1.mono e, fun x hx => (h.2.1 x hx).mono e, h.2.2⟩
def spSources (K : PySem.W.Frag) : Sp := fun vs H Q _ => ∃ v n o, vs = [v, .int n] ∧ Src K H v o ∧ ∀ H', Ex H H' → Q (.bl (srcOk n o)) H'
theorem ok_are_sources (T : Tx0 w K mg A) : FnOk P w K mg base CX0 3 A.are_sources A.d_are_sources p_are_sources (spSources K) := by
  refine T.F_are_sources.ok sc_are_sources (fun vs H Q E h => ?_) (fun cdv Ar outer s H vs Q E hr h => ?_)
  · obtain ⟨v, n, o, rfl, _⟩ := h
    rfl
  · obtain ⟨v, n, o, rfl, hv, k⟩ := h
    refine ⟨_, (pss_cons (ps_if (pt_not (pt_val (pe_callB call_isiT (by rfl) T.m_isinstance (by decide +kernel) (pa_cons (pv 0) (pa_cons (pe_tup (pa_cons (pe_bltn (v := .ty "list") (u := .type "list") (by rfl) T.m_list (by decide +kernel) rfl) (pa_cons (pe_bltn (v := .ty "tuple") (u := .type "tuple") (by rfl) T.m_tuple (by decide +kernel) rfl) pa_nil))) pa_nil))))) (pss_one (ps_ret pe_bl)) pss_nil)
      (pss_cons (ps_set (i := 2) sc_are_sources.nd rfl (Or.inl rfl) pe_int)
      (pss_cons (ps_for PassesOwn.never rfl (UL.pi_alt (pi_list (pv 0)) (pi_tup (pv 0))) (pg_name (i := 3) sc_are_sources.nd rfl (Or.inl rfl)) (pss_cons (ps_if (pt_not (pt_val (pe_call (ok_is_int T) (hr.mono (by decide)) (by rfl) T.g_is_int T.F_is_int.kp T.b_is_int .nil pass0 (pa_cons (pv 3) (pa_cons (pv 2) (pa_cons (pv 1) pa_nil)))))) (pss_one (ps_ret pe_bl)) pss_nil)
        (pss_one (ps_set (i := 2) sc_are_sources.nd rfl (Or.inl rfl) (pe_op op_add (pv 3) pe_int)))))
      (pss_one (ps_ret pe_bl))))), ?_⟩
    refine ⟨v, rfl, by decide, fun p hp => ?_⟩
    have e1 := Ex.new (o := .tup [.ty "list", .ty "tuple"]) hp
    have hv1 := hv.mono e1
    cases o with
    | none =>
      obtain ⟨t, ht, hk⟩ := NSeq.ty (K := K) hv1
      exact ⟨v, p, _, t, _, _, rfl, upd_same, .cons (.ty "list") (.cons (.ty "tuple") .nil), ht, hk, _, rfl, iteT (k _ e1)⟩
    | some xs =>
      obtain ⟨hq, hx, hl⟩ := hv1
      obtain ⟨t, ht, hk⟩ := hq.ty
      refine ⟨v, p, _, t, _, _, rfl, upd_same, .cons (.ty "list") (.cons (.ty "tuple") .nil), ht, hk, _, rfl, iteF ?_⟩
      generalize hH : upd H p (.tup [.ty "list", .ty "tuple"]) = H1 at *
      obtain ⟨a, rfl, h2⟩ := hq.two
      refine for_seq (fun Q' q => ⟨_, rfl, q⟩) h2 (fun i σ H' => (∃ l v3, σ = [some (.ref a), some (.int n), some (.int l), v3] ∧ okSrc n 1 xs = okSrc n l (xs.drop i)) ∧ Ex H1 H') ⟨⟨1, none, rfl, rfl⟩, Ex.refl _⟩ (fun i σ' H' p => p.2) ?_ ?_
      · rintro i x σ' H' hi ⟨⟨l, v3, rfl, hok⟩, e2⟩
        have hd : xs.drop i = x :: xs.drop (i + 1) := by
          have hlt := (List.getElem?_eq_some_iff.mp hi).1
          rw [List.drop_eq_getElem_cons hlt, (List.getElem?_eq_some_iff.mp hi).2]
        rw [hd] at hok
        have tx := (hx x (List.mem_of_getElem? hi)).mono e2
        refine ⟨x, rfl, _, rfl, _, rfl, x, l, n, rfl, tx, _, rfl, ?_⟩
        cases hb : inI x l n with
        | false =>
          refine iteT ?_
          have q := k H' (e1.trans e2)
          rw [show srcOk n (some xs) = false by show okSrc n 1 xs = false; rw [hok]; show (inI x l n && _) = false; rw [hb, Bool.false_and]] at q
          exact q
        | true =>
          refine iteF ?_
          cases x with
          | int m =>
            refine ⟨_, rfl, m, 1, rfl, rfl, ⟨m + 1, _, rfl, ?_⟩, e2⟩
            rw [hok]
            show (inI (.int m) l n && okSrc n (m + 1) _) = _
            rw [hb, Bool.true_and]
          | _ => cases hb
      · rintro σ' H' ⟨⟨l, v3, rfl, hok⟩, e2⟩
        rw [List.drop_length] at hok
        have q := k H' (e1.trans e2)
        rw [show srcOk n (some xs) = true from hok] at q
        exact q
def sigOk (nv cv : V) (o : Option (List V)) : Bool := nm nv && inI cv 0 4 && (match cv with | .int n => srcOk n o | _ => false)
def spIsSig (K : PySem.W.Frag) : Sp := fun vs H Q _ => ∃ nv cv sv o, vs = [nv, cv, sv] ∧ Th H nv ∧ Th H cv ∧ Src K H sv o ∧ ∀ H', Ex H H' → Q (.bl (sigOk nv cv o)) H'
theorem ok_is_signature (T : Tx0 w K mg A) : FnOk P w K mg base CX0 4 A.is_signature A.d_is_signature p_is_signature (spIsSig K) := by
  refine T.F_is_signature.ok sc_is_signature (fun vs H Q E h => ?_) (fun cdv Ar outer s H vs Q E hr h => ?_)
  · obtain ⟨nv, cv, sv, o, rfl, _⟩ := h
    rfl
  · obtain ⟨nv, cv, sv, o, rfl, hn, hc, hs, k⟩ := h
    refine ⟨_, (pss_one (ps_ret (pe_and (pe_call (ok_is_name T) (hr.mono (by decide)) (by rfl) T.g_is_name T.F_is_name.kp T.b_is_name .nil pass0 (pa_cons (pv 0) pa_nil)) (pe_and (pe_call (ok_is_int T) (hr.mono (by decide)) (by rfl) T.g_is_int T.F_is_int.kp T.b_is_int .nil pass0 (pa_cons (pv 1) (pa_cons pe_int (pa_cons (pe_glob (v := .int 4) (by rfl) T.c_MOST_PARAMETERS ⟨_, rfl⟩) pa_nil)))) (pe_one (pe_call (ok_are_sources T) (hr.mono (by decide)) (by rfl) T.g_are_sources T.F_are_sources.kp T.b_are_sources .nil pass0 (pa_cons (pv 2) (pa_cons (pv 1) pa_nil)))))))), ?_⟩
    refine ⟨_, rfl, nv, rfl, hn, fun H1 e1 => ⟨_, rfl, ?_⟩⟩
    have other : ∀ H', Ex H H' → sigOk nv cv o = false → Q (.bl false) H' := fun H' e' e => by
      have q := k H' e'
      rw [e] at q
      exact q
    cases h1 : nm nv with
    | false => exact iteF (other _ e1 (by unfold sigOk; rw [h1, Bool.false_and, Bool.false_and]))
    | true =>
      refine iteT ⟨_, rfl, cv, 0, 4, rfl, hc.mono e1, _, rfl, ?_⟩
      cases h2 : inI cv 0 4 with
      | false => exact iteF (other _ e1 (by unfold sigOk; rw [h2, Bool.and_false, Bool.false_and]))
      | true =>
        cases cv with
        | int n =>
          refine iteT ⟨_, rfl, _, rfl, sv, n, o, rfl, hs.mono e1, fun H2 e2 => ?_⟩
          have q := k H2 (e1.trans e2)
          rw [show sigOk nv (.int n) o = srcOk n o by unfold sigOk; rw [h1, h2]; rfl] at q
          exact q
        | _ => cases h2
def sigF (nv cv : V) (t : Addr) : List (Str × V) := [("name", nv), ("count", cv), ("sources", .ref t)]
theorem put3 (nv cv : V) (t : Addr) : putF "sources" (.ref t) (putF "count" cv (putF "name" nv [])) = sigF nv cv t := rfl
def spSigInit (K : PySem.W.Frag) (C E' : Addr) : Sp := fun vs H Q E => ∃ x dx nv cv sv o, vs = [.ref x, nv, cv, sv] ∧ H x = some (.ins C dx []) ∧ flatV nv = true ∧ Th H nv ∧ Th H cv ∧ Src K H sv o ∧
  (sigOk nv cv o = true → ∀ H' t, Ex (L2.del H x) H' → H' x = some (.ins C dx (sigF nv cv t)) → SqT K H' t (o.getD []) → Q .non H') ∧
  (sigOk nv cv o = false → ∀ d H', Ex H H' → H' d = some (.xd [("what", nv)]) → E (.ref E') (some d) H')
theorem ok_sig_init (T : Tx0 w K mg A) : FnOk P w K mg base (L2.CX P w) 5 A.sig_init A.d_sig_init p_sig_init (spSigInit K A.Signature A.InvalidSignature) := by
  refine T.F_sig_init.ok sc_sig_init (fun vs H Q E h => ?_) (fun cdv Ar outer s H vs Q E hr h => ?_)
  · obtain ⟨x, dx, nv, cv, sv, o, rfl, _⟩ := h
    rfl
  · obtain ⟨x, dx, nv, cv, sv, o, rfl, hx, hf, hn, hc, hs, k1, k2⟩ := h
    refine ⟨_, (pss_cons (ps_if (pt_not (pt_val (pe_call (ok_is_signature T) (hr.mono (by decide)) (by rfl) T.g_is_signature T.F_is_signature.kp T.b_is_signature .nil pass0 (pa_cons (pv 1) (pa_cons (pv 2) (pa_cons (pv 3) pa_nil)))))) (pss_one (ps_raise rfl (takes_of rfl rfl rfl rfl) (pmk_oex T.ex_InvalidSignature.ox T.ex_InvalidSignature.ii T.ti_lives_init (ok_lives_init T) (hr.mono (by decide)) T.b_lives_init .nil pass0 (by rfl) T.g_InvalidSignature (pa_cons (pv 1) pa_nil)))) pss_nil)
      (pss_cons (ps_fld (pv 0) (pv 1) rfl)
      (pss_cons (ps_fld (pv 0) (pv 2) rfl)
      (pss_one (ps_fld (pv 0) (pe_callTy call_tuple_of (by rfl) T.m_tuple (by decide +kernel) (pa_cons (pv 3) pa_nil)) rfl))))), ?_⟩
    refine ⟨_, rfl, _, rfl, _, rfl, nv, cv, sv, o, rfl, hn, hc, hs, fun H1 e1 => ⟨_, rfl, ?_⟩⟩
    cases hb : sigOk nv cv o with
    | false =>
      refine iteT ⟨_, rfl, (by show 1 ≤ 1000; decide), raise_what T.ex_InvalidSignature hf fun d H' e' hd => ?_⟩
      exact k2 hb d H' (e1.trans e') hd
    | true =>
      refine iteF ?_
      have hx1 := e1 _ _ hx
      refine ⟨_, rfl, _, rfl, x, _, dx, _, rfl, hx1, T.cl_Signature, T.na_Signature_name, by decide, ?_⟩
      refine ⟨_, rfl, _, rfl, x, _, dx, _, rfl, upd_same, T.cl_Signature, T.na_Signature_count, by show 1 < 1000; decide, ?_⟩
      obtain ⟨xs, rfl⟩ : ∃ xs, o = some xs := by
        cases o with
        | some xs => exact ⟨xs, rfl⟩
        | none =>
          unfold sigOk at hb
          rw [Bool.and_eq_true] at hb
          have h3 := hb.2
          cases cv <;> cases h3
      generalize hH : upd (upd H1 x (.ins A.Signature dx (putF "name" nv []))) x (.ins A.Signature dx (putF "count" cv (putF "name" nv []))) = H3
      have hx3 : H3 x = some (.ins A.Signature dx (putF "count" cv (putF "name" nv []))) := by rw [← hH, upd_same]
      have e3 : ∀ b o, b ≠ x → H1 b = some o → H3 b = some o := fun b o n hb => by rw [← hH, upd_ne n, upd_ne n]; exact hb
      have fin : ∀ H4 t, (∀ b o, b ≠ x → H3 b = some o → H4 b = some o) → SqT K H4 t xs → H4 x = some (.ins A.Signature dx (sigF nv cv t)) → Q .non H4 := fun H4 t e4 ht hx4 =>
        k1 hb H4 t (ex_del e1 fun b o n hb => e4 b o n (e3 b o n hb)) hx4 ht
      obtain ⟨a, rfl, h2⟩ := (hs.1.mono e1)
      have nl : ∀ o, H1 a = some o → (∀ C d f, o ≠ .ins C d f) → a ≠ x := fun o h n => ne_of h hx1 (n _ _ _)
      refine ⟨_, rfl, a, xs, rfl, ?_⟩
      rcases h2 with h2 | h2 | ⟨h2, _⟩
      · have na := nl _ h2 (by intro _ _ _ z; cases z)
        refine .inl ⟨SqL.of (e3 _ _ na h2), fun t ht => ?_⟩
        have nt : x ≠ t := ne_of_none hx3 ht
        refine ⟨_, rfl, x, _, dx, _, rfl, (by rw [upd_ne nt]; exact hx3), T.cl_Signature, T.na_Signature_sources, (by show 2 < 1000; decide), ?_⟩
        refine fin _ t (fun b o n hb => ?_) (SqT.of ?_) upd_same
        · rw [upd_ne n, upd_ne (ne_of_none hb ht)]
          exact hb
        · rw [upd_ne nt.symm, upd_same]
      · have na := nl _ h2 (by intro _ _ _ z; cases z)
        refine .inr ⟨SqT.of (e3 _ _ na h2), ?_⟩
        refine ⟨_, rfl, x, _, dx, _, rfl, hx3, T.cl_Signature, T.na_Signature_sources, (by show 2 < 1000; decide), ?_⟩
        refine fin _ a (fun b o n hb => by rw [upd_ne n]; exact hb) (SqT.of ?_) upd_same
        rw [upd_ne na]
        exact e3 _ _ na h2
      · have h5 := sqT_del hx1 h2
        refine .inr ⟨ex_t (ex_del (Ex.refl H1) e3) h5, ?_⟩
        refine ⟨_, rfl, x, _, dx, _, rfl, hx3, T.cl_Signature, T.na_Signature_sources, (by show 2 < 1000; decide), ?_⟩
        refine fin _ a (fun b o n hb => by rw [upd_ne n]; exact hb) ?_ upd_same
        exact ex_t (ex_del (Ex.refl H1) fun b o n hb => by rw [upd_ne n]; exact e3 b o n hb) h5
/-- a signature stands at a -/
def Sig (K : PySem.W.Frag) (C : Addr) (H : Hp) (a : Addr) (z : Str) (n : Int) (ns : List Int) : Prop := ∃ dx t, H a = some (.ins C dx (sigF (.str z) (.int n) t)) ∧ SqT K H t (ns.map V.int)
theorem Sig.mono {K : PySem.W.Frag} {C : Addr} {H H' : Hp} {a : Addr} {z : Str} {n : Int} {ns : List Int} (e : Ex H H') (h : Sig K C H a z n ns) : Sig K C H' a z n ns := by
  obtain ⟨dx, t, h1, h2⟩ := h
  exact ⟨dx, t, e _ _ h1, ex_t e h2⟩
theorem f_name (nv cv : V) (t : Addr) : (sigF nv cv t).lookup ("name" : Str) = some nv := rfl
theorem f_count (nv cv : V) (t : Addr) : (sigF nv cv t).lookup ("count" : Str) = some cv := rfl
theorem f_sources (nv cv : V) (t : Addr) : (sigF nv cv t).lookup ("sources" : Str) = some (.ref t) := rfl
/-- what stands on the right of == -/
def EqR (K : PySem.W.Frag) (C : Addr) (H : Hp) (z : Str) (n : Int) (ns : List Int) (y : V) (b : Bool) : Prop :=
  (∃ a' z' n' ns', y = .ref a' ∧ Sig K C H a' z' n' ns' ∧ b = (decide (z = z') && decide (n = n') && decide (ns = ns'))) ∨ (∃ s, y = .str s ∧ b = false) ∨ ∃ a' ys, y = .ref a' ∧ H a' = some (.tup ys) ∧ b = false
theorem eqvAll_ints : ∀ ns ms : List Int, PyData.eqvAll (ns.map PyData.int) (ms.map PyData.int) = decide (ns = ms)
  | [], [] => by simp [PyData.eqvAll]
  | [], _ :: _ => by simp [PyData.eqvAll]
  | _ :: _, [] => by simp [PyData.eqvAll]
  | x :: r, y :: t => by
    have ih := eqvAll_ints r t
    rw [List.map_cons, List.map_cons]
    unfold PyData.eqvAll
    rw [ih]
    show (decide (x = y) && decide (r = t)) = _
    by_cases h : x = y <;> by_cases h' : r = t <;> simp [h, h']
theorem eqv_list (ns ms : List Int) : PyData.eqv (.list (ns.map PyData.int)) (.list (ms.map PyData.int)) = decide (ns = ms) := eqvAll_ints ns ms
theorem eqv_tup (ns ms : List Int) : PyData.eqv (.tuple (ns.map PyData.int)) (.tuple (ms.map PyData.int)) = decide (ns = ms) := eqvAll_ints ns ms
theorem dp_ints {K : PySem.W.Frag} {H : Hp} : ∀ ns : List Int, DpAll K H (ns.map V.int) (ns.map PyData.int)
  | [] => .nil
  | n :: r => .cons (.int n) (dp_ints r)
theorem lay_ints : ∀ ns : List Int, PyData.canLayAll0 (ns.map PyData.int) = true ∧ PyData.depthAll (ns.map PyData.int) ≤ 1
  | [] => ⟨rfl, by simp [PyData.depthAll]⟩
  | n :: r => by
    obtain ⟨h1, h2⟩ := lay_ints r
    refine ⟨?_, ?_⟩
    · show (PyData.canLay0 (.int n) && PyData.canLayAll0 (r.map PyData.int)) = true
      rw [h1]
      rfl
    · simp only [List.map_cons, PyData.depthAll, PyData.depth]
      omega
theorem shaped_ints (ns : List Int) : SeqAt.shaped (.tuple (ns.map PyData.int)) = true ∧ SeqAt.shaped (.list (ns.map PyData.int)) = true := by
  obtain ⟨h1, h2⟩ := lay_ints ns
  refine ⟨?_, ?_⟩
  · unfold SeqAt.shaped
    rw [show PyData.canLay0 (.tuple (ns.map PyData.int)) = true by unfold PyData.canLay0; exact h1, Bool.true_and]
    refine decide_eq_true ?_
    simp only [PyData.depth]
    omega
  · unfold SeqAt.shaped
    rw [show PyData.canLay0 (.list (ns.map PyData.int)) = true by unfold PyData.canLay0; exact h1, Bool.true_and]
    refine decide_eq_true ?_
    simp only [PyData.depth]
    omega
def spSigEq (K : PySem.W.Frag) (C : Addr) : Sp := fun vs H Q _ => ∃ a z n ns y b, vs = [.ref a, y] ∧ Sig K C H a z n ns ∧ EqR K C H z n ns y b ∧ Q (.bl b) H
theorem ok_sig_eq (T : Tx0 w K mg A) : FnOk P w K mg base CX0 1 A.sig_eq A.d_sig_eq p_sig_eq (spSigEq K A.Signature) := by
  refine T.F_sig_eq.ok sc_sig_eq (fun vs H Q E h => ?_) (fun cdv Ar outer s H vs Q E hr h => ?_)
  · obtain ⟨a, z, n, ns, y, b, rfl, _⟩ := h
    rfl
  · obtain ⟨a, z, n, ns, y, b, rfl, ⟨dx, t, ha, ht⟩, hy, k⟩ := h
    refine ⟨_, (pss_one (ps_ret (pe_and (pe_callB call_isi (by rfl) T.m_isinstance (by decide +kernel) (pa_cons (pv 1) (pa_cons (pe_glob (v := .ref A.Signature) (by rfl) T.g_Signature rfl) pa_nil))) (pe_and (pe_cmpR op_eq (pe_fld (pv 0) rfl) (pe_fld (pv 1) rfl) (nomark _)) (pe_and (pe_cmpR op_eq (pe_fld (pv 0) rfl) (pe_fld (pv 1) rfl) (nomark _)) (pe_one (pe_cmpR (op_eqD hr.units) (pe_fld (pv 0) rfl) (pe_fld (pv 1) rfl) (nomark _)))))))), ?_⟩
    rcases hy with ⟨a', z', n', ns', rfl, ⟨dx', t', ha', ht'⟩, rfl⟩ | ⟨s', rfl, rfl⟩ | ⟨a', ys, rfl, h', rfl⟩
    · refine ⟨_, rfl, .ref a', _, _, _, _, rfl, .own A.Signature, tyx_ins ha' T.cl_Signature T.ty_Signature, T.ks_own, _, rfl, iteT ?_⟩
      refine ⟨_, rfl, a, _, dx, _, _, rfl, ha, T.cl_Signature, T.na_Signature_name, f_name _ _ _, _, rfl, a', _, dx', _, _, rfl, ha', T.cl_Signature, T.na_Signature_name, f_name _ _ _, rfl, _, rfl, ?_⟩
      rw [show decide (V.str z = V.str z') = decide (z = z') by by_cases e : z = z' <;> simp [e]]
      by_cases e1 : z = z'
      · rw [decide_eq_true e1]
        refine iteT ?_
        refine ⟨_, rfl, a, _, dx, _, _, rfl, ha, T.cl_Signature, T.na_Signature_count, f_count _ _ _, _, rfl, a', _, dx', _, _, rfl, ha', T.cl_Signature, T.na_Signature_count, f_count _ _ _, rfl, _, rfl, ?_⟩
        rw [show decide (V.int n = V.int n') = decide (n = n') by by_cases e : n = n' <;> simp [e]]
        by_cases e2 : n = n'
        · rw [decide_eq_true e2]
          refine iteT ?_
          refine ⟨_, rfl, a, _, dx, _, _, rfl, ha, T.cl_Signature, T.na_Signature_sources, f_sources _ _ _, _, rfl, a', _, dx', _, _, rfl, ha', T.cl_Signature, T.na_Signature_sources, f_sources _ _ _, ?_⟩
          refine ⟨_, _, .tup ht (dp_ints ns), .tup ht' (dp_ints ns'), (shaped_ints ns).1, (shaped_ints ns').1, ?_⟩
          rw [eqv_tup]
          rw [decide_eq_true e1, decide_eq_true e2, Bool.true_and, Bool.true_and] at k
          exact k
        · rw [decide_eq_false e2]
          rw [decide_eq_false e2, Bool.and_false, Bool.false_and] at k
          exact iteF k
      · rw [decide_eq_false e1]
        rw [decide_eq_false e1, Bool.false_and, Bool.false_and] at k
        exact iteF k
    · exact ⟨_, rfl, .str s', _, _, _, _, rfl, .own A.Signature, .base (.str s'), T.ks_str, _, rfl, iteF k⟩
    · exact ⟨_, rfl, .ref a', _, _, _, _, rfl, .own A.Signature, .base (.tup h'), T.ks_tup, _, rfl, iteF k⟩
/-! ### drawn names -/
def tlL : List Nat := tl "abcdefghijklmnopqrstuvwxyz"
def tlD : List Nat := tl "0123456789"
def isD (c : Nat) : Bool := decide (c ∈ tlD)
def digs (z : Str) : List Nat := (tl z).filter isD
structure Wd (k : Int) (z : Str) : Prop where
  num : digs z = tl (Str.ofString (toString k))
  first : ∃ c r, tl z = c :: r ∧ c ∈ tlL
  all : ∀ c ∈ tl z, alnum c = true
  len : 2 ≤ z.length ∧ z.length ≤ 8
  dig : ∃ c ∈ tl z, c ∈ tlD
theorem alL {c : Nat} (h : c ∈ tlL) : alnum c = true := by
  unfold alnum
  rw [show decide (c ∈ tl "abcdefghijklmnopqrstuvwxyz") = true from decide_eq_true h, Bool.true_or]
theorem alD {c : Nat} (h : c ∈ tlD) : alnum c = true := by
  unfold alnum
  rw [show decide (c ∈ tl "0123456789") = true from decide_eq_true h, Bool.or_true]
theorem nodig : ∀ w ∈ wordsS, ∀ c ∈ tl w, c ∉ tlD := by decide +kernel
theorem Wd.ok {k : Int} {z : Str} (h : Wd k z) : okS z = true := by
  obtain ⟨_, ⟨c, r, hcr, hc⟩, h2, ⟨h3, h4⟩, d, hd, hdd⟩ := h
  have hi : inV (.str z) kWords = false := by
    unfold inV
    rw [List.any_eq_false]
    intro y hy
    rw [kWords_eq] at hy
    obtain ⟨w, hw, rfl⟩ := List.mem_map.mp hy
    intro e
    have e1 : w = z := by
      have : (w == z) = true := e
      simpa using this
    subst e1
    exact nodig w hw d hd hdd
  unfold okS
  rw [hi, List.all_eq_true.mpr h2, hcr, decide_eq_true (show 1 ≤ z.length by omega), decide_eq_true h4]
  show (true && true && decide (c ∈ tl "abcdefghijklmnopqrstuvwxyz") && !false && true) = true
  rw [show decide (c ∈ tl "abcdefghijklmnopqrstuvwxyz") = true from decide_eq_true hc]
  rfl
theorem dig_mem {c : Nat} (h : 48 ≤ c ∧ c ≤ 57) : c ∈ tlD := by
  have : c = 48 ∨ c = 49 ∨ c = 50 ∨ c = 51 ∨ c = 52 ∨ c = 53 ∨ c = 54 ∨ c = 55 ∨ c = 56 ∨ c = 57 := by omega
  rcases this with h | h | h | h | h | h | h | h | h | h <;> (subst h; decide +kernel)
theorem num_ok {k : Int} (h0 : 0 ≤ k) (h1 : k < 100) : (∀ c ∈ tl (Str.ofString (toString k)), c ∈ tlD) ∧ 1 ≤ (tl (Str.ofString (toString k))).length ∧ (tl (Str.ofString (toString k))).length ≤ 2 := by
  obtain ⟨n, rfl⟩ := Int.eq_ofNat_of_zero_le h0
  rw [tl_num]
  refine ⟨fun c hc => dig_mem (numL_digits n c hc), ?_, numL_len (by decide) (by omega)⟩
  have := numL_ne n
  cases e : numL n with
  | nil => exact absurd e this
  | cons a r => show 1 ≤ r.length + 1; omega
theorem isD_L {c : Nat} (h : c ∈ tlL) : isD c = false := by
  have : ∀ c ∈ tlL, isD c = false := by decide +kernel
  exact this c h
theorem digs_L {y : Str} (h : ∀ c ∈ tl y, c ∈ tlL) : digs y = [] := List.filter_eq_nil_iff.mpr fun c hc => by rw [isD_L (h c hc)]; simp
theorem digs_app (z y : Str) : digs (z ++ y) = digs z ++ digs y := by
  unfold digs
  rw [tl_append, List.filter_append]
theorem wd_num {c : Nat} {k : Int} (hc : c ∈ tlL) (h0 : 0 ≤ k) (h1 : k < 100) : Wd k ((⟨#[c]⟩ : Str) ++ Str.ofString (toString k)) ∧ ((⟨#[c]⟩ : Str) ++ Str.ofString (toString k)).length ≤ 3 := by
  obtain ⟨n1, n2, n3⟩ := num_ok h0 h1
  have e : tl ((⟨#[c]⟩ : Str) ++ Str.ofString (toString k)) = c :: tl (Str.ofString (toString k)) := by rw [tl_append]; rfl
  have el : ((⟨#[c]⟩ : Str) ++ Str.ofString (toString k)).length = (tl (Str.ofString (toString k))).length + 1 := by rw [len_tl, e]; rfl
  refine ⟨⟨?_, ⟨c, _, e, hc⟩, fun d hd => ?_, by omega, ?_⟩, by omega⟩
  · unfold digs
    rw [e, List.filter_cons_of_neg (by rw [isD_L hc]; simp), List.filter_eq_self]
    exact fun x hx => decide_eq_true (n1 x hx)
  · rw [e] at hd
    rcases List.mem_cons.mp hd with rfl | hd
    · exact alL hc
    · exact alD (n1 d hd)
  · cases q : tl (Str.ofString (toString k)) with
    | nil =>
      rw [q] at n2
      exact absurd n2 (by decide)
    | cons a r =>
      exact ⟨a, by rw [e, q]; exact List.mem_cons_of_mem _ List.mem_cons_self, n1 a (by rw [q]; exact List.mem_cons_self)⟩
theorem wd_back {k : Int} {z y : Str} (h : Wd k z) (hy : ∀ c ∈ tl y, c ∈ tlL) (hl : z.length + y.length ≤ 8) : Wd k (z ++ y) := by
  obtain ⟨hk, ⟨c, r, hcr, hc⟩, h2, h3, d, hd, hdd⟩ := h
  have el : (z ++ y).length = z.length + y.length := by rw [len_tl, tl_append, List.length_append, ← len_tl, ← len_tl]
  refine ⟨by rw [digs_app, digs_L hy, List.append_nil]; exact hk, ⟨c, r ++ tl y, by rw [tl_append, hcr]; rfl, hc⟩, fun q hq => ?_, by omega, d, by rw [tl_append]; exact List.mem_append_left _ hd, hdd⟩
  rw [tl_append] at hq
  rcases List.mem_append.mp hq with hq | hq
  · exact h2 q hq
  · exact alL (hy q hq)
theorem wd_front {k : Int} {z : Str} {c : Nat} (h : Wd k z) (hc : c ∈ tlL) (hl : z.length ≤ 7) : Wd k ((⟨#[c]⟩ : Str) ++ z) := by
  obtain ⟨hk, _, h2, h3, d, hd, hdd⟩ := h
  have e : tl ((⟨#[c]⟩ : Str) ++ z) = c :: tl z := by rw [tl_append]; rfl
  have el : ((⟨#[c]⟩ : Str) ++ z).length = z.length + 1 := by rw [len_tl, e, List.length_cons, ← len_tl]
  refine ⟨by rw [digs_app, digs_L (fun q hq => by rw [List.mem_singleton.mp (show q ∈ [c] from hq)]; exact hc), List.nil_append]; exact hk, ⟨c, _, e, hc⟩, fun q hq => ?_, by omega, d, by rw [e]; exact List.mem_cons_of_mem _ hd, hdd⟩
  rw [e] at hq
  rcases List.mem_cons.mp hq with rfl | hq
  · exact alL hc
  · exact h2 q hq
theorem cut_q {z : Str} (h : z.length ≤ 8) : (∀ c ∈ tl (cutS "qqqqqqqq" (some (z.length : Int)) none), c ∈ tlL) ∧ (cutS "qqqqqqqq" (some (z.length : Int)) none).length = 8 - z.length := by
  have : ∀ n : Nat, n ≤ 8 → (∀ c ∈ tl (cutS "qqqqqqqq" (some (n : Int)) none), c ∈ tlL) ∧ (cutS "qqqqqqqq" (some (n : Int)) none).length = 8 - n := by
    intro n hn
    have hn : n = 0 ∨ n = 1 ∨ n = 2 ∨ n = 3 ∨ n = 4 ∨ n = 5 ∨ n = 6 ∨ n = 7 ∨ n = 8 := by omega
    rcases hn with h | h | h | h | h | h | h | h | h <;> (subst h; decide +kernel)
  exact this _ h
def plainS : List Str := ["a", "x", "new", "b", "user", "copy", "ends", "z", "elses", "n", "dea", "deads", "pic", "thens", "funs", "y"]
theorem plain_ok : ∀ z ∈ plainS, okS z = true := by decide +kernel
theorem okS_len {z : Str} (h : okS z = true) : z.length ≤ 8 := by
  unfold okS at h
  rw [Bool.and_eq_true, Bool.and_eq_true, Bool.and_eq_true, Bool.and_eq_true] at h
  exact of_decide_eq_true h.1.1.1.2
theorem nm_at {k : Int} {z : Str} (h0 : 0 ≤ k) (h1 : k < 16) (h : atI plainS k = some z) : plainS[k.toNat]? = some z := by
  obtain ⟨m, rfl⟩ := Int.eq_ofNat_of_zero_le h0
  have hm : m < plainS.length := by show m < 16; omega
  rw [atI_nat (List.getElem?_eq_getElem hm)] at h
  rw [show ((m : Int)).toNat = m from Int.toNat_natCast m, List.getElem?_eq_getElem hm]
  exact h
def NmOf (k : Int) (z : Str) : Prop := digs z = tl (Str.ofString (toString k)) ∨ (k < 16 ∧ plainS[k.toNat]? = some z)
def spName : Sp := fun vs H Q _ => ∃ d k, vs = [.ref d, .int k] ∧ H d = some (DrO d) ∧ 0 ≤ k ∧ k < 100 ∧ ∀ z H', okS z = true → NmOf k z → Ex H H' → Q (.str z) H'
theorem ok_name (T : Tx0 w K mg A) : FnOk P w K mg base CX0 2 A.name A.d_name p_name spName := by
  refine T.F_name.ok sc_name (fun vs H Q E h => ?_) (fun cdv Ar outer s H vs Q E hr h => ?_)
  · obtain ⟨d, k, rfl, _⟩ := h
    rfl
  · obtain ⟨d, k, rfl, hd, k0, k1, q⟩ := h
    refine ⟨_, (pss_cons (ps_set (i := 2) sc_name.nd rfl (Or.inl rfl) pe_str)
      (pss_cons (ps_set (i := 3) sc_name.nd rfl (Or.inl rfl) (pe_lst (pa_cons pe_str (pa_cons pe_str (pa_cons pe_str (pa_cons pe_str (pa_cons pe_str (pa_cons pe_str (pa_cons pe_str (pa_cons pe_str (pa_cons pe_str (pa_cons pe_str (pa_cons pe_str (pa_cons pe_str (pa_cons pe_str (pa_cons pe_str (pa_cons pe_str (pa_cons pe_str pa_nil))))))))))))))))))
      (pss_cons (ps_set (i := 4) sc_name.nd rfl (Or.inl rfl) (pe_call (ok_take T) (hr.mono (by decide)) (by rfl) T.g_take T.F_take.kp T.b_take .nil pass0 (pa_cons (pv 0) (pa_cons pe_int pa_nil))))
      (Evl.pss_cut (ps_if (PW.pt (pw_and (pt_cmpR op_eq (pv 4) pe_int (nomark _)) (pw_and1 (pt_cmpR op_lt (pv 1) pe_int (nomark _))))) (pss_one (ps_ret (pe_ix ix_list (pv 3) (pv 1) (fun _ _ => rfl)))) pss_nil)
      (pss_cons (ps_set (i := 5) sc_name.nd rfl (Or.inl rfl) (pe_op op_add_str (pe_ix ix_str (pv 2) (pe_call (ok_take T) (hr.mono (by decide)) (by rfl) T.g_take T.F_take.kp T.b_take .nil pass0 (pa_cons (pv 0) (pa_cons pe_int pa_nil))) (fun _ _ => rfl)) (pe_callTy call_str_int (by rfl) T.m_str (by decide +kernel) (pa_cons (pv 1) pa_nil))))
      (Evl.pss_cut (ps_if (pt_cmpR op_eq (pv 4) pe_int (nomark _)) (pss_one (ps_set (i := 5) sc_name.nd rfl (Or.inl rfl) (pe_op op_add_str pe_str (pe_callTy call_str_int (by rfl) T.m_str (by decide +kernel) (pa_cons (pv 1) pa_nil))))) pss_nil)
      (Evl.pss_cut (ps_if (pt_cmpR op_eq (pv 4) pe_int (nomark _)) (pss_one (ps_set (i := 5) sc_name.nd rfl (Or.inl rfl) (pe_op op_add_str (pv 5) (pe_ix ix_str (pv 2) (pe_call (ok_take T) (hr.mono (by decide)) (by rfl) T.g_take T.F_take.kp T.b_take .nil pass0 (pa_cons (pv 0) (pa_cons pe_int pa_nil))) (fun _ _ => rfl))))) pss_nil)
      (Evl.pss_cut (ps_if (pt_cmpR op_eq (pv 4) pe_int (nomark _)) (pss_one (ps_set (i := 5) sc_name.nd rfl (Or.inl rfl) (pe_op op_add_str (pe_ix ix_str (pv 2) (pe_call (ok_take T) (hr.mono (by decide)) (by rfl) T.g_take T.F_take.kp T.b_take .nil pass0 (pa_cons (pv 0) (pa_cons pe_int pa_nil))) (fun _ _ => rfl)) (pv 5)))) pss_nil)
      (Evl.pss_cut (ps_if (pt_cmpR op_eq (pv 4) pe_int (nomark _)) (pss_one (ps_set (i := 5) sc_name.nd rfl (Or.inl rfl) (pe_op op_add_str (pv 5) (pe_slice sl_str pe_str (po_some (pe_callB call_len_str (by rfl) T.m_len PySem.boot_len (pa_cons (pv 5) pa_nil))) po_none)))) pss_nil)
      (pss_one (ps_ret (pv 5)))))))))))), ?_⟩
    refine ⟨sz_of (by show 16 ≤ 100000; decide), fun p hp => ?_⟩
    have e1 := Ex.new (o := .lst (plainS.map V.str)) hp
    have hd1 := e1 _ _ hd
    refine ⟨_, rfl, d, _, rfl, hd1, by decide, fun s s0 s1 => ?_⟩
    have hp1 : upd H p (.lst (plainS.map V.str)) p = some (.lst (plainS.map V.str)) := upd_same
    revert hp1 e1 hd1
    show Ex H (upd H p (.lst (plainS.map V.str))) → upd H p (.lst (plainS.map V.str)) d = some (DrO d) → upd H p (.lst (plainS.map V.str)) p = some (.lst (plainS.map V.str)) → tCut _ _ _ _ (upd H p (.lst (plainS.map V.str)))
    generalize upd H p (.lst (plainS.map V.str)) = H1
    intro e1 hd1 hp1
    let S0 : Option V → L2.St := fun v5 => [some (.ref d), some (.int k), some (.str "abcdefghijklmnopqrstuvwxyz"), some (.ref p), some (.int s), v5]
    refine ⟨fun σ' H' => σ' = S0 none ∧ H' = H1, ?_, ?_⟩
    · refine ⟨_, rfl, rfl, _, rfl, ite2 (fun _ => ?_) (fun _ => iteF ⟨rfl, rfl⟩)⟩
      refine ⟨_, rfl, k, 16, rfl, rfl, _, rfl, ite2 (fun h => ?_) (fun _ => ⟨rfl, rfl⟩)⟩
      have hk : k < 16 := of_decide_eq_true h
      obtain ⟨z, hz, hm⟩ := at_in (xs := plainS) k0 (show k < 16 from hk)
      refine ⟨_, rfl, _, rfl, p, _, k, .str z, rfl, rfl, SqL.of hp1, ?_, q z H1 (plain_ok z hm) (.inr ⟨hk, nm_at k0 hk hz⟩) e1⟩
      obtain ⟨m, rfl⟩ := Int.eq_ofNat_of_zero_le k0
      have hm2 : m < plainS.length := by show m < 16; omega
      rw [atI_nat (List.getElem?_eq_getElem hm2)] at hz
      rw [← Option.some.inj hz]
      refine atI_nat ?_
      rw [List.getElem?_map, List.getElem?_eq_getElem hm2]
      rfl
    rintro σ' H' ⟨rfl, rfl⟩
    have one : ∀ c : Nat, (⟨#[c]⟩ : Str).length = 1 := fun _ => rfl
    have lg : k.natAbs.log2 < 1920 := by
      have h1 : k.natAbs < 2 ^ 1920 := Nat.lt_of_lt_of_le (show k.natAbs < 128 by omega) (by decide +kernel)
      by_cases hz : k.natAbs = 0
      · rw [hz]
        decide
      · exact (Nat.log2_lt hz).mpr h1
    have szn : ∀ c : Nat, (⟨#[c]⟩ : Str).length + (Str.ofString (toString k)).length ≤ sizeLine := fun c => sz_of (by have := (num_ok k0 k1).2.2; rw [one, len_tl]; omega)
    -- word = letter + str(k)
    refine ⟨_, rfl, _, rfl, d, _, rfl, hd1, by decide, fun n n0 n1 => ?_⟩
    obtain ⟨c, hc, hm⟩ := at_in (xs := tl "abcdefghijklmnopqrstuvwxyz") n0 (show n < 26 from n1)
    refine ⟨_, n, c, rfl, rfl, by decide, hc, _, rfl, k, rfl, lg, _, _, rfl, rfl, szn c, ?_⟩
    obtain ⟨w0, l0⟩ := wd_num (c := c) hm k0 k1
    generalize ((⟨#[c]⟩ : Str) ++ Str.ofString (toString k)) = z0 at w0 l0
    -- shape 1
    refine ⟨fun σ' Hn => ∃ z, Wd k z ∧ z.length ≤ 3 ∧ σ' = S0 (some (.str z)) ∧ Hn = H', ?_, ?_⟩
    · refine ⟨_, rfl, rfl, _, rfl, ite2 (fun _ => ?_) (fun _ => ⟨z0, w0, l0, rfl, rfl⟩)⟩
      obtain ⟨w1, l1⟩ := wd_num (c := 110) (by decide +kernel) k0 k1
      exact ⟨_, rfl, k, rfl, lg, _, _, rfl, rfl, szn 110, _, w1, l1, rfl, rfl⟩
    rintro σ' Hb ⟨z1, w1, l1, rfl, rfl⟩
    -- shape 2
    refine ⟨fun σ' H2 => ∃ z, Wd k z ∧ z.length ≤ 4 ∧ σ' = S0 (some (.str z)) ∧ H2 = Hb, ?_, ?_⟩
    · refine ⟨_, rfl, rfl, _, rfl, ite2 (fun _ => ?_) (fun _ => ⟨z1, w1, by omega, rfl, rfl⟩)⟩
      refine ⟨_, rfl, _, rfl, _, rfl, d, _, rfl, hd1, by decide, fun n n0 n1 => ?_⟩
      obtain ⟨c, hc, hm⟩ := at_in (xs := tl "abcdefghijklmnopqrstuvwxyz") n0 (show n < 26 from n1)
      refine ⟨_, n, c, rfl, rfl, by decide, hc, _, _, rfl, rfl, sz_of (by rw [one]; omega), _, wd_back w1 (y := ⟨#[c]⟩) (fun q hq => ?_) (by rw [one]; omega), ?_, rfl, rfl⟩
      · rw [List.mem_singleton.mp (show q ∈ [c] from hq)]
        exact hm
      · rw [len_tl, tl_append, List.length_append, ← len_tl, ← len_tl, one]
        omega
    rintro σ' H2 ⟨z2, w2, l2, rfl, rfl⟩
    -- shape 3
    refine ⟨fun σ' H3 => ∃ z, Wd k z ∧ z.length ≤ 5 ∧ σ' = S0 (some (.str z)) ∧ H3 = H2, ?_, ?_⟩
    · refine ⟨_, rfl, rfl, _, rfl, ite2 (fun _ => ?_) (fun _ => ⟨z2, w2, by omega, rfl, rfl⟩)⟩
      refine ⟨_, rfl, _, rfl, d, _, rfl, hd1, by decide, fun n n0 n1 => ?_⟩
      obtain ⟨c, hc, hm⟩ := at_in (xs := tl "abcdefghijklmnopqrstuvwxyz") n0 (show n < 26 from n1)
      refine ⟨_, n, c, rfl, rfl, by decide, hc, _, rfl, _, _, rfl, rfl, sz_of (by rw [one]; omega), _, wd_front w2 hm (by omega), ?_, rfl, rfl⟩
      rw [len_tl, tl_append, List.length_append, ← len_tl, ← len_tl, one]
      omega
    rintro σ' H3 ⟨z3, w3, l3, rfl, rfl⟩
    -- shape 4
    refine ⟨fun σ' H4 => ∃ z, Wd k z ∧ σ' = S0 (some (.str z)) ∧ H4 = H3, ?_, ?_⟩
    · refine ⟨_, rfl, rfl, _, rfl, ite2 (fun _ => ?_) (fun _ => ⟨z3, w3, rfl, rfl⟩)⟩
      obtain ⟨q1, q2⟩ := cut_q (z := z3) (by omega)
      refine ⟨_, rfl, _, rfl, z3, rfl, sz_of (by omega), _, rfl, _, rfl, by decide, _, _, rfl, rfl, sz_of (by omega), _, wd_back w3 q1 (by omega), rfl, rfl⟩
    rintro σ' H4 ⟨z4, w4, rfl, rfl⟩
    exact ⟨_, rfl, q z4 _ w4.ok (.inl w4.num) e1⟩
/-- strictly ascending numbers from 1 to n -/
def Asc (n : Int) (ns : List Int) : Prop := ns.Pairwise (· < ·) ∧ ∀ m ∈ ns, 1 ≤ m ∧ m ≤ n
theorem asc_ok {n : Int} : ∀ (ns : List Int) (l : Int), ns.Pairwise (· < ·) → (∀ m ∈ ns, l ≤ m ∧ m ≤ n) → okSrc n l (ns.map V.int) = true
  | [], _, _, _ => rfl
  | m :: r, l, hp, hb => by
    obtain ⟨h1, h2⟩ := List.pairwise_cons.mp hp
    have hm := hb m List.mem_cons_self
    show (inI (.int m) l n && okSrc n (m + 1) (r.map V.int)) = true
    rw [show inI (.int m) l n = true by show (decide (l ≤ m) && decide (m ≤ n)) = true; rw [decide_eq_true hm.1, decide_eq_true hm.2]; rfl, Bool.true_and]
    exact asc_ok r (m + 1) h2 fun q hq => ⟨by have := h1 q hq; omega, (hb q (List.mem_cons_of_mem _ hq)).2⟩
theorem asc_len {n : Int} (hn : n ≤ 4) : ∀ ns : List Int, Asc n ns → ns.length ≤ 4 := fun ns h => by
  obtain ⟨h1, h2⟩ := h
  match ns, h1, h2 with
  | [], _, _ => decide
  | [_], _, _ => exact (by decide : 1 ≤ 4)
  | [_, _], _, _ => exact (by decide : 2 ≤ 4)
  | [_, _, _], _, _ => exact (by decide : 3 ≤ 4)
  | [_, _, _, _], _, _ => exact (by decide : 4 ≤ 4)
  | a :: b :: c :: e :: f :: r, h1, h2 =>
    exfalso
    obtain ⟨p1, q1⟩ := List.pairwise_cons.mp h1
    obtain ⟨p2, q2⟩ := List.pairwise_cons.mp q1
    obtain ⟨p3, q3⟩ := List.pairwise_cons.mp q2
    obtain ⟨p4, q4⟩ := List.pairwise_cons.mp q3
    have a1 := (h2 a (by simp)).1
    have f1 := (h2 f (by simp)).2
    have b1 := p1 b (by simp)
    have c1 := p2 c (by simp)
    have e1 := p3 e (by simp)
    have g1 := p4 f (by simp)
    omega
theorem alnum_lt : ∀ c : Nat, alnum c = true → c < 0x110000 := fun c h => by
  rw [alnum36] at h
  have h1 : c ∈ tl36 := of_decide_eq_true h
  have h2 : ∀ c ∈ tl36, c < 0x110000 := by decide +kernel
  exact h2 c h1
theorem okS_allC {z : Str} (h : okS z = true) : ∀ c ∈ tl z, alnum c = true := by
  unfold okS at h
  rw [Bool.and_eq_true] at h
  exact List.all_eq_true.mp h.2
theorem okS_str {z : Str} (h : okS z = true) : PyData.strOk z = true := by
  unfold PyData.strOk
  rw [← Array.all_toList, List.all_eq_true]
  exact fun c hc => decide_eq_true (alnum_lt c (okS_allC h c hc))
theorem sigOk_asc {z : Str} {n : Int} {ns : List Int} (hz : okS z = true) (h0 : 0 ≤ n) (h4 : n ≤ 4) (ha : Asc n ns) : sigOk (.str z) (.int n) (some (ns.map V.int)) = true := by
  unfold sigOk
  rw [show nm (.str z) = true from hz, show inI (.int n) 0 4 = true by show (decide (0 ≤ n) && decide (n ≤ 4)) = true; rw [decide_eq_true h0, decide_eq_true h4]; rfl]
  exact asc_ok ns 1 ha.1 ha.2
/-- three parts as data -/
def dP (z : Str) (n : Int) (ns : List Int) : PyData := .list [.str z, .int n, .list (ns.map PyData.int)]
theorem dP_eqv {z z' : Str} {n n' : Int} {ns ns' : List Int} : PyData.eqv (dP z n ns) (dP z' n' ns') = (decide (z = z') && decide (n = n') && decide (ns = ns')) := by
  unfold dP PyData.eqv PyData.eqvAll
  rw [show PyData.eqv (.str z) (.str z') = decide (z = z') by unfold PyData.eqv; by_cases e : z = z' <;> simp [e]]
  unfold PyData.eqvAll
  rw [show PyData.eqv (.int n) (.int n') = decide (n = n') by unfold PyData.eqv; by_cases e : n = n' <;> simp [e]]
  unfold PyData.eqvAll
  rw [eqv_list]
  unfold PyData.eqvAll
  rw [Bool.and_true, Bool.and_assoc]
theorem dP_shaped {z : Str} {n : Int} {ns : List Int} (hz : okS z = true) : SeqAt.shaped (dP z n ns) = true := by
  obtain ⟨h1, h2⟩ := lay_ints ns
  unfold SeqAt.shaped dP
  rw [Bool.and_eq_true]
  refine ⟨?_, decide_eq_true ?_⟩
  · simp only [PyData.canLay0, PyData.canLayAll0, h1, okS_str hz, Bool.and_true]
  · simp only [PyData.depth, PyData.depthAll]
    omega
theorem dP_dp {K : PySem.W.Frag} {H : Hp} {a p : Addr} {z : Str} {n : Int} {ns : List Int} (ha : H a = some (.lst [.str z, .int n, .ref p])) (hp : SqL K H p (ns.map V.int)) : Dp K H (.ref a) (dP z n ns) :=
  .lst (SqL.of ha) (.cons (.str z) (.cons (.int n) (.cons (.lst hp (dp_ints ns)) .nil)))
/-- a row: name, count and sources of a good signature -/
abbrev Rw := Str × Int × List Int
def RowAt (H : Hp) (p : Addr) (r : Rw) : Prop := ∃ l, H p = some (.lst [.str r.1, .int r.2.1, .ref l]) ∧ H l = some (.lst (r.2.2.map V.int))
def good (r : Rw) : Prop := okS r.1 = true ∧ (0 ≤ r.2.1 ∧ r.2.1 ≤ 4) ∧ Asc r.2.1 r.2.2
theorem RowAt.mono {H H' : Hp} {p : Addr} {r : Rw} (e : Ex H H') (h : RowAt H p r) : RowAt H' p r := by
  obtain ⟨l, h1, h2⟩ := h
  exact ⟨l, e _ _ h1, e _ _ h2⟩
inductive All2 {α β : Type} (R : α → β → Prop) : List α → List β → Prop
  | nil : All2 R [] []
  | cons {a b as bs} : R a b → All2 R as bs → All2 R (a :: as) (b :: bs)
theorem All2.imp {α β : Type} {R S : α → β → Prop} (f : ∀ a b, R a b → S a b) : ∀ {as bs}, All2 R as bs → All2 S as bs
  | _, _, .nil => .nil
  | _, _, .cons h t => .cons (f _ _ h) (t.imp f)
theorem All2.len {α β : Type} {R : α → β → Prop} : ∀ {as : List α} {bs : List β}, All2 R as bs → as.length = bs.length
  | _, _, .nil => rfl
  | _, _, .cons _ t => congrArg (· + 1) t.len
theorem All2.snoc {α β : Type} {R : α → β → Prop} {a b} (h : R a b) : ∀ {as bs}, All2 R as bs → All2 R (as ++ [a]) (bs ++ [b])
  | _, _, .nil => .cons h .nil
  | _, _, .cons h1 t => .cons h1 (t.snoc h)
theorem All2.at {α β : Type} {R : α → β → Prop} : ∀ {as : List α} {bs : List β}, All2 R as bs → ∀ {i : Nat} {b : β}, bs[i]? = some b → ∃ a, as[i]? = some a ∧ R a b
  | _, _, .cons h _, 0, _, hb => ⟨_, rfl, by cases hb; exact h⟩
  | _, _, .cons _ t, _ + 1, _, hb => t.at (i := _) hb
theorem All2.set {α β : Type} {R : α → β → Prop} {a b} (h : R a b) : ∀ {as : List α} {bs : List β}, All2 R as bs → ∀ i, All2 R (as.set i a) (bs.set i b)
  | _, _, .nil, _ => .nil
  | _, _, .cons _ t, 0 => .cons h t
  | _, _, .cons h1 t, i + 1 => .cons h1 (t.set h i)
def RowsAt (H : Hp) (p : Addr) (as : List Addr) (rs : List Rw) : Prop := H p = some (.lst (as.map V.ref)) ∧ All2 (RowAt H) as rs
theorem rows_mono {H H' : Hp} (e : Ex H H') {as : List Addr} {rs : List Rw} (h : All2 (RowAt H) as rs) : All2 (RowAt H') as rs := h.imp fun _ _ h => h.mono e
theorem rows_upd {H : Hp} {D : Addr} {as : List Addr} {rs : List Rw} {X : HO} (hD : H D = some (.lst (as.map V.ref))) (h : All2 (RowAt H) as rs) : All2 (RowAt (upd H D X)) as rs := by
  cases as with
  | nil =>
    cases h
    exact .nil
  | cons a0 t =>
    refine h.imp fun a r h => ?_
    obtain ⟨l, h1, h2⟩ := h
    refine ⟨l, ?_, ?_⟩
    · rw [upd_ne]
      · exact h1
      · rintro rfl
        rw [hD] at h1
        cases h1
    · rw [upd_ne]
      · exact h2
      · rintro rfl
        rw [hD] at h2
        have h3 := Option.some.inj h2
        injection h3 with h4
        cases hr : r.2.2 with
        | nil => rw [hr] at h4; cases h4
        | cons m q => rw [hr] at h4; cases h4
theorem rows_put {H : Hp} {D a : Addr} {as : List Addr} {rs : List Rw} {r : Rw} (j : Nat) (h : RowsAt H D as rs) (hr : RowAt (upd H D (.lst ((as.map V.ref).set j (.ref a)))) a r) : RowsAt (upd H D (.lst ((as.map V.ref).set j (.ref a)))) D (as.set j a) (rs.set j r) :=
  ⟨by rw [upd_same, List.map_set], (rows_upd h.1 h.2).set hr j⟩
theorem good_put {rs : List Rw} {r : Rw} {j : Nat} (h : ∀ x ∈ rs, good x) (hr : good r) : ∀ x ∈ rs.set j r, good x := fun x hx => by
  rcases List.mem_or_eq_of_mem_set hx with h1 | h1
  · exact h x h1
  · rw [h1]
    exact hr
theorem at_strs {xs : List Str} {n : Int} (h0 : 0 ≤ n) (h1 : n < (xs.length : Int)) : ∃ x, atI (xs.map V.str) n = some (.str x) ∧ x ∈ xs := by
  obtain ⟨m, rfl⟩ := Int.eq_ofNat_of_zero_le h0
  have hm : m < xs.length := by omega
  exact ⟨xs[m], atI_nat (by rw [List.getElem?_map, List.getElem?_eq_getElem hm]; rfl), List.getElem_mem hm⟩
theorem at_ints {xs : List Int} {n : Int} (h0 : 0 ≤ n) (h1 : n < (xs.length : Int)) : ∃ x, atI (xs.map V.int) n = some (.int x) ∧ x ∈ xs := by
  obtain ⟨m, rfl⟩ := Int.eq_ofNat_of_zero_le h0
  have hm : m < xs.length := by omega
  exact ⟨xs[m], atI_nat (by rw [List.getElem?_map, List.getElem?_eq_getElem hm]; rfl), List.getElem_mem hm⟩
theorem inV_strs (w : Str) (zs : List Str) : inV (.str w) (zs.map V.str) = decide (w ∈ zs) := by
  unfold inV
  rw [List.any_map]
  by_cases h : w ∈ zs
  · rw [decide_eq_true h, List.any_eq_true]
    exact ⟨w, h, by show (w == w) = true; exact beq_self_eq_true w⟩
  · rw [decide_eq_false h, List.any_eq_false]
    intro y hy e
    have e1 : (y == w) = true := e
    exact h (by rw [← (beq_iff_eq.mp e1)]; exact hy)
theorem All2.at' {α β : Type} {R : α → β → Prop} : ∀ {as : List α} {bs : List β}, All2 R as bs → ∀ {i : Nat} {a : α}, as[i]? = some a → ∃ b, bs[i]? = some b ∧ R a b
  | _, _, .cons h _, 0, _, hb => ⟨_, rfl, by cases hb; exact h⟩
  | _, _, .cons _ t, _ + 1, _, hb => t.at' (i := _) hb
def SigR (K : PySem.W.Frag) (C : Addr) (H : Hp) (a : Addr) (r : Rw) : Prop := Sig K C H a r.1 r.2.1 r.2.2
theorem Sig.upd {K : PySem.W.Frag} {C : Addr} {H : Hp} {D a : Addr} {ys : List V} {X : HO} {z : Str} {n : Int} {ns : List Int} (hD : H D = some (.lst ys)) (h : Sig K C H a z n ns) : Sig K C (upd H D X) a z n ns := by
  obtain ⟨dx, t, h1, h2⟩ := h
  refine ⟨dx, t, ?_, ?_⟩
  · rw [upd_ne]
    · exact h1
    · rintro rfl
      rw [hD] at h1
      cases h1
  · rcases h2 with (h | ⟨o, h⟩) | h
    · refine .inl (.inl ?_)
      rw [upd_ne]
      · exact h
      · rintro rfl
        rw [hD] at h
        cases h
    · refine .inl (.inr ⟨o, ?_⟩)
      rw [upd_ne]
      · exact h
      · rintro rfl
        rw [hD] at h
        cases h
    · exact .inr h
def dueGo : List Str → List Rw → Str × Str
  | _, [] => (("book" : Str), ("" : Str))
  | known, r :: t => if r.1 ∈ known then (("twice" : Str), r.1) else dueGo (known ++ [r.1]) t
def dueOf (rs : List Rw) : Str × Str := if 12 < rs.length then (("large" : Str), ("functions" : Str)) else dueGo ["new", "copy"] rs
/-! ### names that differ from number to number -/
def ownS : List Str := ["a", "x", "news", "b", "user", "copys", "ends", "z", "elses", "n", "dea", "deads", "pic", "thens", "funs", "y"]
def OwnOf (k : Int) (z : Str) : Prop := digs z = tl (Str.ofString (toString k)) ∨ (k < 16 ∧ ownS[k.toNat]? = some z)
def nn (z : Str) : Prop := z ≠ "new" ∧ z ≠ "copy"
theorem num_ne {k : Int} (h0 : 0 ≤ k) (h1 : k < 100) : tl (Str.ofString (toString k)) ≠ [] := fun h => by
  have := (num_ok h0 h1).2.1
  rw [h] at this
  exact absurd this (by decide)
theorem plain_digs : ∀ z ∈ plainS ++ ownS, digs z = [] := by decide +kernel
theorem plain_step : ∀ i : Fin 16, ∀ z, plainS[i.val]? = some z → (z = "new" → ownS[i.val]? = some ("news" : Str)) ∧ (z = "copy" → ownS[i.val]? = some ("copys" : Str)) ∧ (z ≠ "new" → z ≠ "copy" → ownS[i.val]? = some z) := by
  have h : ∀ i : Fin 16, (plainS[i.val]? = some ("new" : Str) → ownS[i.val]? = some ("news" : Str)) ∧ (plainS[i.val]? = some ("copy" : Str) → ownS[i.val]? = some ("copys" : Str)) ∧ (plainS[i.val]? ≠ some ("new" : Str) → plainS[i.val]? ≠ some ("copy" : Str) → ownS[i.val]? = plainS[i.val]?) := by decide +kernel
  intro i z hz
  obtain ⟨h1, h2, h3⟩ := h i
  refine ⟨fun e => h1 (by rw [hz, e]), fun e => h2 (by rw [hz, e]), fun n1 n2 => ?_⟩
  rw [h3 (by rw [hz]; exact fun e => n1 (Option.some.inj e)) (by rw [hz]; exact fun e => n2 (Option.some.inj e)), hz]
theorem own_of {k : Int} {z : Str} (h0 : 0 ≤ k) (h1 : k < 100) (h : NmOf k z) : (z = "new" → OwnOf k "news") ∧ (z = "copy" → OwnOf k "copys") ∧ (nn z → OwnOf k z) := by
  rcases h with h | ⟨hk, h⟩
  · refine ⟨fun e => ?_, fun e => ?_, fun _ => .inl h⟩
    · rw [e, plain_digs "new" (by decide +kernel)] at h
      exact absurd h.symm (num_ne h0 h1)
    · rw [e, plain_digs "copy" (by decide +kernel)] at h
      exact absurd h.symm (num_ne h0 h1)
  · obtain ⟨q1, q2, q3⟩ := plain_step ⟨k.toNat, by omega⟩ z h
    exact ⟨fun e => .inr ⟨hk, q1 e⟩, fun e => .inr ⟨hk, q2 e⟩, fun n => .inr ⟨hk, q3 n.1 n.2⟩⟩
theorem own_nn {k : Int} {z : Str} (h0 : 0 ≤ k) (h1 : k < 100) (h : OwnOf k z) : nn z := by
  have no : ∀ w : Str, w ∈ plainS ++ ownS → w ∉ ownS → z ≠ w := by
    intro w hw hn e
    subst e
    rcases h with h | ⟨_, h⟩
    · rw [plain_digs z hw] at h
      exact num_ne h0 h1 h.symm
    · exact hn (List.mem_of_getElem? h)
  exact ⟨no "new" (by decide +kernel) (by decide +kernel), no "copy" (by decide +kernel) (by decide +kernel)⟩
theorem num_inj {k k' : Int} (h0 : 0 ≤ k) (h1 : k < 64) (h0' : 0 ≤ k') (h1' : k' < 64) (h : tl (Str.ofString (toString k)) = tl (Str.ofString (toString k'))) : k = k' := by
  have dec : ∀ i j : Fin 64, tl (Str.ofString (toString ((i.val : Nat) : Int))) = tl (Str.ofString (toString ((j.val : Nat) : Int))) → i = j := by decide +kernel
  obtain ⟨n, rfl⟩ := Int.eq_ofNat_of_zero_le h0
  obtain ⟨m, rfl⟩ := Int.eq_ofNat_of_zero_le h0'
  have := dec ⟨n, by omega⟩ ⟨m, by omega⟩ h
  rw [show n = m from congrArg Fin.val this]
theorem own_inj {k k' : Int} {z : Str} (h0 : 0 ≤ k) (h1 : k < 64) (h0' : 0 ≤ k') (h1' : k' < 64) (h : OwnOf k z) (h' : OwnOf k' z) : k = k' := by
  have pl : ∀ {j : Nat}, ownS[j]? = some z → digs z = [] := fun q => plain_digs z (List.mem_append_right _ (List.mem_of_getElem? q))
  rcases h with h | ⟨hk, h⟩ <;> rcases h' with h' | ⟨hk', h'⟩
  · exact num_inj h0 h1 h0' h1' (h.symm.trans h')
  · rw [pl h'] at h
    exact absurd h.symm (num_ne h0 (by omega))
  · rw [pl h] at h'
    exact absurd h'.symm (num_ne h0' (by omega))
  · have nd : ∀ i j : Fin 16, ownS[i.val]? = ownS[j.val]? → i = j := by decide +kernel
    have := nd ⟨k.toNat, by omega⟩ ⟨k'.toNat, by omega⟩ (h.trans h'.symm)
    have e : k.toNat = k'.toNat := congrArg Fin.val this
    omega
structure Fit (rs : List Rw) : Prop where
  gd : ∀ r ∈ rs, good r
  nn : ∀ r ∈ rs, nn r.1
  nd : (rs.map (·.1)).Nodup
  ln : rs.length ≤ 8
end
end K18

set_option Elab.async false
set_option linter.all false
set_option maxRecDepth 100000
namespace K18
open PySem PySem.Spec PyProof.Rows L2 Evl TL UL StX
section
variable {P : Program} {w : World} {K : PySem.W.Frag} {mg : Str → Option Value} {base : Heap} {A : Adr}
/-! ### books -/
def newR : Rw := ("new", 0, [])
def copyR : Rw := ("copy", 1, [])
def bkF (g e b : Addr) : List (Str × V) := [("_given", .ref g), ("_every", .ref e), ("_by_name", .ref b)]
def kvs (ss : List Addr) (rs : List Rw) : List (Key × V) := List.zipWith (fun a (r : Rw) => ((Sum.inr r.1 : Key), V.ref a)) ss rs
theorem bk_put (g e b : Addr) : putF "_by_name" (.ref b) (putF "_every" (.ref e) (putF "_given" (.ref g) [])) = bkF g e b := rfl
theorem f_given (g e b : Addr) : (bkF g e b).lookup ("_given" : Str) = some (.ref g) := rfl
theorem f_every (g e b : Addr) : (bkF g e b).lookup ("_every" : Str) = some (.ref e) := rfl
theorem f_byname (g e b : Addr) : (bkF g e b).lookup ("_by_name" : Str) = some (.ref b) := rfl
theorem val_none {z : Str} : ∀ {ss : List Addr} {rs : List Rw}, z ∉ rs.map (·.1) → valV (kvs ss rs) (Sum.inr z) = none
  | [], _, _ => rfl
  | _ :: _, [], _ => rfl
  | a :: ss, r :: rs, h => by
    rw [List.map_cons, List.mem_cons, not_or] at h
    show valV (((Sum.inr r.1 : Key), V.ref a) :: kvs ss rs) (Sum.inr z) = none
    rw [valV_neg (by intro e; exact h.1 (Sum.inr.inj e).symm)]
    exact val_none h.2
theorem val_some {z : Str} : ∀ {ss : List Addr} {rs : List Rw} {i : Nat} {a : Addr} {r : Rw}, (rs.map (·.1)).Nodup → ss[i]? = some a → rs[i]? = some r → r.1 = z → valV (kvs ss rs) (Sum.inr z) = some (.ref a)
  | [], _, _, _, _, _, h, _, _ => (nomatch h)
  | _ :: _, [], _, _, _, _, _, h, _ => (nomatch h)
  | a :: ss, r :: rs, 0, _, _, _, h1, h2, e => by
    cases h1
    cases h2
    exact valV_pos (congrArg Sum.inr e)
  | a :: ss, r :: rs, i + 1, a', r', nd, h1, h2, e => by
    rw [List.map_cons, List.nodup_cons] at nd
    show valV (((Sum.inr r.1 : Key), V.ref a) :: kvs ss rs) (Sum.inr z) = _
    have h3 : rs[i]? = some r' := h2
    rw [valV_neg (by intro q; exact nd.1 (List.mem_map.mpr ⟨r', List.mem_of_getElem? h3, e.trans (Sum.inr.inj q).symm⟩))]
    exact val_some nd.2 h1 h3 e
theorem kvs_snoc {a : Addr} {r : Rw} : ∀ {ss : List Addr} {rs : List Rw}, ss.length = rs.length → kvs (ss ++ [a]) (rs ++ [r]) = kvs ss rs ++ [((Sum.inr r.1 : Key), V.ref a)]
  | [], [], _ => rfl
  | [], _ :: _, h => (nomatch h)
  | _ :: _, [], h => (nomatch h)
  | x :: ss, y :: rs, h => by
    show _ :: kvs (ss ++ [a]) (rs ++ [r]) = _
    rw [kvs_snoc (Nat.succ.inj h)]
    rfl
theorem put_new {z : Str} {a : Addr} {ss : List Addr} {rs : List Rw} (h : z ∉ rs.map (·.1)) : putK (kvs ss rs) (Sum.inr z) (.ref a) = kvs ss rs ++ [((Sum.inr z : Key), V.ref a)] := by
  unfold putK
  rw [valV_any, val_none h, if_neg (by simp)]
theorem kvs_len (ss : List Addr) (rs : List Rw) : (kvs ss rs).length ≤ rs.length := by
  unfold kvs
  rw [List.length_zipWith]
  exact Nat.min_le_right _ _
theorem val_is {z : Str} : ∀ {ss : List Addr} {rs : List Rw}, ss.length = rs.length → (valV (kvs ss rs) (Sum.inr z)).isSome = decide (z ∈ rs.map (·.1))
  | [], [], _ => by rfl
  | [], _ :: _, h => (nomatch h)
  | _ :: _, [], h => (nomatch h)
  | a :: ss, r :: rs, h => by
    show (valV (((Sum.inr r.1 : Key), V.ref a) :: kvs ss rs) (Sum.inr z)).isSome = _
    by_cases e : r.1 = z
    · rw [valV_pos (congrArg Sum.inr e), decide_eq_true (by rw [List.map_cons, e]; exact List.mem_cons_self)]
      rfl
    · rw [valV_neg (by intro q; exact e (Sum.inr.inj q)), val_is (Nat.succ.inj h)]
      refine decide_eq_decide.mpr ?_
      rw [List.map_cons, List.mem_cons]
      exact ⟨.inr, fun q => q.resolve_left fun w => e w.symm⟩
/-- a book at a: its signatures at ss, all of them, with the parts rs -/
structure BookAt (K : PySem.W.Frag) (B C : Addr) (H : Hp) (a : Addr) (ss : List Addr) (rs : List Rw) : Prop where
  ex : ∃ dx g e b, H a = some (.ins B dx (bkF g e b)) ∧ SqT K H g ((ss.drop 2).map V.ref) ∧ H e = some (.tup (ss.map V.ref)) ∧ H b = some (.dK (kvs ss rs))
  sg : All2 (SigR K C H) ss rs
  nd : (rs.map (·.1)).Nodup
  gd : ∀ r ∈ rs, good r
  ln : rs.length ≤ 14
theorem SigR.mono {K : PySem.W.Frag} {C : Addr} {H H' : Hp} {a : Addr} {r : Rw} (e : Ex H H') (h : SigR K C H a r) : SigR K C H' a r := Sig.mono e h
theorem BookAt.mono {K : PySem.W.Frag} {B C : Addr} {H H' : Hp} {a : Addr} {ss : List Addr} {rs : List Rw} (e : Ex H H') (h : BookAt K B C H a ss rs) : BookAt K B C H' a ss rs := by
  obtain ⟨dx, g, v, b, h1, h2, h3, h4⟩ := h.ex
  exact ⟨⟨dx, g, v, b, e _ _ h1, ex_t e h2, e _ _ h3, e _ _ h4⟩, h.sg.imp fun _ _ q => q.mono e, h.nd, h.gd, h.ln⟩
theorem SigR.put {K : PySem.W.Frag} {C B x dx a : Addr} {H : Hp} {fs : List (Str × V)} {r : Rw} (hx : H x = some (.ins B dx [])) (h : SigR K C H a r) : SigR K C (upd H x (.ins B dx fs)) a r := by
  obtain ⟨d, t, h1, h2⟩ := h
  refine ⟨d, t, ?_, ?_⟩
  · rw [upd_ne]
    · exact h1
    · rintro rfl
      rw [hx] at h1
      injection Option.some.inj h1 with _ _ h3
      cases h3
  · rcases h2 with (h | ⟨o, h⟩) | h
    · exact .inl (.inl (by rw [upd_ne (ne_of h hx (by intro z; cases z))]; exact h))
    · exact .inl (.inr ⟨o, by rw [upd_ne (ne_of h hx (by intro z; cases z))]; exact h⟩)
    · exact .inr h
/-- which error is due -/
def errDue (d : Str × Str) (TL DF : Addr) : Option (Addr × Str) := if d.1 = "large" then some (TL, d.2) else if d.1 = "twice" then some (DF, d.2) else none
theorem good_new : good newR := ⟨by decide +kernel, ⟨by decide, by decide⟩, List.Pairwise.nil, fun _ h => (nomatch h)⟩
theorem good_copy : good copyR := ⟨by decide +kernel, ⟨by decide, by decide⟩, List.Pairwise.nil, fun _ h => (nomatch h)⟩
theorem due_known {rs : List Rw} (h : rs.length ≤ 12) : dueOf rs = dueGo [] (newR :: copyR :: rs) := by
  unfold dueOf
  rw [if_neg (by omega)]
  rfl
def spBookInit (K : PySem.W.Frag) (B C TL DF : Addr) : Sp := fun vs H Q E => ∃ x dx p ss rs, vs = [.ref x, .ref p] ∧ H x = some (.ins B dx []) ∧ H p = some (.tup (ss.map V.ref)) ∧ All2 (SigR K C H) ss rs ∧ (∀ r ∈ rs, good r) ∧ rs.length ≤ 100 ∧
  (errDue (dueOf rs) TL DF = none → ∀ H' s1 s2, Ex (L2.del H x) H' → BookAt K B C H' x (s1 :: s2 :: ss) (newR :: copyR :: rs) → Q .non H') ∧
  (∀ X z, errDue (dueOf rs) TL DF = some (X, z) → ∀ d H', Ex H H' → H' d = some (.xd [("what", .str z)]) → E (.ref X) (some d) H')
theorem ok_book_init (T : Tx0 w K mg A) : FnR P w K mg base (L2.CX P w) 7 A.book_init (UL.spStar (spBookInit K A.Book A.Signature A.TooLarge A.DuplicateFunction)) := by
  refine UL.starFn T.F_book_init sc_book_init (fun _ _ _ _ _ _ _ => by rfl) (fun _ _ _ _ _ _ _ _ _ => by rfl) (fun cdv Ar outer s H vs Q E hr h => ?_)
  · obtain ⟨x, dx, p, ss, rs, rfl, hx, hp, hS, hg, hl, k1, k2⟩ := h
    obtain ⟨ds, v0_sig_init_2, b0_sig_init_2⟩ := T.F_sig_init.binds0 (ps := p_sig_init) 3 (by simp) rfl (fun D doc pm an cdv ct us ks h1 h2 => by
      match us, h1, ks, h2 with
      | [_, _, _], _, [_], _ => exact ⟨_, _, _, _, _, _, rfl, rfl, rfl⟩)
    refine ⟨_, (pss_cons (ps_if (pt_cmpR op_gt (pe_callB call_len_seq (by rfl) T.m_len PySem.boot_len (pa_cons (pv 1) pa_nil)) (pe_glob (v := .int 12) (by rfl) T.c_MOST_GIVEN ⟨_, rfl⟩) (nomark _)) (pss_one (ps_raise rfl (takes_of rfl rfl rfl rfl) (pmk_oex T.ex_TooLarge.ox T.ex_TooLarge.ii T.ti_lives_init (ok_lives_init T) (hr.mono (by decide)) T.b_lives_init .nil pass0 (by rfl) T.g_TooLarge (pa_cons pe_str pa_nil)))) pss_nil)
      (pss_cons (ps_set (i := 2) sc_book_init.nd rfl (Or.inl rfl) (pe_tup (pa_cons (pe_make T.mk_Signature (ok_sig_init T) (hr.mono (by decide)) (by rfl) T.g_Signature b0_sig_init_2 v0_sig_init_2 passL (pa_cons pe_str (pa_cons pe_int pa_nil))) (pa_cons (pe_make T.mk_Signature (ok_sig_init T) (hr.mono (by decide)) (by rfl) T.g_Signature b0_sig_init_2 v0_sig_init_2 passL (pa_cons pe_str (pa_cons pe_int pa_nil))) (pa_star (pv 1) pa_nil)))))
      (pss_cons (ps_set (i := 3) sc_book_init.nd rfl (Or.inl rfl) pe_dnewK)
      (pss_cons (ps_for PassesOwn.leaving rfl (pi_tup (pv 2)) (pg_name (i := 4) sc_book_init.nd rfl (Or.inl rfl)) (pss_cons (ps_if (pt_cmp (pc_din (hu_of hr) (pe_fld (pv 4) rfl) (pv 3))) (pss_one (ps_raise rfl (takes_of rfl rfl rfl rfl) (pmk_oex T.ex_DuplicateFunction.ox T.ex_DuplicateFunction.ii T.ti_lives_init (ok_lives_init T) (hr.mono (by decide)) T.b_lives_init .nil pass0 (by rfl) T.g_DuplicateFunction (pa_cons (pe_fld (pv 4) rfl) pa_nil)))) pss_nil)
        (pss_one (ps_dput (hu_of hr) (pv 3) (pe_fld (pv 4) rfl) (pv 4) rfl))))
      (pss_cons (ps_fld (pv 0) (pv 1) rfl)
      (pss_cons (ps_fld (pv 0) (pv 2) rfl)
      (pss_one (ps_fld (pv 0) (pv 3) rfl)))))))), ?_⟩
    have hlen := hS.len
    refine ⟨_, rfl, p, _, rfl, .inr (SqT.of hp), _, 12, rfl, rfl, _, rfl, ?_⟩
    rw [List.length_map]
    refine ite2 (fun h => ?_) (fun h => ?_)
    · have h1 : (12 : Int) < (ss.length : Int) := of_decide_eq_true h
      have h2 : dueOf rs = (("large" : Str), ("functions" : Str)) := if_pos (by omega)
      refine ⟨(by show 1 ≤ 1000; decide), raise_what T.ex_TooLarge rfl fun d H' e' hd => ?_⟩
      exact k2 A.TooLarge "functions" (by rw [h2]; exact if_pos rfl) d H' e' hd
    have h1 : ¬ (12 : Int) < (ss.length : Int) := fun q => h (decide_eq_true q)
    have hl2 : rs.length ≤ 12 := by omega
    rw [due_known hl2] at k1 k2
    have thz : ∀ {z : Str} {H' : Hp}, okS z = true → Th H' (.str z) := fun h => .inl ⟨_, rfl, by have := okS_len h; omega⟩
    have thn : ∀ {n : Int} {H' : Hp}, Th H' (.int n) := .inr (.inr (.inr (.inl ⟨_, rfl⟩)))
    have th0 : ∀ {H' : Hp}, ∀ x ∈ ([] : List V), Th H' x := fun _ h => (nomatch h)
    -- new
    refine fun n1 d1 hn1 hd1 ne1 => ⟨n1, d1, .str "new", .int 0, .ref A.k_sig_init_sources, some [], rfl, upd_same, rfl, thz good_new.1, thn, ⟨⟨_, rfl, .inr (.inr ⟨T.q_sig_init_sources _, T.o_sig_init_sources⟩)⟩, th0, by decide⟩, fun _ H1 t1 e1' s1 ht1 => ⟨rfl, ?_⟩, fun h => by cases h⟩
    have e1 := made_ex hn1 hd1 e1'
    have g1 : SigR K A.Signature H1 n1 newR := ⟨d1, t1, s1, ht1⟩
    -- copy
    refine fun n2 d2 hn2 hd2 ne2 => ⟨n2, d2, .str "copy", .int 1, .ref A.k_sig_init_sources, some [], rfl, upd_same, rfl, thz good_copy.1, thn, ⟨⟨_, rfl, .inr (.inr ⟨T.q_sig_init_sources _, T.o_sig_init_sources⟩)⟩, th0, by decide⟩, fun _ H2 t2 e2' s2 ht2 => ⟨rfl, ?_⟩, fun h => by cases h⟩
    have e2 := made_ex hn2 hd2 e2'
    have g2 : SigR K A.Signature H2 n2 copyR := ⟨d2, t2, s2, ht2⟩
    have e12 := e1.trans e2
    refine ⟨_, rfl, p, _, rfl, .inl (SqT.of (e12 _ _ hp)), ?_⟩
    refine ⟨?_, fun e he => ?_⟩
    · rw [List.append_nil]
      exact sz_of (by show (ss.map V.ref).length + 1 + 1 ≤ 100000; rw [List.length_map]; omega)
    rw [List.append_nil]
    generalize hall : n1 :: n2 :: ss = all
    have hallv : V.ref n1 :: V.ref n2 :: ss.map V.ref = all.map V.ref := by rw [← hall]; rfl
    rw [hallv]
    have e3 := Ex.new (o := .tup (all.map V.ref)) he
    refine fun b hb => ?_
    generalize hH3 : upd H2 e (.tup (all.map V.ref)) = H3 at e3 hb ⊢
    have he3 : H3 e = some (.tup (all.map V.ref)) := by rw [← hH3, upd_same]
    have e03 := e12.trans e3
    generalize hrs : newR :: copyR :: rs = allr at k1 k2
    have hA : All2 (SigR K A.Signature H3) all allr := by
      rw [← hall, ← hrs]
      exact .cons ((g1.mono e2).mono e3) (.cons (g2.mono e3) (hS.imp fun _ _ q => q.mono e03))
    have hAl := hA.len
    have hrl : allr.length ≤ 14 := by rw [← hrs]; show rs.length + 1 + 1 ≤ 14; omega
    refine ⟨_, rfl, e, rfl, ⟨_, SqT.of ((Ex.new hb) _ _ he3)⟩, for_tup (xs := all.map V.ref) (fun i σ H' => (∃ v4, σ = [some (.ref x), some (.ref p), some (.ref e), some (.ref b), v4]) ∧ Ex H3 H' ∧ H' b = some (.dK (kvs (all.take i) (allr.take i))) ∧ ((allr.take i).map (·.1)).Nodup ∧ dueGo [] allr = dueGo ((allr.take i).map (·.1)) (allr.drop i))
      ⟨⟨_, rfl⟩, Ex.new hb, upd_same, List.nodup_nil, rfl⟩ (fun i σ' H' _ q => SqT.of (q.2.1 _ _ he3)) ?_ ?_⟩
    · rintro i y σ' H' hi ⟨⟨v4, rfl⟩, e4, hd, nd, due⟩
      rw [List.getElem?_map] at hi
      cases hai : all[i]? with
      | none => rw [hai] at hi; cases hi
      | some a =>
      rw [hai] at hi
      cases hi
      obtain ⟨r, hri, dx', t', ha, hta⟩ := (hA.imp fun _ _ q => q.mono e4).at' hai
      have hlt : i < allr.length := (List.getElem?_eq_some_iff.mp hri).1
      have hdr : allr.drop i = r :: allr.drop (i + 1) := by rw [List.drop_eq_getElem_cons hlt, (List.getElem?_eq_some_iff.mp hri).2]
      rw [hdr] at due
      have tl : (all.take i).length = (allr.take i).length := by rw [List.length_take, List.length_take]; omega
      have nx1 : all.take (i + 1) = all.take i ++ [a] := by rw [List.take_add_one, hai]; rfl
      have nx2 : allr.take (i + 1) = allr.take i ++ [r] := by rw [List.take_add_one, hri]; rfl
      refine ⟨_, rfl, a, _, dx', _, _, rfl, ha, T.cl_Signature, T.na_Signature_name, f_name _ _ _, _, rfl, b, _, rfl, DGet.k (k := Sum.inr r.1) hd, _, rfl, ?_⟩
      rw [val_is tl]
      refine ite2 (fun h => ?_) (fun h => ?_)
      · have hm := of_decide_eq_true h
        have h2 : dueGo [] allr = (("twice" : Str), r.1) := by rw [due]; exact if_pos hm
        refine ⟨_, rfl, a, _, dx', _, _, rfl, ha, T.cl_Signature, T.na_Signature_name, f_name _ _ _, (by show 1 ≤ 1000; decide), raise_what T.ex_DuplicateFunction rfl fun d H'' e'' hx'' => ?_⟩
        exact k2 A.DuplicateFunction r.1 (by rw [h2]; rfl) d H'' ((e03.trans e4).trans e'') hx''
      · have hm : ¬ r.1 ∈ (allr.take i).map (·.1) := fun q => h (decide_eq_true q)
        refine ⟨_, rfl, _, rfl, _, rfl, a, _, dx', _, _, rfl, ha, T.cl_Signature, T.na_Signature_name, f_name _ _ _, b, _, rfl, DPut.k (k := Sum.inr r.1) hd ?_, ⟨_, rfl⟩, e4.mut hb, ?_, ?_, ?_⟩
        · exact sz_lt (Nat.lt_of_le_of_lt (kvs_len _ _) (by rw [List.length_take]; omega))
        · rw [upd_same, put_new hm, nx1, nx2, kvs_snoc tl]
        · rw [nx2, List.map_append]
          refine List.pairwise_append.mpr ⟨nd, List.pairwise_singleton _ _, fun u hu v hv => ?_⟩
          rw [List.mem_singleton.mp hv]
          rintro rfl
          exact hm hu
        · rw [due, nx2, List.map_append]
          exact if_neg hm
    rintro σ' H' ⟨⟨v4, rfl⟩, e4, hd, nd, due⟩
    rw [List.length_map, hAl, List.take_length] at hd nd due
    rw [← hAl, List.take_length] at hd
    rw [List.drop_length] at due
    have done : errDue (dueGo [] allr) A.TooLarge A.DuplicateFunction = none := by rw [due]; rfl
    have hx' := (e03.trans e4) _ _ hx
    have hp' := (e03.trans e4) _ _ hp
    have he' := e4 _ _ he3
    refine ⟨_, rfl, _, rfl, x, _, dx, _, rfl, hx', T.cl_Book, T.na_Book__given, by decide, ?_⟩
    refine ⟨_, rfl, _, rfl, x, _, dx, _, rfl, upd_same, T.cl_Book, T.na_Book__every, by show 1 < 1000; decide, ?_⟩
    refine ⟨_, rfl, _, rfl, x, _, dx, _, rfl, upd_same, T.cl_Book, T.na_Book__by_name, by show 2 < 1000; decide, ?_⟩
    rw [upd_upd, upd_upd]
    have keep : ∀ c o, c ≠ x → H' c = some o → upd H' x (.ins A.Book dx (bkF p e b)) c = some o := fun c o n q => by rw [upd_ne n]; exact q
    have q := k1 done (upd H' x (.ins A.Book dx (bkF p e b))) n1 n2 (ex_del (e03.trans e4) keep)
    rw [hall] at q
    have npx : p ≠ x := ne_of hp' hx' (by intro z; cases z)
    have nex : e ≠ x := ne_of he' hx' (by intro z; cases z)
    have nbx : b ≠ x := ne_of hd hx' (by intro z; cases z)
    refine q ⟨⟨dx, p, e, b, upd_same, ?_, keep _ _ nex he', keep _ _ nbx hd⟩, ?_, nd, ?_, hrl⟩
    · rw [← hall]
      exact SqT.of (keep _ _ npx hp')
    · exact (hA.imp fun _ _ q => q.mono e4).imp fun _ _ q => q.put hx'
    · rw [← hrs]
      intro r hr
      rcases List.mem_cons.mp hr with rfl | hr
      · exact good_new
      · rcases List.mem_cons.mp hr with rfl | hr
        · exact good_copy
        · exact hg r hr
/-! the methods -/
def spBookLen (K : PySem.W.Frag) (B C : Addr) : Sp := fun vs H Q _ => ∃ a ss rs, vs = [.ref a] ∧ BookAt K B C H a ss rs ∧ Q (.int (ss.length : Int)) H
theorem ok_book_len (T : Tx0 w K mg A) : FnOk P w K mg base CX0 1 A.book_len A.d_book_len p_book_len (spBookLen K A.Book A.Signature) := by
  refine T.F_book_len.ok sc_book_len (fun vs H Q E h => ?_) (fun cdv Ar outer s H vs Q E hr h => ?_)
  · obtain ⟨a, ss, rs, rfl, _⟩ := h
    rfl
  · obtain ⟨a, ss, rs, rfl, bk, k⟩ := h
    refine ⟨_, (pss_one (ps_ret (pe_callB call_len_seq (by rfl) T.m_len PySem.boot_len (pa_cons (pe_fld (pv 0) rfl) pa_nil)))), ?_⟩
    obtain ⟨dx, g, e, b, h1, h2, h3, h4⟩ := bk.ex
    refine ⟨_, rfl, a, _, dx, _, _, rfl, h1, T.cl_Book, T.na_Book__every, f_every _ _ _, e, _, rfl, .inr (SqT.of h3), ?_⟩
    rw [List.length_map]
    exact k
def spBookIter (K : PySem.W.Frag) (B : Addr) : Sp := fun vs H Q _ => ∃ a dx g e b zs, vs = [.ref a] ∧ H a = some (.ins B dx (bkF g e b)) ∧ H e = some (.tup zs) ∧ ∀ it, H it = none → Q (.ref it) (upd H it (ItTup e it 0))
theorem ok_book_iter (T : Tx0 w K mg A) : FnOk P w K mg base CX0 1 A.book_iter A.d_book_iter p_book_iter (spBookIter K A.Book) := by
  refine T.F_book_iter.ok sc_book_iter (fun vs H Q E h => ?_) (fun cdv Ar outer s H vs Q E hr h => ?_)
  · obtain ⟨a, dx, g, e, b, zs, rfl, _⟩ := h
    rfl
  · obtain ⟨a, dx, g, e, b, zs, rfl, h1, h3, k⟩ := h
    refine ⟨_, (pss_one (ps_ret (pe_callB UL.call_iterT (by rfl) T.m_iter (by decide +kernel) (pa_cons (pe_fld (pv 0) rfl) pa_nil)))), ?_⟩
    exact ⟨_, rfl, a, _, dx, _, _, rfl, h1, T.cl_Book, T.na_Book__every, f_every _ _ _, e, _, rfl, SqT.of h3, k⟩
def hasB (v : V) (rs : List Rw) : Bool := match v with | .str z => decide (z ∈ rs.map (·.1)) | _ => false
def spBookHas (K : PySem.W.Frag) (B C : Addr) : Sp := fun vs H Q _ => ∃ a v ss rs, vs = [.ref a, v] ∧ BookAt K B C H a ss rs ∧ Th H v ∧ Q (.bl (hasB v rs)) H
theorem ok_book_has (T : Tx0 w K mg A) : FnOk P w K mg base CX0 1 A.book_has A.d_book_has p_book_has (spBookHas K A.Book A.Signature) := by
  refine T.F_book_has.ok sc_book_has (fun vs H Q E h => ?_) (fun cdv Ar outer s H vs Q E hr h => ?_)
  · obtain ⟨a, v, ss, rs, rfl, _⟩ := h
    rfl
  · obtain ⟨a, v, ss, rs, rfl, bk, hv, k⟩ := h
    refine ⟨_, (pss_one (ps_ret (pe_and (pe_callB call_isi (by rfl) T.m_isinstance (by decide +kernel) (pa_cons (pv 1) (pa_cons (pe_bltn (v := .ty "str") (u := .type "str") (by rfl) T.m_str (by decide +kernel) rfl) pa_nil))) (pe_one (pe_cmp (pc_din (hu_of hr) (pv 1) (pe_fld (pv 0) rfl)) rfl))))), ?_⟩
    obtain ⟨t, ht, h1⟩ := hv.isi (K := K)
    obtain ⟨dx, g, e, b, b1, b2, b3, b4⟩ := bk.ex
    refine ⟨_, rfl, v, _, t, _, _, rfl, .ty "str", ht, h1, _, rfl, ?_⟩
    cases v with
    | str z =>
      refine iteT ⟨_, rfl, _, rfl, a, _, dx, _, _, rfl, b1, T.cl_Book, T.na_Book__by_name, f_byname _ _ _, b, _, rfl, DGet.k (k := Sum.inr z) b4, ?_⟩
      rw [val_is bk.sg.len]
      exact k
    | _ => exact iteF k
def spBookGet (K : PySem.W.Frag) (B C UF : Addr) : Sp := fun vs H Q E => ∃ a v ss rs, vs = [.ref a, v] ∧ BookAt K B C H a ss rs ∧ Th H v ∧ flatV v = true ∧
  (∀ (i : Nat) s (r : Rw) z, v = .str z → ss[i]? = some s → rs[i]? = some r → r.1 = z → Q (.ref s) H) ∧ (hasB v rs = false → ∀ d H', Ex H H' → H' d = some (.xd [("what", v)]) → E (.ref UF) (some d) H')
theorem ok_book_get (T : Tx0 w K mg A) : FnOk P w K mg base (L2.CX P w) 4 A.book_get A.d_book_get p_book_get (spBookGet K A.Book A.Signature A.UnknownFunction) := by
  refine T.F_book_get.okX sc_book_get (fun vs H Q E h => ?_) (fun cdv Ar outer s H vs Q E hr h => ?_)
  · obtain ⟨a, v, ss, rs, rfl, _⟩ := h
    rfl
  · obtain ⟨a, v, ss, rs, rfl, bk, hv, hf, k1, k2⟩ := h
    refine ⟨_, (pss_cons (ps_if (pt_cmpR (UL.op_ownNotIn (ok_book_has T) (hr.mono (by decide)) T.e_book_has.at_ T.e_book_has.fn T.b_book_has pass0) (pv 1) (pv 0) (by rfl)) (pss_one (ps_raise rfl (takes_of rfl rfl rfl rfl) (pmk_oex T.ex_UnknownFunction.ox T.ex_UnknownFunction.ii T.ti_lives_init (ok_lives_init T) (hr.mono (by decide)) T.b_lives_init .nil pass0 (by rfl) T.g_UnknownFunction (pa_cons (pv 1) pa_nil)))) pss_nil)
      (pss_one (ps_ret (pe_dget (hu_of hr) (pe_fld (pv 0) rfl) (pv 1) (fun _ _ => rfl))))), ?_⟩
    obtain ⟨dx, g, e, b, b1, b2, b3, b4⟩ := bk.ex
    refine ⟨_, rfl, _, rfl, a, dx, _, rfl, b1, a, v, ss, rs, rfl, bk, hv, _, rfl, _, rfl, ?_⟩
    cases hb : hasB v rs with
    | false => exact iteT ⟨_, rfl, (by show 1 ≤ 1000; decide), raise_what T.ex_UnknownFunction hf fun d H' e' hd => k2 hb d H' e' hd⟩
    | true =>
      obtain ⟨z, i, s, r, rfl, hs, hr, hz⟩ : ∃ z i s, ∃ r : Rw, v = .str z ∧ ss[i]? = some s ∧ rs[i]? = some r ∧ r.1 = z := by
        cases v with
        | str z =>
          have hm : z ∈ rs.map (·.1) := of_decide_eq_true hb
          obtain ⟨r, hr, hz⟩ := List.mem_map.mp hm
          obtain ⟨i, hi⟩ := List.mem_iff_getElem?.mp hr
          obtain ⟨s, hs, _⟩ := bk.sg.at hi
          exact ⟨z, i, s, r, rfl, hs, hi, hz⟩
        | _ => cases hb
      refine iteF ⟨_, rfl, a, _, dx, _, _, rfl, b1, T.cl_Book, T.na_Book__by_name, f_byname _ _ _, _, rfl, b, .ref s, rfl, ?_, k1 i s r z rfl hs hr hz⟩
      have q := DGet.k (k := Sum.inr z) b4
      rw [val_some bk.nd hs hr hz] at q
      exact q
theorem scal_refl {v : V} (h : flatV v = true) : scal v v = true := by
  cases v <;> first | rfl | cases h
theorem one_name {r r' : Rw} : ∀ {rs : List Rw}, (rs.map (·.1)).Nodup → r ∈ rs → r' ∈ rs → r.1 = r'.1 → r = r'
  | [], _, h, _, _ => (nomatch h)
  | x :: rs, nd, h, h', e => by
    rw [List.map_cons, List.nodup_cons] at nd
    rcases List.mem_cons.mp h with h | h
    · rcases List.mem_cons.mp h' with h' | h'
      · rw [h, h']
      · exact absurd (List.mem_map.mpr ⟨r', h', by rw [← h]; exact e.symm⟩) nd.1
    · rcases List.mem_cons.mp h' with h' | h'
      · exact absurd (List.mem_map.mpr ⟨r, h, by rw [← h']; exact e⟩) nd.1
      · exact one_name nd.2 h h' e
/-! ### books joined -/
def clash (ra : List Rw) (r : Rw) : Bool := ra.any fun r' => decide (r'.1 = r.1) && !decide (r' = r)
def confl (ra : List Rw) : List Rw → Option Str
  | [] => none
  | r :: rb => if clash ra r = true then some r.1 else confl ra rb
def added (ra rb : List Rw) : List Rw := rb.filter fun r => !decide (r.1 ∈ ra.map (·.1))
def errJoin (ra rb : List Rw) (TL DF : Addr) : Option (Addr × Str) := match confl ra rb with
  | some z => some (DF, z)
  | none => if 12 < (ra ++ added ra rb).length then some (TL, ("functions" : Str)) else none
theorem added_snoc (ra l : List Rw) (r : Rw) : added ra (l ++ [r]) = added ra l ++ (if r.1 ∈ ra.map (·.1) then [] else [r]) := by
  unfold added
  rw [List.filter_append]
  by_cases h : r.1 ∈ ra.map (·.1)
  · rw [if_pos h, List.filter_cons_of_neg (by rw [decide_eq_true h]; decide)]
    rfl
  · rw [if_neg h, List.filter_cons_of_pos (by rw [decide_eq_false h]; rfl)]
    rfl
theorem dueGo_ok : ∀ (rs : List Rw) (kn : List Str), (rs.map (·.1)).Nodup → (∀ r ∈ rs, r.1 ∉ kn) → dueGo kn rs = (("book" : Str), ("" : Str))
  | [], _, _, _ => rfl
  | r :: rs, kn, nd, h => by
    rw [List.map_cons, List.nodup_cons] at nd
    unfold dueGo
    rw [if_neg (h r List.mem_cons_self)]
    refine dueGo_ok rs _ nd.2 fun x hx q => ?_
    rcases List.mem_append.mp q with q | q
    · exact h x (List.mem_cons_of_mem _ hx) q
    · exact nd.1 (List.mem_map.mpr ⟨x, hx, List.mem_singleton.mp q⟩)
theorem due_nd {rs : List Rw} {TL DF : Addr} (nd : (rs.map (·.1)).Nodup) (h : ∀ r ∈ rs, nn r.1) : errDue (dueOf rs) TL DF = if 12 < rs.length then some (TL, ("functions" : Str)) else none := by
  unfold dueOf
  by_cases hl : 12 < rs.length
  · rw [if_pos hl, if_pos hl]
    rfl
  · rw [if_neg hl, if_neg hl, dueGo_ok rs _ nd fun r hr q => ?_]
    · rfl
    · have n := h r hr
      simp only [List.mem_cons, List.not_mem_nil, or_false] at q
      rcases q with q | q
      · exact n.1 q
      · exact n.2 q
theorem book_nn {rs : List Rw} (h : ((newR :: copyR :: rs).map (·.1)).Nodup) : (∀ r ∈ rs, nn r.1) ∧ (rs.map (·.1)).Nodup := by
  rw [List.map_cons, List.map_cons, List.nodup_cons, List.nodup_cons] at h
  obtain ⟨h1, h2, h3⟩ := h
  refine ⟨fun r hr => ⟨fun e => h1 (List.mem_cons_of_mem _ (List.mem_map.mpr ⟨r, hr, e⟩)), fun e => h2 (List.mem_map.mpr ⟨r, hr, e⟩)⟩, h3⟩
theorem added_nd {ra rb : List Rw} (ha : (ra.map (·.1)).Nodup) (hb : (rb.map (·.1)).Nodup) : ((ra ++ added ra rb).map (·.1)).Nodup := by
  rw [List.map_append]
  refine List.pairwise_append.mpr ⟨ha, hb.sublist (List.Sublist.map _ List.filter_sublist), fun u hu v hv e => ?_⟩
  obtain ⟨r, hr, rfl⟩ := List.mem_map.mp hv
  have := (List.mem_filter.mp hr).2
  rw [← e, decide_eq_true hu] at this
  cases this
theorem has_nn {ra : List Rw} {z : Str} (h : nn z) : hasB (.str z) (newR :: copyR :: ra) = decide (z ∈ ra.map (·.1)) := by
  refine decide_eq_decide.mpr ?_
  rw [List.map_cons, List.map_cons, List.mem_cons, List.mem_cons]
  refine ⟨fun q => ?_, fun q => .inr (.inr q)⟩
  rcases q with q | q | q
  · exact absurd q h.1
  · exact absurd q h.2
  · exact q
theorem clash_one {ra : List Rw} {r r' : Rw} (nd : (ra.map (·.1)).Nodup) (h : r' ∈ ra) (e : r'.1 = r.1) : clash ra r = !decide (r' = r) := by
  unfold clash
  by_cases q : r' = r
  · rw [decide_eq_true q, List.any_eq_false.mpr]
    · rfl
    · intro x hx w
      rw [Bool.and_eq_true] at w
      have : x = r' := one_name nd hx h ((of_decide_eq_true w.1).trans e.symm)
      rw [this, decide_eq_true q] at w
      exact absurd w.2 (by decide)
  · rw [decide_eq_false q, List.any_eq_true.mpr]
    · rfl
    · exact ⟨r', h, by rw [decide_eq_true e, decide_eq_false q]; rfl⟩
theorem clash_none {ra : List Rw} {r : Rw} (h : r.1 ∉ ra.map (·.1)) : clash ra r = false := by
  unfold clash
  rw [List.any_eq_false]
  intro x hx w
  rw [Bool.and_eq_true] at w
  exact h (List.mem_map.mpr ⟨x, hx, of_decide_eq_true w.1⟩)
theorem All2.app {α β : Type} {R : α → β → Prop} : ∀ {as as' : List α} {bs bs' : List β}, All2 R as bs → All2 R as' bs' → All2 R (as ++ as') (bs ++ bs')
  | _, _, _, _, .nil, h => h
  | _, _, _, _, .cons h t, h' => .cons h (t.app h')
theorem BookAt.given {K : PySem.W.Frag} {B C : Addr} {H : Hp} {a : Addr} {ss : List Addr} {rs : List Rw} (h : BookAt K B C H a ss (newR :: copyR :: rs)) : All2 (SigR K C H) (ss.drop 2) rs := by
  cases h.sg with
  | cons _ t =>
    cases t with
    | cons _ t => exact t
def spBookOr (K : PySem.W.Frag) (B C TL DF : Addr) : Sp := fun vs H Q E => ∃ a b sa ra sb rb, vs = [.ref a, .ref b] ∧ BookAt K B C H a sa (newR :: copyR :: ra) ∧ BookAt K B C H b sb (newR :: copyR :: rb) ∧
  (errJoin ra rb TL DF = none → ∀ H' x ss, H x = none → Ex H H' → BookAt K B C H' x ss (newR :: copyR :: (ra ++ added ra rb)) → Q (.ref x) H') ∧
  (∀ X z, errJoin ra rb TL DF = some (X, z) → ∀ d H', Ex H H' → H' d = some (.xd [("what", .str z)]) → E (.ref X) (some d) H')
theorem ok_book_or (T : Tx0 w K mg A) : FnOk P w K mg base (L2.CX P w) 12 A.book_or A.d_book_or p_book_or (spBookOr K A.Book A.Signature A.TooLarge A.DuplicateFunction) := by
  refine T.F_book_or.okX sc_book_or (fun vs H Q E h => ?_) (fun cdv Ar outer s H vs Q E hr h => ?_)
  · obtain ⟨a, b, sa, ra, sb, rb, rfl, _⟩ := h
    rfl
  · obtain ⟨a, b, sa, ra, sb, rb, rfl, ba, bb, k1, k2⟩ := h
    refine ⟨_, (pss_cons (ps_for PassesOwn.leaving rfl (pi_tup (pe_fld (pv 1) rfl)) (pg_name (i := 2) sc_book_or.nd rfl (Or.inl rfl)) (pss_one (ps_if (PW.pt (pw_and (pt_cmpR (UL.op_ownIn (ok_book_has T) (hr.mono (by decide)) T.e_book_has.at_ T.e_book_has.fn T.b_book_has pass0) (pe_fld (pv 2) rfl) (pv 0) (by rfl)) (pw_and1 (pt_cmpR (UL.op_ownNe (ok_sig_eq T) (hr.mono (by decide)) ⟨T.ne_Sig, T.e_sig_eq.at_, T.e_sig_eq.fn, T.ob_Sig⟩ T.b_sig_eq pass0) (UL.pe_ixOwn (ok_book_get T) (hr.mono (by decide)) T.e_book_get.at_ T.fi_book_get T.e_book_get.fn T.b_book_get passL (pv 0) (pe_fld (pv 2) rfl)) (pv 2) (nomark _))))) (pss_one (ps_raise rfl (takes_of rfl rfl rfl rfl) (pmk_oex T.ex_DuplicateFunction.ox T.ex_DuplicateFunction.ii T.ti_lives_init (ok_lives_init T) (hr.mono (by decide)) T.b_lives_init .nil pass0 (by rfl) T.g_DuplicateFunction (pa_cons (pe_fld (pv 2) rfl) pa_nil)))) pss_nil)))
      (pss_cons (ps_setLc (i := 3) (own := [("signature", 2)]) (g := gName 2) rfl sc_book_or.nd rfl rfl (sw_true rfl rfl rfl (by decide +kernel)) (pi_tup (pe_fld (pv 1) rfl)) (blkOk_by (N := n_book_or) (sc := defScope s_book_or) (by decide +kernel)) (fun _ _ _ _ _ => pg_name (i := 2) sc_book_or.nd rfl (Or.inl rfl)) (fun _ _ _ _ _ => pts_one (pt_cmpR (show OpR _ _ (UL.rOwnIn A.Book true (spBookHas K A.Book A.Signature) E0) from (UL.op_ownNotIn (ok_book_has T) (hr.mono (by decide)) T.e_book_has.at_ T.e_book_has.fn T.b_book_has pass0)) (show PE _ _ (tFld K _ _) from (pe_fld (pv 2) rfl)) (pv 0) (by rfl))) (fun _ _ _ _ _ => (pv 2)))
      (pss_cons (ps_set (i := 4) sc_book_or.nd rfl (Or.inl rfl) (pe_lst (pa_star (pe_fld (pv 0) rfl) (pa_star (pv 3) pa_nil))))
      (pss_one (ps_ret (UL.pe_makeStar T.mk_Book (ok_book_init T) (hr.mono (by decide)) (by rfl) T.g_Book (UL.passX (takes_of rfl rfl rfl rfl)) (pv 4))))))), ?_⟩
    obtain ⟨dxa, ga, ea, na, a1, a2, a3, a4⟩ := ba.ex
    obtain ⟨dxb, gb, eb, nb, b1, b2, b3, b4⟩ := bb.ex
    obtain ⟨nna, nda⟩ := book_nn ba.nd
    obtain ⟨nnb, ndb⟩ := book_nn bb.nd
    have gva := ba.given
    have gvb := bb.given
    have gl := gvb.len
    have rla : ra.length ≤ 12 := by have := ba.ln; rw [List.length_cons, List.length_cons] at this; omega
    have rlb : rb.length ≤ 12 := by have := bb.ln; rw [List.length_cons, List.length_cons] at this; omega
    have goodb : ∀ r ∈ rb, good r := fun r hr => bb.gd r (List.mem_cons_of_mem _ (List.mem_cons_of_mem _ hr))
    have gooda : ∀ r ∈ ra, good r := fun r hr => ba.gd r (List.mem_cons_of_mem _ (List.mem_cons_of_mem _ hr))
    generalize sb.drop 2 = tb at b2 gvb gl
    generalize hta : sa.drop 2 = ta at a2 gva
    refine ⟨_, rfl, b, _, dxb, _, _, rfl, b1, T.cl_Book, T.na_Book__given, f_given _ _ _, gb, rfl, ⟨_, b2⟩, for_tup (xs := tb.map V.ref) (fun i σ H' => (∃ v2 v3 v4, σ = [some (.ref a), some (.ref b), v2, v3, v4]) ∧ H' = H ∧ confl ra rb = confl ra (rb.drop i)) ⟨⟨_, _, _, rfl⟩, rfl, rfl⟩ (fun i σ' H' _ q => by rw [q.2.1]; exact b2) ?_ ?_⟩
    · rintro i y σ' H' hi ⟨⟨v2, v3, v4, rfl⟩, rfl, hc⟩
      rw [List.getElem?_map] at hi
      cases hai : tb[i]? with
      | none => rw [hai] at hi; cases hi
      | some s' =>
      rw [hai] at hi
      cases hi
      obtain ⟨r, hri, dx', t', hs, hst⟩ := gvb.at' hai
      have hlt : i < rb.length := (List.getElem?_eq_some_iff.mp hri).1
      have hdr : rb.drop i = r :: rb.drop (i + 1) := by rw [List.drop_eq_getElem_cons hlt, (List.getElem?_eq_some_iff.mp hri).2]
      rw [hdr] at hc
      have hrm := List.mem_of_getElem? hri
      have hz := okS_len (goodb r hrm).1
      have th : Th H' (.str r.1) := .inl ⟨_, rfl, by omega⟩
      refine ⟨_, rfl, s', _, dx', _, _, rfl, hs, T.cl_Signature, T.na_Signature_name, f_name _ _ _, _, rfl, a, dxa, _, rfl, a1, a, .str r.1, sa, _, rfl, ba, th, _, rfl, _, rfl, ?_⟩
      rw [has_nn (nnb r hrm)]
      refine ite2 (fun h => ?_) (fun h => iteF ?_)
      · have hin : r.1 ∈ ra.map (·.1) := of_decide_eq_true h
        refine ⟨_, rfl, _, rfl, s', _, dx', _, _, rfl, hs, T.cl_Signature, T.na_Signature_name, f_name _ _ _, a, dxa, _, rfl, a1, a, .str r.1, sa, _, rfl, ba, th, rfl, (fun j s0 r0 z hz h1 h2 h3 => ?_), fun q => by rw [has_nn (nnb r hrm), decide_eq_true hin] at q; cases q⟩
        cases hz
        have hr0 : r0 ∈ ra := by
          rcases List.mem_cons.mp (List.mem_of_getElem? h2) with e | q
          · exact absurd (h3.symm.trans (by rw [e]; rfl)) (nnb r hrm).1
          · rcases List.mem_cons.mp q with e | q
            · exact absurd (h3.symm.trans (by rw [e]; rfl)) (nnb r hrm).2
            · exact q
        obtain ⟨r2, hr2, dx0, t0, hs0, hst0⟩ := ba.sg.at' h1
        rw [h2] at hr2
        cases hr2
        refine ⟨_, rfl, s0, s', dx0, _, dx', _, rfl, rfl, hs0, hs, s0, r0.1, r0.2.1, r0.2.2, .ref s', _, rfl, ⟨dx0, t0, hs0, hst0⟩, .inl ⟨s', r.1, r.2.1, r.2.2, rfl, ⟨dx', t', hs, hst⟩, rfl⟩, _, rfl, _, rfl, ?_⟩
        have eb : (decide (r0.1 = r.1) && decide (r0.2.1 = r.2.1) && decide (r0.2.2 = r.2.2)) = decide (r0 = r) := by
          obtain ⟨z, n, ns⟩ := r0
          obtain ⟨z', n', ns'⟩ := r
          show (decide (z = z') && decide (n = n') && decide (ns = ns')) = decide ((z, n, ns) = (z', n', ns'))
          by_cases h1 : z = z' <;> by_cases h2 : n = n' <;> by_cases h3 : ns = ns' <;> simp [h1, h2, h3]
        rw [eb, ← clash_one nda hr0 h3]
        have hc' : confl ra rb = if clash ra r = true then some r.1 else confl ra (rb.drop (i + 1)) := hc
        refine ite2 (fun q => ?_) (fun q => ?_)
        · rw [if_pos q] at hc'
          refine ⟨_, rfl, s', _, dx', _, _, rfl, hs, T.cl_Signature, T.na_Signature_name, f_name _ _ _, (by show 1 ≤ 1000; decide), raise_what T.ex_DuplicateFunction rfl fun d H2 e hd => ?_⟩
          exact k2 A.DuplicateFunction r.1 (by unfold errJoin; rw [hc']) d H2 e hd
        · rw [if_neg q] at hc'
          exact ⟨⟨_, _, _, rfl⟩, rfl, hc'⟩
      · have hout : r.1 ∉ ra.map (·.1) := fun q => h (decide_eq_true q)
        have hc' : confl ra rb = if clash ra r = true then some r.1 else confl ra (rb.drop (i + 1)) := hc
        rw [clash_none hout, if_neg (by decide)] at hc'
        exact ⟨⟨_, _, _, rfl⟩, rfl, hc'⟩
    rintro σ' H' ⟨⟨v2, v3, v4, rfl⟩, rfl, hc⟩
    rw [List.length_map, gl, List.drop_length] at hc
    have hc : confl ra rb = none := hc
    have ej : errJoin ra rb A.TooLarge A.DuplicateFunction = errDue (dueOf (ra ++ added ra rb)) A.TooLarge A.DuplicateFunction := by
      have nn2 : ∀ r ∈ ra ++ added ra rb, nn r.1 := fun r hr => by
        rcases List.mem_append.mp hr with q | q
        · exact nna r q
        · exact nnb r (List.mem_filter.mp q).1
      rw [due_nd (added_nd nda ndb) nn2]
      unfold errJoin
      rw [hc]
    -- what is added
    refine ⟨_, rfl, b, _, dxb, _, _, rfl, b1, T.cl_Book, T.na_Book__given, f_given _ _ _, gb, rfl, ⟨_, b2⟩, fun D hD => ?_⟩
    refine lc_it (walk_tup (xs := tb.map V.ref)) (fun i H2 => ∃ us, H2 = upd H' D (.lst (us.map V.ref)) ∧ All2 (SigR K A.Signature H') us (added ra (rb.take i)) ∧ us.length ≤ i) ⟨[], rfl, .nil, Nat.le_refl _⟩ (fun i H2 _ ⟨us, h, _⟩ => by rw [h]; exact ex_t (Ex.new hD) b2) ?_ ?_
    · rintro i y H2 H3 hi ⟨us, rfl, hus, hul⟩ ⟨rfl, hy⟩
      rw [List.getElem?_map] at hy
      cases hai : tb[i]? with
      | none => rw [hai] at hy; cases hy
      | some s' =>
      rw [hai] at hy
      cases hy
      have eD := Ex.new (o := .lst (us.map V.ref)) hD
      obtain ⟨r, hri, dx', t', hs, hst⟩ := gvb.at' hai
      have hrm := List.mem_of_getElem? hri
      have hz := okS_len (goodb r hrm).1
      have hlt : i < rb.length := (List.getElem?_eq_some_iff.mp hri).1
      have nx : rb.take (i + 1) = rb.take i ++ [r] := by rw [List.take_add_one, hri]; rfl
      refine ⟨rfl, _, rfl, s', _, dx', _, _, rfl, eD _ _ hs, T.cl_Signature, T.na_Signature_name, f_name _ _ _, _, rfl, a, dxa, _, rfl, eD _ _ a1, a, .str r.1, sa, _, rfl, ba.mono eD, .inl ⟨_, rfl, by omega⟩, _, rfl, _, rfl, ?_⟩
      rw [has_nn (nnb r hrm)]
      show if (!decide (r.1 ∈ ra.map (·.1))) = true then _ else _
      refine ite2 (fun h => ?_) (fun h => ?_)
      · refine ⟨_, rfl, _, upd_same, by rw [List.length_map]; exact sz_lt (by omega), us ++ [s'], by rw [upd_upd, List.map_append]; rfl, ?_, by rw [List.length_append]; show us.length + 1 ≤ i + 1; omega⟩
        rw [nx]
        rw [added_snoc, if_neg (by simpa using h)]
        exact hus.snoc ⟨dx', t', hs, hst⟩
      · refine ⟨us, rfl, ?_, by omega⟩
        rw [nx]
        rw [added_snoc, if_pos (by simpa using h), List.append_nil]
        exact hus
    rintro H2 ⟨us, rfl, hus, hul⟩
    rw [List.length_map, gl, List.take_length] at hus
    have eD := Ex.new (o := .lst (us.map V.ref)) hD
    have hD2 := upd_same (H := H') (a := D) (o := .lst (us.map V.ref))
    generalize upd H' D (.lst (us.map V.ref)) = H2 at eD hD2 ⊢
    rw [List.length_map] at hul
    have tal : ta.length ≤ 12 := by have := gva.len; omega
    refine ⟨_, rfl, a, _, dxa, _, _, rfl, eD _ _ a1, T.cl_Book, T.na_Book__given, f_given _ _ _, ga, _, rfl, .inl (ex_t eD a2), _, rfl, D, _, rfl, .inr (SqL.of hD2), ?_⟩
    have hcat : ta.map V.ref ++ (us.map V.ref ++ []) = (ta ++ us).map V.ref := by rw [List.append_nil, List.map_append]
    refine ⟨by rw [hcat, List.length_map, List.length_append]; exact sz_of (by omega), fun u hu => ?_⟩
    rw [hcat]
    have eu := Ex.new (o := .lst ((ta ++ us).map V.ref)) hu
    have hu3 := upd_same (H := H2) (a := u) (o := .lst ((ta ++ us).map V.ref))
    generalize upd H2 u (.lst ((ta ++ us).map V.ref)) = H3 at eu hu3 ⊢
    have e3 := eD.trans eu
    have hall : All2 (SigR K A.Signature H3) (ta ++ us) (ra ++ added ra rb) := (gva.imp fun _ _ q => q.mono e3).app (hus.imp fun _ _ q => q.mono e3)
    refine ⟨_, rfl, u, _, rfl, .inr (SqL.of hu3), fun x dx hx hdx ne => ?_⟩
    refine ⟨.ref x, _, rfl, by rw [List.length_map, List.length_append]; omega, fun p' hp' => ⟨x, dx, p', ta ++ us, ra ++ added ra rb, rfl, ?_, upd_same, ?_, ?_, ?_, ?_, ?_⟩⟩
    · rw [upd_ne (ne_of_none upd_same hp')]
      exact upd_same
    · exact hall.imp fun _ _ q => (q.mono (made_in hx hdx)).mono (Ex.new hp')
    · intro r hr
      rcases List.mem_append.mp hr with q | q
      · exact gooda r q
      · exact goodb r (List.mem_filter.mp q).1
    · have := hall.len
      rw [← this, List.length_append]
      omega
    · intro due H4 s1 s2 ex bk
      exact ⟨rfl, k1 (by rw [ej]; exact due) H4 x _ (fresh_back e3 hx) (e3.trans fun b o hb => ex b o (del_at (Ex.new hp' b o (made_in hx hdx b o hb)) (ne_of_none hb hx))) bk⟩
    · intro X z due d H4 e hd
      exact k2 X z (by rw [ej]; exact due) d H4 (e3.trans ((made_in hx hdx).trans ((Ex.new hp').trans e))) hd
end
end K18

set_option Elab.async false
set_option linter.all false
set_option maxRecDepth 100000
namespace K18
open PySem PySem.Spec PyProof.Rows L2 Evl TL UL StX
section
variable {P : Program} {w : World} {K : PySem.W.Frag} {mg : Str → Option Value} {base : Heap} {A : Adr}
/-! ### the reader -/
theorem cut_seg {z : Str} {s e : Nat} (h1 : s ≤ e) (h2 : e ≤ z.length) : cutS z (some (s : Int)) (some (e : Int)) = ofL (((tl z).take e).drop s) := by
  have hl : z.cps.toList.length = z.length := by simp [Str.length]
  unfold cutS
  rw [HT.sIx_nat, HT.sIx_nat, Nat.min_eq_left (show s ≤ z.length by omega), Nat.min_eq_left h2, ← List.drop_take]
  rfl
theorem cut_tail {z : Str} {s : Nat} (h1 : s ≤ z.length) : cutS z (some (s : Int)) none = ofL ((tl z).drop s) := by
  have hl : z.cps.toList.length = z.length := by simp [Str.length]
  unfold cutS
  rw [HT.sIx_nat, HT.sIx_none, Nat.min_eq_left h1, List.take_of_length_le (by rw [List.length_drop]; omega)]
  rfl
theorem sgn_eq (c d : Nat) : decide (V.str ⟨#[c]⟩ = V.str ⟨#[d]⟩) = decide (c = d) := decide_eq_decide.mpr ⟨fun h => by injection h with h; injection h with h; simpa using h, fun h => by rw [h]⟩
theorem piece_eq (l : List Nat) (d : Nat) : decide (V.str (ofL l) = V.str ⟨#[d]⟩) = decide (l = [d]) := decide_eq_decide.mpr ⟨fun h => by injection h with h; injection h with h; simpa using h, fun h => by rw [h]; rfl⟩
def spCut : Sp := fun vs H Q _ => ∃ z : Str, vs = [.str z] ∧ z.length ≤ 2000 ∧ ∀ p H', Ex H H' → H' p = some (.lst ((cutGo [] (tl z)).map fun l => V.str (ofL l))) → H p = none → Q (.ref p) H'
/-- where it is -/
structure CutAt (H H' : Hp) (p : Addr) (z : Str) (i st : Nat) (P : List (List Nat)) : Prop where
  ex : Ex H H'
  at_ : H' p = some (.lst (P.map fun l => V.str (ofL l)))
  le : st ≤ i
  eq : P ++ cutGo (((tl z).take i).drop st) ((tl z).drop i) = cutGo [] (tl z)
  len : P.length ≤ 2 * i
theorem ok_cut (T : Tx0 w K mg A) : FnOk P w K mg base CX0 1 A.cut A.d_cut p_cut spCut := by
  refine T.F_cut.ok sc_cut (fun vs H Q E h => ?_) (fun cdv Ar outer s H vs Q E hr h => ?_)
  · obtain ⟨z, rfl, _⟩ := h
    rfl
  · obtain ⟨z, rfl, hz, k⟩ := h
    refine ⟨_, (pss_cons (ps_set (i := 1) sc_cut.nd rfl (Or.inl rfl) (pe_lst pa_nil))
      (pss_cons (ps_set (i := 2) sc_cut.nd rfl (Or.inl rfl) pe_int)
      (pss_cons (ps_for PassesOwn.never rfl (UL.pi_enumS (by rfl) T.m_enumerate (pa_cons (pv 0) pa_nil)) (pg_tup (n := 2) rfl (pgs_cons (pg_name (i := 3) sc_cut.nd rfl (Or.inl rfl)) (pgs_cons (pg_name (i := 4) sc_cut.nd rfl (Or.inl rfl)) pgs_nil))) (pss_one (ps_if (pt_cmpR op_eq (pv 4) pe_str (nomark _)) (pss_cons (ps_expr (pe_bm PySem.F.plainAttrs_list PySem.F.slot_list_append PySem.F.type_list_append mt_append (pv 1) (pa_cons (pe_slice sl_str (pv 0) (po_some (pv 2)) (po_some (pe_op op_add (pv 3) pe_int))) pa_nil)))
          (pss_one (ps_set (i := 2) sc_cut.nd rfl (Or.inl rfl) (pe_op op_add (pv 3) pe_int)))) (pss_one (ps_if (PW.pt (pw_or (pt_cmpR op_eq (pv 4) pe_str (nomark _)) (pw_or1 (pt_cmpR op_eq (pv 4) pe_str (nomark _))))) (Evl.pss_cut (ps_if (pt_cmpR op_lt (pv 2) (pv 3) (nomark _)) (pss_one (ps_expr (pe_bm PySem.F.plainAttrs_list PySem.F.slot_list_append PySem.F.type_list_append mt_append (pv 1) (pa_cons (pe_slice sl_str (pv 0) (po_some (pv 2)) (po_some (pv 3))) pa_nil)))) pss_nil)
            (pss_cons (ps_expr (pe_bm PySem.F.plainAttrs_list PySem.F.slot_list_append PySem.F.type_list_append mt_append (pv 1) (pa_cons (pv 4) pa_nil)))
            (pss_one (ps_set (i := 2) sc_cut.nd rfl (Or.inl rfl) (pe_op op_add (pv 3) pe_int))))) pss_nil)))))
      (pss_cons (ps_if (pt_cmpR op_lt (pv 2) (pe_callB call_len_str (by rfl) T.m_len PySem.boot_len (pa_cons (pv 0) pa_nil)) (nomark _)) (pss_one (ps_expr (pe_bm PySem.F.plainAttrs_list PySem.F.slot_list_append PySem.F.type_list_append mt_append (pv 1) (pa_cons (pe_slice sl_str (pv 0) (po_some (pv 2)) po_none) pa_nil)))) pss_nil)
      (pss_one (ps_ret (pv 1))))))), ?_⟩
    refine ⟨Nat.zero_le _, fun p hp => ?_⟩
    have hlz : (tl z).length = z.length := (len_tl z).symm
    refine ⟨_, rfl, z, rfl, ?_⟩
    refine for_it UL.walk_enumS (fun i σ' H' => ∃ st P v3 v4, σ' = [some (.str z), some (.ref p), some (.int ((st : Nat) : Int)), v3, v4] ∧ CutAt H H' p z i st P) ⟨0, [], none, none, rfl, Ex.new hp, upd_same, Nat.le_refl _, rfl, Nat.le_refl _⟩ (fun _ _ _ _ _ => trivial) ?_ ?_
    · rintro i x σ' H1 H2 hi ⟨st, P, v3, v4, rfl, ⟨e1, hL, hle, heq, hlen⟩⟩ ⟨Tt, c, rfl, hT, rfl, hc⟩
      have hi' : i < z.length := hi
      have hcl : (tl z)[i]? = some c := by
        rw [show (tl z)[i]? = z.cps[i]? from Array.getElem?_toList]
        exact hc
      have hd : (tl z).drop i = c :: (tl z).drop (i + 1) := by
        obtain ⟨h1, h2⟩ := List.getElem?_eq_some_iff.mp hcl
        rw [List.drop_eq_getElem_cons h1, h2]
      have ht : ((tl z).take (i + 1)).drop st = ((tl z).take i).drop st ++ [c] := by
        rw [List.take_succ, hcl, List.drop_append_of_le_length (by rw [List.length_take]; omega)]
        rfl
      have hpl : (((tl z).take i).drop st).length = i - st := by rw [List.length_drop, List.length_take]; omega
      have e2 := Ex.new (o := .tup [.int (i : Nat), .str ⟨#[c]⟩]) hT
      have hL2 := e2 _ _ hL
      have e12 := e1.trans e2
      rw [hd] at heq
      have hTt : upd H1 Tt (.tup [.int (i : Nat), .str ⟨#[c]⟩]) Tt = some (.tup [.int (i : Nat), .str ⟨#[c]⟩]) := upd_same
      have hpT : p ≠ Tt := fun z => by rw [z] at hL; rw [hL] at hT; cases hT
      revert hTt e2 hL2 e12
      show Ex H1 (upd H1 Tt (.tup [.int (i : Nat), .str ⟨#[c]⟩])) → (upd H1 Tt (.tup [.int (i : Nat), .str ⟨#[c]⟩])) p = _ → Ex H (upd H1 Tt (.tup [.int (i : Nat), .str ⟨#[c]⟩])) → (upd H1 Tt (.tup [.int (i : Nat), .str ⟨#[c]⟩])) Tt = _ → gTup _ _ _ _ _ (upd H1 Tt (.tup [.int (i : Nat), .str ⟨#[c]⟩])) _
      generalize upd H1 Tt (.tup [.int (i : Nat), .str ⟨#[c]⟩]) = H2
      intro e2 hL2 e12 hTt
      refine ⟨Tt, _, rfl, SqT.of hTt, rfl, _, _, rfl, _, _, rfl, rfl, ?_⟩
      have seg : ∀ e : Nat, st ≤ e → e ≤ i + 1 → cutS z (some (st : Int)) (some (e : Int)) = ofL (((tl z).take e).drop st) := fun e h1 h2 => cut_seg h1 (by omega)
      have hsz : z.length ≤ sizeLine := sz_of (by omega)
      have psz : ∀ {l : List V}, l.length = P.length → l.length < sizeLine := fun h => sz_lt (by omega)
      have muts : ∀ xs, Ex H (upd H2 p (.lst xs)) := fun xs => e12.mut hp
      refine ⟨_, rfl, rfl, _, rfl, ?_⟩
      rw [show decide (V.str ⟨#[c]⟩ = V.str "(") = decide (c = 40) from sgn_eq c 40]
      refine ite2 (fun e => ?_) (fun n40 => ?_)
      · obtain rfl : c = 40 := of_decide_eq_true e
        refine ⟨_, rfl, .inl ⟨rfl, _, SqL.of hL2⟩, _, rfl, _, rfl, _, rfl, _, rfl, (i : Int), 1, rfl, rfl, _, rfl, z, rfl, hsz, p, _, _, rfl, rfl, hL2, psz (by rw [List.length_map]), ?_⟩
        refine ⟨_, rfl, (i : Int), 1, rfl, rfl, i + 1, P ++ [((tl z).take i).drop st ++ [40]], _, _, rfl, muts _, ?_, Nat.le_refl _, ?_, ?_⟩
        · rw [upd_same, List.map_append, show (i : Int) + 1 = ((i + 1 : Nat) : Int) by omega, seg (i + 1) (by omega) (Nat.le_refl _), ht]
          rfl
        · rw [← heq, cutGo_cons, if_pos rfl, List.drop_eq_nil_of_le (as := (tl z).take (i + 1)) (by rw [List.length_take]; omega), List.append_assoc]
          rfl
        · rw [List.length_append, List.length_singleton]
          omega
      have n1 : c ≠ 40 := fun z => n40 (decide_eq_true z)
      rw [cutGo_cons, if_neg n1] at heq
      refine ⟨_, rfl, rfl, _, rfl, ?_⟩
      rw [show decide (V.str ⟨#[c]⟩ = V.str ",") = decide (c = 44) from sgn_eq c 44]
      by_cases hc2 : c = 44 ∨ c = 41
      · rw [if_pos hc2] at heq
        rcases hc2 with h44 | h41
        · rw [decide_eq_true h44]
          refine iteT (iteT ?_)
          refine ⟨fun σ' H' => ∃ P', σ' = [some (.str z), some (.ref p), some (.int ((st : Nat) : Int)), some (.int (i : Int)), some (.str ⟨#[c]⟩)] ∧ Ex H H' ∧ H' p = some (.lst (P'.map fun l => V.str (ofL l))) ∧ P' ++ [c] :: cutGo [] ((tl z).drop (i + 1)) = cutGo [] (tl z) ∧ P'.length ≤ 2 * i + 1, ?_, ?_⟩
          · refine ⟨_, rfl, _, rfl, (st : Int), (i : Int), rfl, rfl, _, rfl, ite2 (fun e => ?_) (fun n => ?_)⟩
            · have e3 : (st : Int) < i := of_decide_eq_true e
              rw [if_neg (fun h => by rw [h] at hpl; rw [List.length_nil] at hpl; omega)] at heq
              refine ⟨_, rfl, .inl ⟨rfl, _, SqL.of hL2⟩, _, rfl, _, rfl, _, rfl, _, rfl, _, rfl, z, rfl, hsz, p, _, _, rfl, rfl, hL2, psz (by rw [List.length_map]), P ++ [((tl z).take i).drop st], rfl, muts _, ?_, ?_, ?_⟩
              · rw [upd_same, List.map_append, seg i hle (by omega)]
                rfl
              · rw [← heq, List.append_assoc]
              · rw [List.length_append, List.length_singleton]
                omega
            · have e3 : ¬ (st : Int) < i := fun z => n (decide_eq_true z)
              rw [if_pos (List.eq_nil_of_length_eq_zero (by omega)), List.nil_append] at heq
              exact ⟨P, rfl, e12, hL2, heq, by omega⟩
          · rintro σ' H3 ⟨P', rfl, e13, hL3, heq3, hl3⟩
            refine ⟨_, rfl, .inl ⟨rfl, _, SqL.of hL3⟩, _, rfl, p, _, _, rfl, rfl, hL3, sz_lt (by rw [List.length_map]; omega), ?_⟩
            refine ⟨_, rfl, (i : Int), 1, rfl, rfl, i + 1, P' ++ [[c]], _, _, rfl, e13.mut hp, ?_, Nat.le_refl _, ?_, ?_⟩
            · rw [upd_same, List.map_append]
              rfl
            · rw [← heq3, List.drop_eq_nil_of_le (as := (tl z).take (i + 1)) (by rw [List.length_take]; omega), List.append_assoc]
              rfl
            · rw [List.length_append, List.length_singleton]
              omega
        · rw [decide_eq_false (show ¬ c = 44 by omega)]
          refine iteF ⟨_, rfl, rfl, _, rfl, ?_⟩
          rw [show decide (V.str ⟨#[c]⟩ = V.str ")") = decide (c = 41) from sgn_eq c 41, decide_eq_true h41]
          refine iteT ?_
          refine ⟨fun σ' H' => ∃ P', σ' = [some (.str z), some (.ref p), some (.int ((st : Nat) : Int)), some (.int (i : Int)), some (.str ⟨#[c]⟩)] ∧ Ex H H' ∧ H' p = some (.lst (P'.map fun l => V.str (ofL l))) ∧ P' ++ [c] :: cutGo [] ((tl z).drop (i + 1)) = cutGo [] (tl z) ∧ P'.length ≤ 2 * i + 1, ?_, ?_⟩
          · refine ⟨_, rfl, _, rfl, (st : Int), (i : Int), rfl, rfl, _, rfl, ite2 (fun e => ?_) (fun n => ?_)⟩
            · have e3 : (st : Int) < i := of_decide_eq_true e
              rw [if_neg (fun h => by rw [h] at hpl; rw [List.length_nil] at hpl; omega)] at heq
              refine ⟨_, rfl, .inl ⟨rfl, _, SqL.of hL2⟩, _, rfl, _, rfl, _, rfl, _, rfl, _, rfl, z, rfl, hsz, p, _, _, rfl, rfl, hL2, psz (by rw [List.length_map]), P ++ [((tl z).take i).drop st], rfl, muts _, ?_, ?_, ?_⟩
              · rw [upd_same, List.map_append, seg i hle (by omega)]
                rfl
              · rw [← heq, List.append_assoc]
              · rw [List.length_append, List.length_singleton]
                omega
            · have e3 : ¬ (st : Int) < i := fun z => n (decide_eq_true z)
              rw [if_pos (List.eq_nil_of_length_eq_zero (by omega)), List.nil_append] at heq
              exact ⟨P, rfl, e12, hL2, heq, by omega⟩
          · rintro σ' H3 ⟨P', rfl, e13, hL3, heq3, hl3⟩
            refine ⟨_, rfl, .inl ⟨rfl, _, SqL.of hL3⟩, _, rfl, p, _, _, rfl, rfl, hL3, sz_lt (by rw [List.length_map]; omega), ?_⟩
            refine ⟨_, rfl, (i : Int), 1, rfl, rfl, i + 1, P' ++ [[c]], _, _, rfl, e13.mut hp, ?_, Nat.le_refl _, ?_, ?_⟩
            · rw [upd_same, List.map_append]
              rfl
            · rw [← heq3, List.drop_eq_nil_of_le (as := (tl z).take (i + 1)) (by rw [List.length_take]; omega), List.append_assoc]
              rfl
            · rw [List.length_append, List.length_singleton]
              omega
      · have n44 : c ≠ 44 := fun z => hc2 (.inl z)
        have n41 : c ≠ 41 := fun z => hc2 (.inr z)
        rw [if_neg hc2] at heq
        rw [decide_eq_false n44]
        refine iteF ⟨_, rfl, rfl, _, rfl, ?_⟩
        rw [show decide (V.str ⟨#[c]⟩ = V.str ")") = decide (c = 41) from sgn_eq c 41, decide_eq_false n41]
        refine iteF ?_
        exact ⟨st, P, _, _, rfl, e12, hL2, by omega, by rw [ht]; exact heq, by omega⟩
    · rintro σ' H1 ⟨st, P, v3, v4, rfl, ⟨e1, hL, hle, heq, hlen⟩⟩
      have hd : (tl z).drop z.cps.size = [] := List.drop_eq_nil_of_le (by rw [hlz]; exact Nat.le_refl _)
      have ht : (tl z).take z.cps.size = tl z := List.take_of_length_le (by rw [hlz]; exact Nat.le_refl _)
      have hle' : st ≤ z.length := hle
      have hlen' : P.length ≤ 2 * z.length := hlen
      have hpl : ((tl z).drop st).length = z.length - st := by rw [List.length_drop, hlz]
      rw [hd, ht, cutGo_nil] at heq
      refine ⟨_, rfl, _, rfl, z, rfl, sz_of (by omega), (st : Int), (z.length : Int), rfl, rfl, _, rfl, ite2 (fun e => ?_) (fun n => ?_)⟩
      · have e2 : (st : Int) < z.length := of_decide_eq_true e
        rw [if_neg (fun h => by rw [h] at hpl; rw [List.length_nil] at hpl; omega)] at heq
        refine ⟨_, rfl, .inl ⟨rfl, _, SqL.of hL⟩, _, rfl, _, rfl, _, rfl, z, rfl, sz_of (by omega), p, _, _, rfl, rfl, hL, sz_lt (by rw [List.length_map]; omega), _, rfl, k p _ (e1.mut hp) ?_ hp⟩
        rw [upd_same, cut_tail hle', ← heq, List.map_append]
        rfl
      · have e2 : ¬ (st : Int) < z.length := fun z => n (decide_eq_true z)
        rw [if_pos (List.eq_nil_of_length_eq_zero (by omega)), List.append_nil] at heq
        exact ⟨_, rfl, k p _ e1 (by rw [hL, heq]) hp⟩
/-! ### nodes and what waits, on the heap -/
def ni (os : List Nat) : List V := os.map fun n : Nat => V.int (n : Int)
def NdAt (H : Hp) (a : Addr) : Nd → Prop
  | .name w => H a = some (.tup [.str "name", .str w])
  | .call w os => ∃ t, H a = some (.tup [.str "call", .str w, .ref t]) ∧ H t = some (.tup (ni os))
  | .op w os => H a = some (.tup (.str w :: ni os))
theorem NdAt.mono {H H' : Hp} {a : Addr} {nd : Nd} (e : Ex H H') (h : NdAt H a nd) : NdAt H' a nd := by
  cases nd with
  | name w => exact e _ _ h
  | call w os =>
    obtain ⟨t, h1, h2⟩ := h
    exact ⟨t, e _ _ h1, e _ _ h2⟩
  | op w os => exact e _ _ h
/-- a list is written: the nodes stay -/
theorem NdAt.put {H : Hp} {a l : Addr} {nd : Nd} {xs ys : List V} (hl : H l = some (.lst xs)) (h : NdAt H a nd) : NdAt (upd H l (.lst ys)) a nd := by
  have kp : ∀ {b : Addr} {ts : List V}, H b = some (.tup ts) → upd H l (.lst ys) b = some (.tup ts) := fun {b ts} e => by
    rw [upd_ne (fun z => by rw [z, hl] at e; cases e)]
    exact e
  cases nd with
  | name w => exact kp h
  | call w os =>
    obtain ⟨t, h1, h2⟩ := h
    exact ⟨t, kp h1, kp h2⟩
  | op w os => exact kp h
def spOper (K : PySem.W.Frag) : Sp := fun vs H Q _ => ∃ (w : Str) (o : Addr) (os : List Nat) (nd : Nd), vs = [.str w, .ref o] ∧ H o = some (.lst (ni os)) ∧ os.length ≤ 1000 ∧ oper okS w os = some nd ∧ ∀ a H', Ex H H' → NdAt H' a nd → Q (.ref a) H'
theorem ok_operation (T : Tx0 w K mg A) : FnOk P w K mg base CX0 2 A.operation A.d_operation p_operation (spOper K) := by
  refine T.F_operation.ok sc_operation (fun vs H Q E h => ?_) (fun cdv Ar outer s H vs Q E hr h => ?_)
  · obtain ⟨w, o, os, nd, rfl, _⟩ := h
    rfl
  · obtain ⟨wd, o, os, nd, rfl, ho, hl, hop, k⟩ := h
    refine ⟨_, (pss_cons (ps_if (pt_cmpR UL.op_inW (pv 0) (pe_glob (v := .ref A.OPERATIONS) (by rfl) T.c_OPERATIONS rfl) (by rfl)) (pss_one (ps_ret (pe_ifExp (pt_cmpR op_eq (pe_callB call_len_seq (by rfl) T.m_len PySem.boot_len (pa_cons (pv 1) pa_nil)) (pe_ix UL.ix_W (pe_glob (v := .ref A.OPERATIONS) (by rfl) T.c_OPERATIONS rfl) (pv 0) (fun _ _ => rfl)) (nomark _)) (pe_tup (pa_cons (pv 0) (pa_star (pv 1) pa_nil))) pe_non))) pss_nil)
      (pss_cons (ps_if (PW.pt (pw_and (pt_val (pe_call (ok_is_name T) (hr.mono (by decide)) (by rfl) T.g_is_name T.F_is_name.kp T.b_is_name .nil pass0 (pa_cons (pv 0) pa_nil))) (pw_and1 (pt_cmpR op_le (pe_callB call_len_seq (by rfl) T.m_len PySem.boot_len (pa_cons (pv 1) pa_nil)) (pe_glob (v := .int 4) (by rfl) T.c_MOST_ARGUMENTS ⟨_, rfl⟩) (nomark _))))) (pss_one (ps_ret (pe_tup (pa_cons pe_str (pa_cons (pv 0) (pa_cons (pe_callTy call_tuple_of (by rfl) T.m_tuple (by decide +kernel) (pa_cons (pv 1) pa_nil)) pa_nil)))))) pss_nil)
      (pss_one (ps_ret pe_non)))), ?_⟩
    refine ⟨_, rfl, wd, A.OPERATIONS, opsT, rfl, rfl, T.w_OPERATIONS, _, rfl, ?_⟩
    cases hlk : opsT.lookup wd with
    | some n =>
      rw [oper_at hlk] at hop
      obtain ⟨hn, rfl⟩ := some_if hop
      refine iteT ⟨_, rfl, o, _, rfl, .inl (SqL.of ho), _, rfl, wd, A.OPERATIONS, opsT, n, rfl, rfl, T.w_OPERATIONS, hlk, rfl, _, rfl, ?_⟩
      rw [show decide (V.int ((ni os).length : Int) = V.int n) = true from decide_eq_true (by rw [show (ni os).length = os.length from List.length_map _, hn])]
      exact iteT ⟨_, rfl, _, rfl, o, _, rfl, .inr (SqL.of ho), sz_of (by show (V.str wd :: (ni os ++ [])).length ≤ 100000; rw [List.append_nil, List.length_cons, show (ni os).length = os.length from List.length_map _]; omega), fun p hp => k p _ (Ex.new hp) (by rw [List.append_nil]; exact upd_same)⟩
    | none =>
      rw [oper_no hlk] at hop
      obtain ⟨hn, rfl⟩ := some_if hop
      refine iteF ⟨_, rfl, _, rfl, .inl ⟨wd, rfl, by have := okS_len hn.1; omega⟩, fun H1 e1 => ?_⟩
      rw [show nm (.str wd) = true from hn.1]
      refine ⟨_, rfl, iteT ⟨_, rfl, o, _, rfl, .inl (SqL.of (e1 _ _ ho)), _, 4, rfl, rfl, _, rfl, ?_⟩⟩
      rw [show decide (((ni os).length : Int) ≤ 4) = true from decide_eq_true (by rw [show (ni os).length = os.length from List.length_map _]; omega)]
      refine iteT ⟨_, rfl, _, rfl, o, _, rfl, .inl ⟨SqL.of (e1 _ _ ho), fun t ht => ?_⟩⟩
      refine ⟨sz_of (by show 3 ≤ 100000; decide), fun p hp => k p _ ((e1.trans (Ex.new ht)).trans (Ex.new hp)) ⟨t, upd_same, (Ex.new hp) _ _ upd_same⟩⟩
/-! ### closing, adding -/
def es1 (it : List (Addr × Addr)) : List V := it.map fun x => V.ref x.1
def spClosed (K : PySem.W.Frag) : Sp := fun vs H Q _ => ∃ (l e o : Addr) (r : List V) (w : Str) (os : List Nat) (b : Bool) (nd : Nd), vs = [.ref l, .bl b] ∧ H l = some (.lst (r ++ [.ref e])) ∧ H e = some (.tup [.str w, .ref o]) ∧ H o = some (.lst (ni os)) ∧ o ≠ l ∧ os.length ≤ 1000 ∧ (os = [] ∨ b = true) ∧ oper okS w os = some nd ∧
  ∀ a H', Ex (upd H l (.lst r)) H' → NdAt H' a nd → Q (.ref a) H'
theorem ok_closed (T : Tx0 w K mg A) : FnOk P w K mg base CX0 3 A.closed A.d_closed p_closed (spClosed K) := by
  refine T.F_closed.ok sc_closed (fun vs H Q E h => ?_) (fun cdv Ar outer s H vs Q E hr h => ?_)
  · obtain ⟨l, e, o, r, w, os, b, nd, rfl, _⟩ := h
    rfl
  · obtain ⟨l, e, o, r, wd, os, b, nd, rfl, hl, he, ho, hne, hz, hb, hop, k⟩ := h
    refine ⟨_, (pss_cons (ps_if (pt_not (pt_truth (pv 0) (fun _ => rfl))) (pss_one (ps_ret pe_non)) pss_nil)
      (pss_cons (ps_asg (pe_bm0 PySem.F.plainAttrs_list PySem.F.slot_list_pop PySem.F.type_list_pop mt_pop (pv 0)) (pg_tup (n := 2) rfl (pgs_cons (pg_name (i := 2) sc_closed.nd rfl (Or.inl rfl)) (pgs_cons (pg_name (i := 3) sc_closed.nd rfl (Or.inl rfl)) pgs_nil))))
      (pss_cons (ps_if (PW.pt (pw_and (pt_truth (pv 3) (fun _ => rfl)) (pw_and1 (pt_not (pt_val (pv 1)))))) (pss_one (ps_ret pe_non)) pss_nil)
      (pss_one (ps_ret (pe_call (ok_operation T) (hr.mono (by decide)) (by rfl) T.g_operation T.F_operation.kp T.b_operation .nil pass0 (pa_cons (pv 2) (pa_cons (pv 3) pa_nil)))))))), ?_⟩
    have hel : e ≠ l := fun z => by rw [z, hl] at he; cases he
    have he1 : upd H l (.lst r) e = some (.tup [.str wd, .ref o]) := by rw [upd_ne hel]; exact he
    have ho1 : upd H l (.lst r) o = some (.lst (ni os)) := by rw [upd_ne hne]; exact ho
    refine ⟨_, rfl, true, .inl ⟨_, SqL.of hl, by simp⟩, iteF ?_⟩
    refine ⟨_, rfl, .inl ⟨rfl, _, SqL.of hl⟩, l, _, .ref e, rfl, rfl, hl, by simp, ?_⟩
    rw [List.dropLast_concat]
    refine ⟨e, _, rfl, SqT.of he1, rfl, _, _, rfl, _, _, rfl, rfl, ?_⟩
    have fin : tRet (tCall (spOper K) [] E0 (tCons (tVar 2) (tCons (tVar 3) tNil))) { nx := fun x H' => Q .non H', rt := Q } [some (.ref l), some (.bl b), some (.str wd), some (.ref o)] (upd H l (.lst r)) :=
      ⟨_, rfl, _, rfl, wd, o, os, nd, rfl, ho1, hz, hop, fun a H' e1 h1 => k a H' e1 h1⟩
    cases os with
    | nil => exact ⟨_, rfl, false, .inl ⟨_, SqL.of ho1, rfl⟩, iteF fin⟩
    | cons n os =>
      rcases hb with h | rfl
      · cases h
      exact ⟨_, rfl, true, .inl ⟨_, SqL.of ho1, rfl⟩, _, rfl, _, rfl, iteF fin⟩
def spAdd (K : PySem.W.Frag) : Sp := fun vs H Q _ => ∃ (N l x : Addr) (xs : List V), vs = [.ref N, .ref l, .ref x] ∧ H N = some (.lst xs) ∧ xs.length ≤ 1000 ∧ N ≠ l ∧
  ((H l = some (.lst []) ∧ Q .non (upd H N (.lst (xs ++ [.ref x])))) ∨
   ∃ (e o : Addr) (r : List V) (w : Str) (os : List Nat), H l = some (.lst (r ++ [.ref e])) ∧ r.length ≤ 1000 ∧ H e = some (.tup [.str w, .ref o]) ∧ H o = some (.lst (ni os)) ∧ o ≠ l ∧ o ≠ N ∧ os.length ≤ 1000 ∧ Q .non (upd (upd H o (.lst (ni (os ++ [xs.length])))) N (.lst (xs ++ [.ref x]))))
theorem ok_add_node (T : Tx0 w K mg A) : FnOk P w K mg base CX0 1 A.add_node A.d_add_node p_add_node (spAdd K) := by
  refine T.F_add_node.ok sc_add_node (fun vs H Q E h => ?_) (fun cdv Ar outer s H vs Q E hr h => ?_)
  · obtain ⟨N, l, x, xs, rfl, _⟩ := h
    rfl
  · obtain ⟨N, l, x, xs, rfl, hN, hz, hNl, h⟩ := h
    refine ⟨_, (pss_cons (ps_if (pt_truth (pv 1) (fun _ => rfl)) (pss_one (ps_expr (pe_bm PySem.F.plainAttrs_list PySem.F.slot_list_append PySem.F.type_list_append mt_append (pe_ix ix_tup (pe_ix ix_list (pv 1) (pe_un un_neg pe_int) (fun _ _ => rfl)) pe_int (fun _ _ => rfl)) (pa_cons (pe_callB call_len_seq (by rfl) T.m_len PySem.boot_len (pa_cons (pv 0) pa_nil)) pa_nil)))) pss_nil)
      (pss_one (ps_expr (pe_bm PySem.F.plainAttrs_list PySem.F.slot_list_append PySem.F.type_list_append mt_append (pv 0) (pa_cons (pv 2) pa_nil))))), ?_⟩
    rcases h with ⟨hl, k⟩ | ⟨e, o, r, wd, os, hl, hr2, he, ho, hol, hoN, hz2, k⟩
    · exact ⟨_, rfl, false, .inl ⟨_, SqL.of hl, rfl⟩, iteF ⟨_, rfl, .inl ⟨rfl, _, SqL.of hN⟩, _, rfl, N, xs, _, rfl, rfl, hN, sz_lt (by omega), k⟩⟩
    · refine ⟨_, rfl, true, .inl ⟨_, SqL.of hl, by simp⟩, iteT ?_⟩
      have hN2 : upd H o (.lst (ni (os ++ [xs.length]))) N = some (.lst xs) := by rw [upd_ne hoN.symm]; exact hN
      refine ⟨_, rfl, 1, rfl, l, _, -1, .ref e, rfl, rfl, SqL.of hl, UL.last_at (List.getLast?_concat ..), e, _, 1, .ref o, rfl, rfl, SqT.of he, atI_nat (j := 1) rfl, .inl ⟨rfl, _, SqL.of ho⟩, _, rfl, N, xs, rfl, .inl (SqL.of hN), o, _, _, rfl, rfl, ho, sz_lt (by rw [show (ni os).length = os.length from List.length_map _]; omega), ?_⟩
      rw [show ni os ++ [V.int (xs.length : Int)] = ni (os ++ [xs.length]) by unfold ni; rw [List.map_append]; rfl]
      exact ⟨_, rfl, .inl ⟨rfl, _, SqL.of hN2⟩, _, rfl, N, xs, _, rfl, rfl, hN2, sz_lt (by omega), k⟩
/-! ### reading -/
def WAt (H : Hp) (x : Addr × Addr) (y : Str × List Nat) : Prop := H x.1 = some (.tup [.str y.1, .ref x.2]) ∧ H x.2 = some (.lst (ni y.2))
structure RdAt (H H' : Hp) (p N l : Addr) (ps : List (List Nat)) (s : Rd) (as : List Addr) (it : List (Addr × Addr)) (i : Nat) : Prop where
  ex : Ex H H'
  hp : H' p = some (.lst (ps.map fun q => V.str (ofL q)))
  hN : H' N = some (.lst (as.map V.ref))
  hA : Al2 (NdAt H') as s.N
  hl : H' l = some (.lst (es1 it))
  hW : Al2 (WAt H') it s.W
  nd : (p :: N :: l :: it.map (·.2)).Nodup
  fr : ∀ a ∈ p :: N :: l :: it.map (·.2), H a = none
  zN : as.length ≤ i
  zW : it.length ≤ i
  zo : ∀ y ∈ s.W, y.2.length ≤ i
section
variable {H H' H'' : Hp} {p N l : Addr} {ps : List (List Nat)} {s : Rd} {as : List Addr} {it : List (Addr × Addr)} {i : Nat}
theorem WAt.mono {x : Addr × Addr} {y : Str × List Nat} (e : Ex H' H'') (h : WAt H' x y) : WAt H'' x y := ⟨e _ _ h.1, e _ _ h.2⟩
theorem RdAt.mono (R : RdAt H H' p N l ps s as it i) (e : Ex H' H'') : RdAt H H'' p N l ps s as it i :=
  ⟨R.ex.trans e, e _ _ R.hp, e _ _ R.hN, R.hA.imp fun _ _ h => h.mono e, e _ _ R.hl, R.hW.imp fun _ _ h => h.mono e, R.nd, R.fr, R.zN, R.zW, R.zo⟩
/-- a list is written that is none of those that wait -/
theorem WAt.put {x : Addr × Addr} {y : Str × List Nat} {q : Addr} {xs ys : List V} (hq : H' q = some (.lst xs)) (hne : x.2 ≠ q) (h : WAt H' x y) : WAt (upd H' q (.lst ys)) x y :=
  ⟨by rw [upd_ne (fun z => by rw [← z, h.1] at hq; cases hq)]; exact h.1, by rw [upd_ne hne]; exact h.2⟩
theorem al2_put {q : Addr} {xs ys : List V} (hq : H' q = some (.lst xs)) : ∀ {it : List (Addr × Addr)} {W : Wt}, (∀ x ∈ it, x.2 ≠ q) → Al2 (WAt H') it W → Al2 (WAt (upd H' q (.lst ys))) it W
  | [], [], _, .nil => .nil
  | _ :: _, _ :: _, hn, .cons h t => .cons (h.put hq (hn _ List.mem_cons_self)) (al2_put hq (fun x hx => hn x (List.mem_cons_of_mem _ hx)) t)
theorem RdAt.ne (R : RdAt H H' p N l ps s as it i) : p ≠ N ∧ p ≠ l ∧ N ≠ l ∧ ∀ x ∈ it, x.2 ≠ p ∧ x.2 ≠ N ∧ x.2 ≠ l := by
  have h := R.nd
  simp only [List.nodup_cons, List.mem_cons, List.mem_map, not_or, not_exists, not_and] at h
  obtain ⟨⟨h1, h2, h3⟩, ⟨h4, h5⟩, h6, h7⟩ := h
  exact ⟨h1, h2, h4, fun x hx => ⟨h3 x hx, h5 x hx, h6 x hx⟩⟩
theorem RdAt.pop {W : Wt} {y : Str × List Nat} (R : RdAt H H' p N l ps s as it i) (hW : s.W = W ++ [y]) :
    ∃ (it' : List (Addr × Addr)) (x : Addr × Addr), it = it' ++ [x] ∧ WAt H' x y ∧ RdAt H (upd H' l (.lst (es1 it'))) p N l ps ⟨s.N, W, s.b⟩ as it' i := by
  obtain ⟨n1, n2, n3, n4⟩ := R.ne
  have hw := R.hW
  rw [hW] at hw
  obtain ⟨it', x, rfl, h1, h2⟩ := hw.unsnoc
  refine ⟨it', x, rfl, h2, R.ex.mut (R.fr l (by simp)), by rw [upd_ne n2]; exact R.hp, by rw [upd_ne n3]; exact R.hN, R.hA.imp fun _ _ h => h.put R.hl, upd_same, ?_, ?_, ?_, R.zN, ?_, ?_⟩
  · exact al2_put R.hl (fun x hx => (n4 x (List.mem_append_left _ hx)).2.2) h1
  · have h := R.nd
    rw [List.map_append, ← List.cons_append, ← List.cons_append, ← List.cons_append] at h
    exact (List.nodup_append.mp h).1
  · exact fun a ha => R.fr a (by rw [List.map_append, ← List.cons_append, ← List.cons_append, ← List.cons_append]; exact List.mem_append_left _ ha)
  · have := R.zW
    rw [List.length_append] at this
    omega
  · exact fun y hy => R.zo y (by rw [hW]; exact List.mem_append_left _ hy)
theorem RdAt.add {P : Program} {K : PySem.W.Frag} {x : Addr} {nd : Nd} {Q : VK} {E : XK} (R : RdAt H H' p N l ps s as it i) (hi : i < 1000) (hx : NdAt H' x nd)
    (k : ∀ H'', RdAt H H'' p N l ps ⟨s.N ++ [nd], addTop s.W s.N.length, true⟩ (as ++ [x]) it (i + 1) → Q .non H'') : spAdd K [.ref N, .ref l, .ref x] H' Q E := by
  obtain ⟨n1, n2, n3, n4⟩ := R.ne
  have hlen : s.N.length = as.length := R.hA.len.symm
  have zN := R.zN
  have zW := R.zW
  refine ⟨N, l, x, _, rfl, R.hN, by rw [List.length_map]; omega, n3, ?_⟩
  rcases List.eq_nil_or_concat s.W with e | ⟨W, ⟨w, os⟩, e⟩
  · have hw := R.hW
    rw [e] at hw
    have hit : it = [] := by cases hw; rfl
    refine .inl ⟨by rw [R.hl, hit]; rfl, k _ ⟨R.ex.mut (R.fr N (by simp)), by rw [upd_ne n1]; exact R.hp, by rw [upd_same, List.map_append]; rfl, (R.hA.imp fun _ _ h => h.put R.hN).snoc (hx.put R.hN), by rw [upd_ne n3.symm]; exact R.hl, ?_, R.nd, R.fr, ?_, by omega, ?_⟩⟩
    · rw [e, hit]
      exact .nil
    · rw [List.length_append, List.length_singleton]
      omega
    · rw [e]
      intro y hy
      cases hy
  · rw [List.concat_eq_append] at e
    have hw := R.hW
    rw [e] at hw
    obtain ⟨it', ⟨ea, o⟩, rfl, h1, h2⟩ := hw.unsnoc
    have ho := n4 (ea, o) (by simp)
    have hzo := R.zo (w, os) (by rw [e]; simp)
    have hN2 : upd H' o (.lst (ni (os ++ [as.length]))) N = some (.lst (as.map V.ref)) := by rw [upd_ne ho.2.1.symm]; exact R.hN
    have h2a : H' ea = some (.tup [.str w, .ref o]) := h2.1
    have h2b : H' o = some (.lst (ni os)) := h2.2
    refine .inr ⟨ea, o, es1 it', w, os, by rw [R.hl]; unfold es1; rw [List.map_append]; rfl, ?_, h2a, h2b, ho.2.2, ho.2.1, by show os.length ≤ 1000; have : os.length ≤ i := hzo; omega, ?_⟩
    · rw [List.length_append, List.length_singleton] at zW
      rw [show (es1 it').length = it'.length from List.length_map _]
      omega
    rw [List.length_map]
    refine k _ ⟨(R.ex.mut (R.fr o (by simp))).mut (R.fr N (by simp)), ?_, ?_, ?_, ?_, ?_, R.nd, R.fr, ?_, by omega, ?_⟩
    · rw [upd_ne n1, upd_ne ho.1.symm]
      exact R.hp
    · rw [upd_same, List.map_append]
      rfl
    · exact ((R.hA.imp fun _ _ h => (h.put h2b).put hN2)).snoc ((hx.put h2b).put hN2)
    · rw [upd_ne n3.symm, upd_ne ho.2.2.symm]
      exact R.hl
    · rw [e, addTop_snoc, hlen]
      refine Al2.snoc ?_ ⟨?_, ?_⟩
      · have nd := R.nd
        rw [List.map_append, ← List.cons_append, ← List.cons_append, ← List.cons_append] at nd
        have nd2 := (List.nodup_append.mp nd).2.2
        refine al2_put hN2 (fun x hx => (n4 x (List.mem_append_left _ hx)).2.1) (al2_put h2b (fun x hx => ?_) h1)
        exact nd2 x.2 (by simp only [List.mem_cons, List.mem_map]; exact .inr (.inr (.inr ⟨x, hx, rfl⟩))) o (by simp)
      · show upd (upd H' o _) N _ ea = _
        rw [upd_ne (fun z => by have q := R.hN; rw [← z, h2a] at q; cases q), upd_ne (fun z => by rw [← z, h2a] at h2b; cases h2b)]
        exact h2a
      · show upd (upd H' o _) N _ o = _
        rw [upd_ne ho.2.1, upd_same]
    · rw [List.length_append, List.length_singleton]
      omega
    · rw [e, addTop_snoc]
      intro y hy
      rcases List.mem_append.mp hy with h | h
      · have := R.zo y (by rw [e]; exact List.mem_append_left _ h)
        omega
      · rw [List.mem_singleton.mp h]
        show (os ++ [s.N.length]).length ≤ i + 1
        have : os.length ≤ i := hzo
        rw [List.length_append, List.length_singleton]
        omega
theorem RdAt.push {w : Str} {o e : Addr} (R : RdAt H H' p N l ps s as it i) (ho : H' o = none) (he : upd H' o (.lst []) e = none) :
    RdAt H (upd (upd (upd H' o (.lst [])) e (.tup [.str w, .ref o])) l (.lst (es1 it ++ [.ref e]))) p N l ps ⟨s.N, s.W ++ [(w, [])], false⟩ as (it ++ [(e, o)]) (i + 1) := by
  have R2 := (R.mono (Ex.new (o := .lst []) ho)).mono (Ex.new (o := .tup [.str w, .ref o]) he)
  obtain ⟨n1, n2, n3, n4⟩ := R2.ne
  have hz : ∀ {a : Addr} {u : HO}, H' a = some u → a ≠ o := fun h z => by rw [z, ho] at h; cases h
  have hoe : o ≠ e := fun z => by rw [← z, upd_same] at he; cases he
  have hw1 : WAt (upd (upd H' o (.lst [])) e (.tup [.str w, .ref o])) (e, o) (w, []) := ⟨upd_same, by show upd _ e _ o = _; rw [upd_ne hoe, upd_same]; rfl⟩
  have zN := R.zN
  have zW := R.zW
  refine ⟨R2.ex.mut (R.fr l (by simp)), by rw [upd_ne n2]; exact R2.hp, by rw [upd_ne n3]; exact R2.hN, R2.hA.imp fun _ _ h => h.put R2.hl, by rw [upd_same]; unfold es1; rw [List.map_append]; rfl, ?_, ?_, ?_, by omega, ?_, ?_⟩
  · exact (al2_put R2.hl (fun x hx => (n4 x hx).2.2) R2.hW).snoc (hw1.put R2.hl (hz R.hl).symm)
  · rw [List.map_append, ← List.cons_append, ← List.cons_append, ← List.cons_append]
    refine List.nodup_append.mpr ⟨R.nd, by simp, fun a ha b hb => ?_⟩
    rw [List.mem_singleton.mp (show b ∈ [o] from hb)]
    simp only [List.mem_cons, List.mem_map] at ha
    rcases ha with rfl | rfl | rfl | ⟨x, hx, rfl⟩
    · exact hz R.hp
    · exact hz R.hN
    · exact hz R.hl
    · obtain ⟨y, _, hy⟩ : ∃ y, y ∈ s.W ∧ WAt H' x y := by
        obtain ⟨j, hj⟩ := List.getElem?_of_mem hx
        obtain ⟨y, h1, h2⟩ := R.hW.get j x hj
        exact ⟨y, List.mem_of_getElem? h1, h2⟩
      exact hz hy.2
  · intro a ha
    rw [List.map_append, ← List.cons_append, ← List.cons_append, ← List.cons_append] at ha
    rcases List.mem_append.mp ha with h | h
    · exact R.fr a h
    · rw [List.mem_singleton.mp (show a ∈ [o] from h)]
      exact R.ex.free' ho
  · rw [List.length_append, List.length_singleton]
    omega
  · intro y hy
    rcases List.mem_append.mp hy with h | h
    · have := R.zo y h
      omega
    · rw [List.mem_singleton.mp h]
      exact Nat.zero_le _
end
def spNodesOf : Sp := fun vs H Q _ => ∃ (z : Str) (ns : List Nd), vs = [.str z] ∧ z.length ≤ 400 ∧ rrun okS ⟨[], [], false⟩ (cutGo [] (tl z)) = some ⟨ns, [], true⟩ ∧
  ∀ N as H', Ex H H' → H N = none → H' N = some (.lst (as.map V.ref)) → Al2 (NdAt H') as ns → Q (.ref N) H'
theorem ok_nodes_of (T : Tx0 w K mg A) : FnOk P w K mg base CX0 4 A.nodes_of A.d_nodes_of p_nodes_of spNodesOf := by
  refine T.F_nodes_of.ok sc_nodes_of (fun vs H Q E h => ?_) (fun cdv Ar outer s H vs Q E hr h => ?_)
  · obtain ⟨z, ns, rfl, _⟩ := h
    rfl
  · obtain ⟨z, ns, rfl, hz, hrun, k⟩ := h
    refine ⟨_, (pss_cons (ps_set (i := 1) sc_nodes_of.nd rfl (Or.inl rfl) (pe_lst pa_nil))
      (pss_cons (ps_set (i := 2) sc_nodes_of.nd rfl (Or.inl rfl) (pe_lst pa_nil))
      (pss_cons (ps_set (i := 3) sc_nodes_of.nd rfl (Or.inl rfl) pe_bl)
      (pss_cons (ps_for PassesOwn.never rfl (pi_list (pe_call (ok_cut T) (hr.mono (by decide)) (by rfl) T.g_cut T.F_cut.kp T.b_cut .nil pass0 (pa_cons (pv 0) pa_nil))) (pg_name (i := 4) sc_nodes_of.nd rfl (Or.inl rfl)) (pss_one (ps_if (pt_cmpR op_eq (pv 4) pe_str (nomark _)) (pss_cons (ps_if (PW.pt (pw_or (pt_not (pt_truth (pv 2) (fun _ => rfl))) (pw_or1 (pt_not (pt_val (pv 3)))))) (pss_one (ps_ret pe_non)) pss_nil)
          (pss_one (ps_set (i := 3) sc_nodes_of.nd rfl (Or.inl rfl) pe_bl))) (pss_one (ps_if (pt_cmpR op_eq (pv 4) pe_str (nomark _)) (pss_cons (ps_set (i := 5) sc_nodes_of.nd rfl (Or.inl rfl) (pe_call (ok_closed T) (hr.mono (by decide)) (by rfl) T.g_closed T.F_closed.kp T.b_closed .nil pass0 (pa_cons (pv 2) (pa_cons (pv 3) pa_nil))))
            (pss_cons (ps_if (pt_cmpR op_isN (pv 5) pe_non (nomark _)) (pss_one (ps_ret pe_non)) pss_nil)
            (pss_cons (ps_expr (pe_call (ok_add_node T) (hr.mono (by decide)) (by rfl) T.g_add_node T.F_add_node.kp T.b_add_node .nil pass0 (pa_cons (pv 1) (pa_cons (pv 2) (pa_cons (pv 5) pa_nil)))))
            (pss_one (ps_set (i := 3) sc_nodes_of.nd rfl (Or.inl rfl) pe_bl))))) (pss_one (ps_if (pt_val (pv 3)) (pss_one (ps_ret pe_non)) (pss_one (ps_if (pt_cmpR op_eq (pe_ix ix_str (pv 4) (pe_un un_neg pe_int) (fun _ _ => rfl)) pe_str (nomark _)) (pss_one (ps_expr (pe_bm PySem.F.plainAttrs_list PySem.F.slot_list_append PySem.F.type_list_append mt_append (pv 2) (pa_cons (pe_tup (pa_cons (pe_slice sl_str (pv 4) po_none (po_some (pe_un un_neg pe_int))) (pa_cons (pe_lst pa_nil) pa_nil))) pa_nil)))) (pss_one (ps_if (pt_val (pe_call (ok_is_name T) (hr.mono (by decide)) (by rfl) T.g_is_name T.F_is_name.kp T.b_is_name .nil pass0 (pa_cons (pv 4) pa_nil))) (pss_cons (ps_expr (pe_call (ok_add_node T) (hr.mono (by decide)) (by rfl) T.g_add_node T.F_add_node.kp T.b_add_node .nil pass0 (pa_cons (pv 1) (pa_cons (pv 2) (pa_cons (pe_tup (pa_cons pe_str (pa_cons (pv 4) pa_nil))) pa_nil)))))
                  (pss_one (ps_set (i := 3) sc_nodes_of.nd rfl (Or.inl rfl) pe_bl))) (pss_one (ps_ret pe_non)))))))))))))
      (pss_one (ps_ret (pe_ifExp (PW.pt (pw_and (pt_val (pv 3)) (pw_and1 (pt_not (pt_truth (pv 2) (fun _ => rfl)))))) (pv 1) pe_non))))))), ?_⟩
    refine ⟨Nat.zero_le _, fun N hNn => ⟨Nat.zero_le _, fun l hln => ?_⟩⟩
    have hlN : l ≠ N := fun z => by rw [z, upd_same] at hln; cases hln
    refine ⟨_, rfl, z, rfl, by omega, fun p H1 e1 hp1 hpn => ?_⟩
    have hps : ∀ q ∈ cutGo [] (tl z), q ≠ [] ∧ q.length ≤ 400 := fun q hq => by
      have := cut_mem (tl z) [] q hq
      rw [← len_tl, List.length_nil] at this
      exact ⟨this.1, by omega⟩
    have hcnt : (cutGo [] (tl z)).length ≤ 801 := by
      have := cut_count (tl z) []
      rw [← len_tl] at this
      omega
    generalize cutGo [] (tl z) = ps at hrun hp1 hps hcnt
    have eN := Ex.new (o := .lst []) hNn
    have el := Ex.new (o := .lst []) hln
    have hlH : H l = none := by rw [upd_ne hlN] at hln; exact hln
    have hpN : p ≠ N := fun z => by rw [z, upd_ne hlN.symm, upd_same] at hpn; cases hpn
    have hpl : p ≠ l := fun z => by rw [z, upd_same] at hpn; cases hpn
    have hpH : H p = none := by rw [upd_ne hpl, upd_ne hpN] at hpn; exact hpn
    have R0 : RdAt H H1 p N l ps ⟨[], [], false⟩ [] [] 0 := ⟨(eN.trans el).trans e1, hp1, e1 _ _ (el _ _ upd_same), .nil, e1 _ _ upd_same, .nil, by simp [hpN, hpl, hlN.symm], fun a ha => by
      simp only [List.map_nil, List.mem_cons, List.not_mem_nil, or_false] at ha
      rcases ha with rfl | rfl | rfl
      · exact hpH
      · exact hNn
      · exact hlH, Nat.le_refl _, Nat.le_refl _, fun y hy => by cases hy⟩
    refine ⟨p, rfl, ⟨_, SqL.of hp1⟩, ?_⟩
    refine for_it (walk_list (xs := ps.map fun q => V.str (ofL q))) (fun i σ' H' => ∃ (s : Rd) (as : List Addr) (it : List (Addr × Addr)) (v4 v5 : Option V), σ' = [some (.str z), some (.ref N), some (.ref l), some (.bl s.b), v4, v5] ∧ RdAt H H' p N l ps s as it i ∧ rrun okS s (ps.drop i) = some ⟨ns, [], true⟩) ⟨_, [], [], none, none, rfl, R0, hrun⟩ (fun i σ' H' _ ⟨_, _, _, _, _, _, R, _⟩ => SqL.of R.hp) ?_ ?_
    · rintro i x σ' H2 H3 hi ⟨s, as, it, v4, v5, rfl, R, hrr⟩ ⟨rfl, hx⟩
      rw [List.length_map] at hi
      obtain ⟨pc, hpc, rfl⟩ : ∃ pc, ps[i]? = some pc ∧ V.str (ofL pc) = x := by
        rw [List.getElem?_map] at hx
        exact Option.map_eq_some_iff.mp hx
      have hmem := hps pc (List.mem_of_getElem? hpc)
      have hd : ps.drop i = pc :: ps.drop (i + 1) := by
        obtain ⟨h1, h2⟩ := List.getElem?_eq_some_iff.mp hpc
        rw [List.drop_eq_getElem_cons h1, h2]
      rw [hd, rrun] at hrr
      obtain ⟨s', hst, hrr'⟩ := Option.bind_eq_some_iff.mp hrr
      have hlen : (ofL pc).length = pc.length := by rw [len_tl, tl_ofL]
      refine ⟨_, rfl, rfl, _, rfl, ?_⟩
      rw [show decide (V.str (ofL pc) = V.str ",") = decide (pc = [44]) from piece_eq pc 44]
      by_cases h44 : pc = [44]
      · subst h44
        obtain ⟨w1, w2, rfl⟩ := rstep_comma hst
        rw [decide_eq_true (rfl : [44] = [44])]
        refine iteT ?_
        have hne : it ≠ [] := fun z => by
          have hw := R.hW
          rw [z] at hw
          cases hW : s.W with
          | nil => exact w1 hW
          | cons a r =>
            rw [hW] at hw
            cases hw
        refine ⟨_, rfl, true, .inl ⟨_, SqL.of R.hl, by cases it with | nil => exact absurd rfl hne | cons a r => rfl⟩, iteF ?_⟩
        refine ⟨_, rfl, s.b, rfl, ?_⟩
        rw [w2]
        refine iteF ⟨_, as, it, _, _, rfl, ?_, hrr'⟩
        exact ⟨R.ex, R.hp, R.hN, R.hA, R.hl, R.hW, R.nd, R.fr, Nat.le_succ_of_le R.zN, Nat.le_succ_of_le R.zW, fun y hy => Nat.le_succ_of_le (R.zo y hy)⟩
      rw [decide_eq_false h44]
      refine iteF ⟨_, rfl, rfl, _, rfl, ?_⟩
      rw [show decide (V.str (ofL pc) = V.str ")") = decide (pc = [41]) from piece_eq pc 41]
      by_cases h41 : pc = [41]
      · subst h41
        obtain ⟨W, w1, os, nd, hW, hb, hop, rfl⟩ := rstep_close hst
        rw [decide_eq_true (rfl : [41] = [41])]
        refine iteT ?_
        obtain ⟨it', ⟨e, o⟩, rfl, hwa, R2⟩ := R.pop hW
        have hwe : H3 e = some (.tup [.str w1, .ref o]) := hwa.1
        have hwo : H3 o = some (.lst (ni os)) := hwa.2
        have hol := (R.ne.2.2.2 (e, o) (by simp)).2.2
        have hzo := R.zo (w1, os) (by rw [hW]; simp)
        refine ⟨_, rfl, _, rfl, l, e, o, es1 it', w1, os, s.b, nd, rfl, by rw [R.hl]; unfold es1; rw [List.map_append]; rfl, hwe, hwo, hol, by have : os.length ≤ i := hzo; omega, hb, hop, fun a H4 e4 ha => ?_⟩
        refine ⟨_, rfl, rfl, _, rfl, ?_⟩
        rw [decide_eq_false (show ¬ V.ref a = V.non by intro z; cases z)]
        refine iteF ⟨_, rfl, _, rfl, _, rfl, ?_⟩
        dsimp only [tNil]
        refine (R2.mono e4).add (P := P) (by omega) ha fun H5 R5 => ?_
        exact ⟨_, _, _, _, _, rfl, R5, hrr'⟩
      rw [decide_eq_false h41]
      refine iteF ?_
      obtain ⟨hb, hcase⟩ := rstep_else h44 h41 hst
      refine ⟨_, rfl, s.b, rfl, ?_⟩
      rw [hb]
      refine iteF ?_
      obtain ⟨r, c, rfl⟩ : ∃ r c, pc = r ++ [c] := by
        rcases List.eq_nil_or_concat pc with h | ⟨r, c, h⟩
        · exact absurd h hmem.1
        · exact ⟨r, c, by rw [h, List.concat_eq_append]⟩
      have hz1 : (ofL (r ++ [c])).length ≤ sizeLine := sz_of (by have := hmem.2; omega)
      refine ⟨_, rfl, 1, rfl, ofL (r ++ [c]), -1, c, rfl, rfl, hz1, by rw [show (ofL (r ++ [c])).cps.toList = r ++ [c] from tl_ofL _]; exact UL.last_at (List.getLast?_concat ..), rfl, _, rfl, ?_⟩
      rw [show decide (V.str ⟨#[c]⟩ = V.str "(") = decide (c = 40) from sgn_eq c 40]
      rcases hcase with ⟨hl, rfl⟩ | ⟨hl, hk, rfl⟩
      · obtain rfl : c = 40 := by rw [List.getLast?_concat] at hl; exact Option.some.inj hl
        rw [decide_eq_true (rfl : 40 = 40)]
        refine iteT ?_
        rw [List.dropLast_concat] at hrr'
        refine ⟨_, rfl, .inl ⟨rfl, _, SqL.of R.hl⟩, _, rfl, 1, rfl, _, rfl, _, rfl, hz1, Nat.zero_le _, fun o ho => ⟨sz_of (by show 2 ≤ 100000; decide), fun e he => ?_⟩⟩
        have R2 := R.push (w := ofL r) ho he
        rw [show cutS (ofL (r ++ [40])) none (some (-1)) = ofL r by rw [UL.cut_last, List.dropLast_concat]]
        have hl3 : upd (upd H3 o (.lst [])) e (.tup [.str (ofL r), .ref o]) l = some (.lst (es1 it)) := ((R.mono (Ex.new (o := .lst []) ho)).mono (Ex.new (o := .tup [.str (ofL r), .ref o]) he)).hl
        exact ⟨l, _, _, rfl, rfl, hl3, sz_lt (by rw [show (es1 it).length = it.length from List.length_map _]; have := R.zW; omega), _, as, it ++ [(e, o)], _, _, rfl, R2, hrr'⟩
      · have hc : c ≠ 40 := fun z => hl (by rw [z, List.getLast?_concat])
        rw [decide_eq_false hc]
        refine iteF ?_
        have hk8 := okS_len hk
        refine ⟨_, rfl, _, rfl, .inl ⟨_, rfl, by omega⟩, fun H4 e4 => ?_⟩
        rw [show nm (.str (ofL (r ++ [c]))) = true from hk]
        refine ⟨_, rfl, iteT ⟨_, rfl, _, rfl, _, rfl, sz_of (by show 2 ≤ 100000; decide), fun a ha => ?_⟩⟩
        dsimp only [tNil]
        refine ((R.mono e4).mono (Ex.new ha)).add (P := P) (nd := .name (ofL (r ++ [c]))) (by omega) upd_same fun H5 R5 => ?_
        exact ⟨_, _, _, _, _, rfl, R5, hrr'⟩
    · rintro σ' H2 ⟨s, as, it, v4, v5, rfl, R, hrr⟩
      rw [List.length_map, List.drop_length] at hrr
      obtain rfl := Option.some.inj hrr
      have hit : it = [] := by
        have hw := R.hW
        cases hw
        rfl
      refine ⟨_, rfl, true, rfl, iteT ⟨_, rfl, false, .inl ⟨_, SqL.of R.hl, by rw [hit]; rfl⟩, iteT ⟨_, rfl, ?_⟩⟩⟩
      exact k N as H2 R.ex hNn R.hN R.hA
end
end K18

set_option Elab.async false
set_option linter.all false
set_option maxRecDepth 100000
namespace K18
open PySem PySem.Spec PyProof.Rows L2 Evl TL UL StX
section
variable {P : Program} {w : World} {K : PySem.W.Frag} {mg : Str → Option Value} {base : Heap} {A : Adr}
/-! ### operands, ranges -/
theorem no_name : opsT.lookup ("name" : Str) = none := by decide +kernel
theorem no_call : opsT.lookup ("call" : Str) = none := by decide +kernel
theorem opw_ne {w : Str} {os : List Nat} (h : WfNd (.op w os)) : w ≠ "name" ∧ w ≠ "call" := by
  have h : opsT.lookup w = some (os.length : Int) := h
  exact ⟨(fun z => by rw [z, no_name] at h; cases h), (fun z => by rw [z, no_call] at h; cases h)⟩
theorem str_eqb (a b : Str) : decide (V.str a = V.str b) = decide (a = b) := decide_eq_decide.mpr ⟨fun h => by injection h, fun h => by rw [h]⟩
theorem ni_len (os : List Nat) : (ni os).length = os.length := List.length_map _
def spOpsOf : Sp := fun vs H Q _ => ∃ a nd, vs = [.ref a] ∧ NdAt H a nd ∧ WfNd nd ∧ ∀ p H', Ex H H' → H' p = some (.tup (ni (opsOf nd))) → Q (.ref p) H'
theorem ok_operands_of (T : Tx0 w K mg A) : FnOk P w K mg base CX0 1 A.operands_of A.d_operands_of p_operands_of spOpsOf := by
  refine T.F_operands_of.ok sc_operands_of (fun vs H Q E h => ?_) (fun cdv Ar outer s H vs Q E hr h => ?_)
  · obtain ⟨a, nd, rfl, _⟩ := h
    rfl
  · obtain ⟨a, nd, rfl, ha, hw, k⟩ := h
    refine ⟨_, (pss_cons (ps_if (pt_cmpR op_eq (pe_ix ix_tup (pv 0) pe_int (fun _ _ => rfl)) pe_str (nomark _)) (pss_one (ps_ret (pe_tup pa_nil))) pss_nil)
      (pss_cons (ps_if (pt_cmpR op_eq (pe_ix ix_tup (pv 0) pe_int (fun _ _ => rfl)) pe_str (nomark _)) (pss_one (ps_ret (pe_ix ix_tup (pv 0) pe_int (fun _ _ => rfl)))) pss_nil)
      (pss_one (ps_ret (pe_slice sl_tup (pv 0) (po_some pe_int) po_none))))), ?_⟩
    cases nd with
    | name wd =>
      have h : H a = some (.tup [.str "name", .str wd]) := ha
      refine ⟨_, rfl, a, _, 0, .str "name", rfl, rfl, SqT.of h, atI_nat (j := 0) rfl, rfl, _, rfl, ?_⟩
      rw [str_eqb, decide_eq_true rfl]
      exact iteT ⟨Nat.zero_le _, fun p hp => k p _ (Ex.new hp) upd_same⟩
    | call wd os =>
      obtain ⟨t, h, ht⟩ := ha
      refine ⟨_, rfl, a, _, 0, .str "call", rfl, rfl, SqT.of h, atI_nat (j := 0) rfl, rfl, _, rfl, ?_⟩
      rw [str_eqb, decide_eq_false (by decide +kernel)]
      refine iteF ⟨_, rfl, a, _, 0, .str "call", rfl, rfl, SqT.of h, atI_nat (j := 0) rfl, rfl, _, rfl, ?_⟩
      rw [str_eqb, decide_eq_true rfl]
      exact iteT ⟨_, rfl, a, _, 2, .ref t, rfl, rfl, SqT.of h, atI_nat (j := 2) rfl, k t _ (Ex.refl H) ht⟩
    | op wd os =>
      have h : H a = some (.tup (.str wd :: ni os)) := ha
      obtain ⟨n1, n2⟩ := opw_ne hw
      refine ⟨_, rfl, a, _, 0, .str wd, rfl, rfl, SqT.of h, atI_nat (j := 0) rfl, rfl, _, rfl, ?_⟩
      rw [str_eqb, decide_eq_false n1]
      refine iteF ⟨_, rfl, a, _, 0, .str wd, rfl, rfl, SqT.of h, atI_nat (j := 0) rfl, rfl, _, rfl, ?_⟩
      rw [str_eqb, decide_eq_false n2]
      refine iteF ⟨_, rfl, 1, rfl, a, _, rfl, SqT.of h, fun z => ?_, fun p hp => k p _ (Ex.new hp) (by rw [upd_same, show cutV (V.str wd :: ni os) (some 1) none = (V.str wd :: ni os).drop 1 from UL.cut_from _ 1]; rfl)⟩
      have z1 := z.1
      rw [show HT.sIx (V.str wd :: ni os).length 0 (some 1) = min 1 (V.str wd :: ni os).length from HT.sIx_nat _ 0 1, List.length_cons] at z1
      omega
def spFirsts : Sp := fun vs H Q _ => ∃ N as ns, vs = [.ref N] ∧ H N = some (.lst (as.map V.ref)) ∧ Al2 (NdAt H) as ns ∧ WfN ns ∧ ns.length ≤ 1000 ∧ ∀ p H', Ex H H' → H' p = some (.lst (ni (firstsL ns))) → H p = none → Q (.ref p) H'
theorem ok_firsts_of (T : Tx0 w K mg A) : FnOk P w K mg base CX0 2 A.firsts_of A.d_firsts_of p_firsts_of spFirsts := by
  refine T.F_firsts_of.ok sc_firsts_of (fun vs H Q E h => ?_) (fun cdv Ar outer s H vs Q E hr h => ?_)
  · obtain ⟨N, as, ns, rfl, _⟩ := h
    rfl
  · obtain ⟨N, as, ns, rfl, hN, hA, hwf, hz, k⟩ := h
    refine ⟨_, (pss_cons (ps_set (i := 1) sc_firsts_of.nd rfl (Or.inl rfl) (pe_lst pa_nil))
      (pss_cons (ps_for PassesOwn.never rfl (pi_enum (by rfl) T.m_enumerate (pa_cons (pv 0) pa_nil)) (pg_tup (n := 2) rfl (pgs_cons (pg_name (i := 2) sc_firsts_of.nd rfl (Or.inl rfl)) (pgs_cons (pg_name (i := 3) sc_firsts_of.nd rfl (Or.inl rfl)) pgs_nil))) (pss_cons (ps_set (i := 4) sc_firsts_of.nd rfl (Or.inl rfl) (pe_call (ok_operands_of T) (hr.mono (by decide)) (by rfl) T.g_operands_of T.F_operands_of.kp T.b_operands_of .nil pass0 (pa_cons (pv 3) pa_nil)))
        (pss_one (ps_expr (pe_bm PySem.F.plainAttrs_list PySem.F.slot_list_append PySem.F.type_list_append mt_append (pv 1) (pa_cons (pe_ifExp (pt_truth (pv 4) (fun _ => rfl)) (pe_ix ix_list (pv 1) (pe_ix ix_tup (pv 4) pe_int (fun _ _ => rfl)) (fun _ _ => rfl)) (pv 2)) pa_nil))))))
      (pss_one (ps_ret (pv 1))))), ?_⟩
    refine ⟨Nat.zero_le _, fun p hp => ?_⟩
    have hlen := hA.len
    refine ⟨_, rfl, N, _, rfl, SqL.of ((Ex.new hp) _ _ hN), ?_⟩
    refine for_it (walk_enum (xs := as.map V.ref)) (fun i σ' H' => ∃ v2 v3 v4, σ' = [some (.ref N), some (.ref p), v2, v3, v4] ∧ Ex H H' ∧ H' p = some (.lst (ni (firstsL (ns.take i))))) ⟨_, _, _, rfl, Ex.new hp, upd_same⟩ (fun i σ' H' _ ⟨_, _, _, _, e, _⟩ => SqL.of (e _ _ hN)) ?_ ?_
    · rintro i x σ' H1 H2 hi ⟨v2, v3, v4, rfl, e1, hL⟩ ⟨Tt, y1, y2, rfl, hT, rfl, h1, h2⟩
      rw [List.length_map] at hi
      cases h1
      obtain ⟨a, ha, rfl⟩ : ∃ a, as[i]? = some a ∧ V.ref a = y2 := by
        have h3 : (as.map V.ref)[i]? = some y2 := h2
        rw [List.getElem?_map] at h3
        exact Option.map_eq_some_iff.mp h3
      obtain ⟨nd, hnd, had⟩ := hA.get i a ha
      obtain ⟨w1, w2⟩ := hwf i nd hnd
      have e2 := Ex.new (o := .tup [.int (i : Nat), .ref a]) hT
      have hL2 := e2 _ _ hL
      have e12 := e1.trans e2
      have hTt : upd H1 Tt (.tup [.int (i : Nat), .ref a]) Tt = some (.tup [.int (i : Nat), .ref a]) := upd_same
      refine ⟨Tt, _, rfl, SqT.of hTt, rfl, _, _, rfl, _, _, rfl, rfl, ?_⟩
      refine ⟨_, rfl, a, nd, rfl, had.mono e12, w1, fun q H3 e3 hq => ?_⟩
      have hL3 := e3 _ _ hL2
      have e13 := e12.trans e3
      have hfl : (firstsL (ns.take i)).length = i := by rw [firstsL_len, List.length_take]; omega
      have htk : ns.take (i + 1) = ns.take i ++ [nd] := by rw [List.take_succ, hnd]; rfl
      have fin : ∀ n : Nat, n = fstOf (firstsL (ns.take i)) nd → upd H3 p (.lst (ni (firstsL (ns.take i)) ++ [.int (n : Int)])) p = some (.lst (ni (firstsL (ns.take (i + 1))))) := fun n e => by
        rw [upd_same, htk, firstsL_snoc, e]
        unfold ni
        rw [List.map_append]
        rfl
      have hsz : (ni (firstsL (ns.take i))).length < sizeLine := sz_lt (by rw [ni_len]; omega)
      refine ⟨_, rfl, .inl ⟨rfl, _, SqL.of hL3⟩, _, rfl, ?_⟩
      cases ho : opsOf nd with
      | nil =>
        rw [ho] at hq
        exact ⟨false, .inr (.inl ⟨_, SqT.of hq, rfl⟩), iteF ⟨_, rfl, p, _, _, rfl, rfl, hL3, hsz, _, _, _, rfl, e13.mut hp, fin i (by unfold fstOf; rw [ho, hfl])⟩⟩
      | cons n r =>
        rw [ho] at hq
        have hn : n < i := w2 n (by rw [ho]; exact List.mem_cons_self)
        have hg : (ni (firstsL (ns.take i)))[n]? = some (.int (((firstsL (ns.take i)).getD n 0 : Nat) : Int)) := by
          unfold ni
          rw [List.getElem?_map, List.getD_eq_getElem?_getD, List.getElem?_eq_getElem (by omega)]
          rfl
        exact ⟨true, .inr (.inl ⟨_, SqT.of hq, rfl⟩), iteT ⟨_, rfl, _, rfl, q, _, 0, .int (n : Int), rfl, rfl, SqT.of hq, atI_nat (j := 0) rfl, p, _, (n : Int), _, rfl, rfl, SqL.of hL3, atI_nat hg, p, _, _, rfl, rfl, hL3, hsz, _, _, _, rfl, e13.mut hp, fin _ (by unfold fstOf; rw [ho])⟩⟩
    · rintro σ' H1 ⟨v2, v3, v4, rfl, e1, hL⟩
      rw [List.length_map, hlen, List.take_length] at hL
      exact ⟨_, rfl, k p H1 e1 hL hp⟩
/-! ### the class -/
def exF (t f : Addr) : List (Str × V) := putF "_firsts" (.ref f) (putF "_nodes" (.ref t) [])
def ExAt (C : Addr) (H : Hp) (x : Addr) (ns : List Nd) : Prop := ∃ dx t f as, H x = some (.ins C dx (exF t f)) ∧ H t = some (.tup (as.map V.ref)) ∧ Al2 (NdAt H) as ns ∧ H f = some (.lst (ni (firstsL ns)))
theorem ExAt.mono {C : Addr} {H H' : Hp} {x : Addr} {ns : List Nd} (e : Ex H H') (h : ExAt C H x ns) : ExAt C H' x ns := by
  obtain ⟨dx, t, f, as, h1, h2, h3, h4⟩ := h
  exact ⟨dx, t, f, as, e _ _ h1, e _ _ h2, h3.imp fun _ _ h => h.mono e, e _ _ h4⟩
theorem NdAt.ins {C dx : Addr} {fs gs : List (Str × V)} {H : Hp} {a x : Addr} {nd : Nd} (hx : H x = some (.ins C dx fs)) (h : NdAt H a nd) : NdAt (upd H x (.ins C dx gs)) a nd := by
  have kp : ∀ {b : Addr} {ts : List V}, H b = some (.tup ts) → upd H x (.ins C dx gs) b = some (.tup ts) := fun {b ts} e => by
    rw [upd_ne (fun z => by rw [z, hx] at e; cases e)]
    exact e
  cases nd with
  | name w => exact kp h
  | call w os =>
    obtain ⟨t, h1, h2⟩ := h
    exact ⟨t, kp h1, kp h2⟩
  | op w os => exact kp h
def spExInit (C : Addr) : Sp := fun vs H Q _ => ∃ x dx N as ns, vs = [.ref x, .ref N] ∧ H x = some (.ins C dx []) ∧ H N = some (.lst (as.map V.ref)) ∧ Al2 (NdAt H) as ns ∧ WfN ns ∧ ns.length ≤ 1000 ∧ ∀ H', (∀ b o, b ≠ x → H b = some o → H' b = some o) → ExAt C H' x ns → Q .non H'
theorem ok_ex_init (T : Tx0 w K mg A) : FnOk P w K mg base CX0 3 A.ex_init A.d_ex_init p_ex_init (spExInit A.Expression) := by
  refine T.F_ex_init.ok sc_ex_init (fun vs H Q E h => ?_) (fun cdv Ar outer s H vs Q E hr h => ?_)
  · obtain ⟨x, dx, N, as, ns, rfl, _⟩ := h
    rfl
  · obtain ⟨x, dx, N, as, ns, rfl, hx, hN, hA, hwf, hz, k⟩ := h
    refine ⟨_, (pss_cons (ps_fld (pv 0) (pe_callTy call_tuple_of (by rfl) T.m_tuple (by decide +kernel) (pa_cons (pv 1) pa_nil)) rfl)
      (pss_one (ps_fld (pv 0) (pe_call (ok_firsts_of T) (hr.mono (by decide)) (by rfl) T.g_firsts_of T.F_firsts_of.kp T.b_firsts_of .nil pass0 (pa_cons (pv 1) pa_nil)) rfl))), ?_⟩
    refine ⟨_, rfl, N, _, rfl, .inl ⟨SqL.of hN, fun t ht => ?_⟩⟩
    have e1 := Ex.new (o := .tup (as.map V.ref)) ht
    have hxt : x ≠ t := fun z => by rw [← z, hx] at ht; cases ht
    refine ⟨_, rfl, x, _, dx, _, rfl, e1 _ _ hx, T.cl_Expression, T.na_Expression__nodes, (by decide), ?_⟩
    have hx1 := e1 _ _ hx
    generalize hH1 : upd H t (.tup (as.map V.ref)) = H1 at e1 hx1
    have ht1 : H1 t = some (.tup (as.map V.ref)) := by rw [← hH1, upd_same]
    have hA1 := hA.imp fun _ _ h => h.mono e1
    have hN1 := e1 _ _ hN
    have hNx : N ≠ x := fun z => by rw [z, hx1] at hN1; cases hN1
    have htx : t ≠ x := hxt.symm
    refine ⟨_, rfl, N, as, ns, rfl, by rw [upd_ne hNx]; exact hN1, hA1.imp fun _ _ h => h.ins hx1, hwf, hz, fun p H3 e3 hp hpn => ?_⟩
    have hx3 : H3 x = some (.ins A.Expression dx (putF "_nodes" (.ref t) [])) := e3 _ _ upd_same
    have hpx : p ≠ x := fun z => by rw [z, hx3] at hp; cases hp
    refine ⟨_, rfl, x, _, dx, _, rfl, hx3, T.cl_Expression, T.na_Expression__firsts, (by show 1 < 1000; decide), ?_⟩
    have kp : ∀ b o, b ≠ x → H1 b = some o → upd H3 x (.ins A.Expression dx (exF t p)) b = some o := fun b o n h => by
      rw [upd_ne n]
      exact e3 _ _ (by rw [upd_ne n]; exact h)
    refine k _ (fun b o n h => kp b o n (e1 _ _ h)) ⟨dx, t, p, as, upd_same, kp _ _ htx ht1, ?_, by rw [upd_ne hpx]; exact hp⟩
    exact ((hA1.imp fun _ _ h => h.ins hx1).imp fun _ _ h => h.mono e3).imp fun _ _ h => h.ins hx3
theorem ex_look (t f : Addr) : (exF t f).lookup ("_nodes" : Str) = some (.ref t) := rfl
theorem ex_look2 (t f : Addr) : (exF t f).lookup ("_firsts" : Str) = some (.ref f) := rfl
def spExLen (C : Addr) : Sp := fun vs H Q _ => ∃ x ns, vs = [.ref x] ∧ ExAt C H x ns ∧ Q (.int (ns.length : Int)) H
theorem ok_ex_len (T : Tx0 w K mg A) : FnOk P w K mg base CX0 1 A.ex_len A.d_ex_len p_ex_len (spExLen A.Expression) := by
  refine T.F_ex_len.ok sc_ex_len (fun vs H Q E h => ?_) (fun cdv Ar outer s H vs Q E hr h => ?_)
  · obtain ⟨x, ns, rfl, _⟩ := h
    rfl
  · obtain ⟨x, ns, rfl, ⟨dx, t, f, as, h1, h2, h3, h4⟩, k⟩ := h
    refine ⟨_, (pss_one (ps_ret (pe_callB call_len_seq (by rfl) T.m_len PySem.boot_len (pa_cons (pe_fld (pv 0) rfl) pa_nil)))), ?_⟩
    refine ⟨_, rfl, x, _, dx, _, _, rfl, h1, T.cl_Expression, T.na_Expression__nodes, ex_look _ _, t, _, rfl, .inr (SqT.of h2), ?_⟩
    rw [List.length_map, h3.len]
    exact k
def spExNodes (C : Addr) : Sp := fun vs H Q _ => ∃ x ns, vs = [.ref x] ∧ ExAt C H x ns ∧ ∀ p as, H p = none → Al2 (NdAt H) as ns → Q (.ref p) (upd H p (.lst (as.map V.ref)))
theorem ok_ex_nodes (T : Tx0 w K mg A) : FnOk P w K mg base CX0 1 A.ex_nodes A.d_ex_nodes p_ex_nodes (spExNodes A.Expression) := by
  refine T.F_ex_nodes.ok sc_ex_nodes (fun vs H Q E h => ?_) (fun cdv Ar outer s H vs Q E hr h => ?_)
  · obtain ⟨x, ns, rfl, _⟩ := h
    rfl
  · obtain ⟨x, ns, rfl, ⟨dx, t, f, as, h1, h2, h3, h4⟩, k⟩ := h
    refine ⟨_, (pss_one (ps_ret (pe_callTy call_list_of (by rfl) T.m_list (by decide +kernel) (pa_cons (pe_fld (pv 0) rfl) pa_nil)))), ?_⟩
    exact ⟨_, rfl, x, _, dx, _, _, rfl, h1, T.cl_Expression, T.na_Expression__nodes, ex_look _ _, t, _, rfl, .inr (SqT.of h2), fun p hp => k p as hp h3⟩
def spRead (C : Addr) : Sp := fun vs H Q _ => ∃ (z : Str) (ns : List Nd), vs = [.ref C, .str z] ∧ z.length ≤ 400 ∧ rrun okS ⟨[], [], false⟩ (cutGo [] (tl z)) = some ⟨ns, [], true⟩ ∧ ns.length ≤ 20 ∧ ∀ x H', Ex H H' → ExAt C H' x ns → Q (.ref x) H'
theorem ok_ex_read (T : Tx0 w K mg A) : FnOk P w K mg base CX0 7 A.ex_read A.d_ex_read p_ex_read (spRead A.Expression) := by
  refine T.F_ex_read.ok sc_ex_read (fun vs H Q E h => ?_) (fun cdv Ar outer s H vs Q E hr h => ?_)
  · obtain ⟨z, ns, rfl, _⟩ := h
    rfl
  · obtain ⟨z, ns, rfl, hz, hrun, hn, k⟩ := h
    refine ⟨_, (pss_cons (ps_set (i := 2) sc_ex_read.nd rfl (Or.inl rfl) (pe_call (ok_nodes_of T) (hr.mono (by decide)) (by rfl) T.g_nodes_of T.F_nodes_of.kp T.b_nodes_of .nil pass0 (pa_cons (pv 1) pa_nil)))
      (pss_cons (ps_if (pt_cmpR op_isN (pv 2) pe_non (nomark _)) (pss_one ps_never) pss_nil)
      (pss_cons (ps_if (pt_cmpR op_gt (pe_callB call_len_seq (by rfl) T.m_len PySem.boot_len (pa_cons (pv 2) pa_nil)) (ClX.pe_cval (pv 0)) (nomark _)) (pss_one ps_never) pss_nil)
      (pss_one (ps_ret (UL.pe_makeL (i := 0) T.mk_Expression (ok_ex_init T) (hr.mono (by decide)) rfl (Or.inl rfl) T.b_ex_init .nil pass0 (pa_cons (pv 2) pa_nil))))))), ?_⟩
    have hwf := (rrun_wf (s := ⟨[], [], false⟩) ⟨(fun j nd h => by cases h), (fun y hy => by cases hy)⟩ hrun).wn
    refine ⟨_, rfl, z, ns, rfl, hz, hrun, fun N as H1 e1 hNn hN hA => ?_⟩
    have hlen := hA.len
    obtain ⟨u, hu⟩ := T.cv_Expression_MOST_NODES
    refine ⟨_, rfl, rfl, _, rfl, ?_⟩
    rw [decide_eq_false (show ¬ V.ref N = V.non by intro z; cases z)]
    refine iteF ⟨_, rfl, N, _, rfl, .inl (SqL.of hN), _, rfl, A.Expression, .type "type", .int 20, u, rfl, T.cr_Expression, hu, _, 20, rfl, rfl, _, rfl, ?_⟩
    rw [decide_eq_false (by rw [List.length_map]; omega)]
    refine iteF ⟨rfl, _, rfl, fun x dx hx hdx hne => ?_⟩
    have e2 := Ex.new (o := .own x) hdx
    have hx2 : upd H1 dx (.own x) x = none := by rw [upd_ne hne.symm]; exact hx
    have e3 := e2.trans (Ex.new (o := .ins A.Expression dx []) hx2)
    refine ⟨x, dx, N, as, ns, rfl, upd_same, e3 _ _ hN, hA.imp fun _ _ h => h.mono e3, hwf, by omega, fun H' kp hE => ⟨rfl, k x H' (fun b o hb => kp b o (fun z => ?_) (e3 _ _ (e1 _ _ hb))) hE⟩⟩
    have q := e1 _ _ hb
    rw [z, hx] at q
    cases q
/-! ### drawn functions -/
def spFunctions : Sp := fun vs H Q _ => ∃ d, vs = [.ref d] ∧ H d = some (DrO d) ∧ ∀ p as rs H', H p = none → Ex H H' → RowsAt H' p as (newR :: copyR :: rs) → Fit rs → rs.length ≤ 4 → Q (.ref p) H'
theorem ok_functions (T : Tx0 w K mg A) : FnOk P w K mg base CX0 3 A.functions A.d_functions p_functions spFunctions := by
  refine T.F_functions.ok sc_functions (fun vs H Q E h => ?_) (fun cdv Ar outer s H vs Q E hr h => ?_)
  · obtain ⟨d, rfl, _⟩ := h
    rfl
  · obtain ⟨d, rfl, hd, k⟩ := h
    refine ⟨_, (pss_cons (ps_set (i := 1) sc_functions.nd rfl (Or.inl rfl) (pe_lst (pa_cons (pe_lst (pa_cons pe_str (pa_cons pe_int (pa_cons (pe_lst pa_nil) pa_nil)))) (pa_cons (pe_lst (pa_cons pe_str (pa_cons pe_int (pa_cons (pe_lst pa_nil) pa_nil)))) pa_nil))))
      (pss_cons (ps_for PassesOwn.never rfl (pi_range1 (by rfl) T.m_range (pa_cons (pe_call (ok_take T) (hr.mono (by decide)) (by rfl) T.g_take T.F_take.kp T.b_take .nil pass0 (pa_cons (pv 0) (pa_cons pe_int pa_nil))) pa_nil)) (pg_name (i := 2) sc_functions.nd rfl (Or.inl rfl)) (pss_cons (ps_set (i := 3) sc_functions.nd rfl (Or.inl rfl) (pe_call (ok_name T) (hr.mono (by decide)) (by rfl) T.g_name T.F_name.kp T.b_name .nil pass0 (pa_cons (pv 0) (pa_cons (pv 2) pa_nil))))
        (Evl.pss_cut (ps_if (pt_cmpR op_eq (pv 3) pe_str (nomark _)) (pss_one (ps_set (i := 3) sc_functions.nd rfl (Or.inl rfl) pe_str)) pss_nil)
        (Evl.pss_cut (ps_if (pt_cmpR op_eq (pv 3) pe_str (nomark _)) (pss_one (ps_set (i := 3) sc_functions.nd rfl (Or.inl rfl) pe_str)) pss_nil)
        (pss_cons (ps_set (i := 4) sc_functions.nd rfl (Or.inl rfl) (pe_call (ok_take T) (hr.mono (by decide)) (by rfl) T.g_take T.F_take.kp T.b_take .nil pass0 (pa_cons (pv 0) (pa_cons pe_int pa_nil))))
        (pss_cons (ps_set (i := 5) sc_functions.nd rfl (Or.inr rfl) (pe_call (ok_take T) (hr.mono (by decide)) (by rfl) T.g_take T.F_take.kp T.b_take .nil pass0 (pa_cons (pv 0) (pa_cons pe_int pa_nil))))
        (pss_cons (ps_setLc (i := 6) (own := [("_law_j", 7)]) (g := gName 7) rfl sc_functions.nd rfl rfl (sw_true rfl rfl rfl (by decide +kernel)) (pi_range1 (by rfl) T.m_range (pa_cons (pv 4) pa_nil)) (blkOk_by (N := n_functions) (sc := defScope s_functions) (by decide +kernel)) (fun _ _ _ _ _ => pg_name (i := 7) sc_functions.nd rfl (Or.inl rfl)) (fun _ _ _ _ _ => pts_one (pt_cmpR op_eq (pe_op op_mod (pe_callTy call_int1 (by rfl) T.m_int (by decide +kernel) (pa_cons (pe_op op_fdiv (pv 5) (pe_ix (show IxR _ (rIxL K) from ix_list) (pe_lst (pa_cons pe_int (pa_cons pe_int (pa_cons pe_int (pa_cons pe_int pa_nil))))) (pv 7) (fun _ _ => rfl))) pa_nil)) pe_int) pe_int (nomark _))) (fun _ _ _ _ _ => (pe_op op_add (pv 7) pe_int)))
        (pss_one (ps_expr (pe_bm PySem.F.plainAttrs_list PySem.F.slot_list_append PySem.F.type_list_append mt_append (pv 1) (pa_cons (pe_lst (pa_cons (pv 3) (pa_cons (pv 4) (pa_cons (pv 6) pa_nil)))) pa_nil)))))))))))
      (pss_one (ps_ret (pv 1))))), ?_⟩
    refine ⟨Nat.zero_le _, fun l1 hl1 => ⟨sz_of (by show 3 ≤ 100000; decide), fun r1 hr1 => ⟨Nat.zero_le _, fun l2 hl2 => ⟨sz_of (by show 3 ≤ 100000; decide), fun r2 hr2 => ⟨sz_of (by show 2 ≤ 100000; decide), fun F hF => ?_⟩⟩⟩⟩⟩
    have e1 := Ex.new (o := .lst []) hl1
    have e2 := Ex.new (o := .lst [.str "new", .int 0, .ref l1]) hr1
    have e3 := Ex.new (o := .lst []) hl2
    have e4 := Ex.new (o := .lst [.str "copy", .int 1, .ref l2]) hr2
    have e5 := Ex.new (o := .lst [.ref r1, .ref r2]) hF
    have f1 : RowAt (upd (upd H l1 (.lst [])) r1 (.lst [.str "new", .int 0, .ref l1])) r1 newR := ⟨l1, upd_same, e2 _ _ upd_same⟩
    have f2 : RowAt (upd (upd (upd (upd H l1 (.lst [])) r1 (.lst [.str "new", .int 0, .ref l1])) l2 (.lst [])) r2 (.lst [.str "copy", .int 1, .ref l2])) r2 copyR := ⟨l2, upd_same, e4 _ _ upd_same⟩
    have eA := (((e1.trans e2).trans e3).trans e4)
    have e0 := eA.trans e5
    have g1 := ((f1.mono e3).mono e4).mono e5
    have g2 := f2.mono e5
    have hFH : H F = none := eA.free' hF
    refine ⟨_, rfl, d, _, rfl, e0 _ _ hd, by decide, fun m m0 m1 => ⟨m, rfl, forR1 ⟨by omega, by omega⟩ (fun i σ' H' => ∃ v2 v3 v4 v5 v6 v7 as rs, σ' = [some (.ref d), some (.ref F), v2, v3, v4, v5, v6, v7] ∧ Ex H H' ∧ RowsAt H' F as (newR :: copyR :: rs) ∧ rs.length = i ∧ (∀ (j : Nat) (r : Rw), rs[j]? = some r → good r ∧ OwnOf (j : Int) r.1)) ⟨_, _, _, _, _, _, [r1, r2], [], rfl, e0, ⟨upd_same, .cons g1 (.cons g2 .nil)⟩, rfl, (fun j r h => by cases h)⟩ ?_ ?_⟩⟩
    · rintro i σ' H' hi ⟨v2, v3, v4, v5, v6, v7, as, rs, rfl, e6, ⟨hL, hR⟩, hl, hg⟩
      have hRl := hR.len
      have hi' : i < 5 := by omega
      refine ⟨_, rfl, _, rfl, d, (i : Int), rfl, e6 _ _ hd, by omega, by omega, fun z H2 hz hnm e7 => ?_⟩
      obtain ⟨o1, o2, o3⟩ := own_of (k := (i : Int)) (by omega) (by omega) hnm
      refine ⟨fun σ2 H3 => ∃ z, okS z = true ∧ (z ≠ "new" ∧ (z ≠ "copy" → OwnOf (i : Int) z) ∧ (z = "copy" → OwnOf (i : Int) "copys")) ∧ σ2 = [some (.ref d), some (.ref F), some (.int (i : Int)), some (.str z), v4, v5, v6, v7] ∧ H3 = H2, ?_, ?_⟩
      · refine ⟨_, rfl, rfl, _, rfl, ite2 (fun h => ?_) (fun h => ?_)⟩
        · exact ⟨"news", by decide +kernel, ⟨by decide +kernel, fun _ => o1 (V.str.inj (of_decide_eq_true h)), fun h2 => absurd h2 (by decide +kernel)⟩, rfl, rfl⟩
        · exact ⟨z, hz, ⟨fun e => h (decide_eq_true (congrArg V.str e)), fun h2 => o3 ⟨fun e => h (decide_eq_true (congrArg V.str e)), h2⟩, o2⟩, rfl, rfl⟩
      rintro σ2 H3 ⟨z1, hz1, hn1, rfl, rfl⟩
      refine ⟨fun σ2 H3' => ∃ z, okS z = true ∧ OwnOf (i : Int) z ∧ σ2 = [some (.ref d), some (.ref F), some (.int (i : Int)), some (.str z), v4, v5, v6, v7] ∧ H3' = H3, ?_, ?_⟩
      · refine ⟨_, rfl, rfl, _, rfl, ite2 (fun h => ?_) (fun h => ?_)⟩
        · exact ⟨"copys", by decide +kernel, hn1.2.2 (V.str.inj (of_decide_eq_true h)), rfl, rfl⟩
        · exact ⟨z1, hz1, hn1.2.1 (fun e => h (decide_eq_true (congrArg V.str e))), rfl, rfl⟩
      rintro σ3 H4 ⟨z2, hz2, hown, rfl, rfl⟩
      have e8 := e6.trans e7
      refine ⟨_, rfl, d, _, rfl, e8 _ _ hd, by decide, fun n n0 n1 => ⟨_, rfl, d, _, rfl, e8 _ _ hd, by decide, fun q q0 q1 => ?_⟩⟩
      refine ⟨_, rfl, n, rfl, by omega, by omega, fun D hD => ?_⟩
      refine lc_range (lo := 0) (n := n.toNat) (fun j H' => Ex H4 H' ∧ ∃ ns : List Int, H' D = some (.lst (ns.map V.int)) ∧ Asc (j : Int) ns) ⟨Ex.new hD, [], upd_same, List.Pairwise.nil, fun _ h => (nomatch h)⟩ ?_ ?_
      · rintro j H5 hj ⟨e9, ns, hLn, ha⟩
        have z0 : (0 : Int) + (j : Int) = (j : Int) := Int.zero_add _
        refine ⟨rfl, ?_⟩
        rw [z0]
        refine ⟨_, rfl, sz_of (by show 4 ≤ 100000; decide), fun p hp => ?_⟩
        have hj4 : j < 4 := by omega
        obtain ⟨r, hr⟩ : ∃ r : Int, atI [V.int 1, V.int 2, V.int 4, V.int 8] (j : Int) = some (.int r) ∧ 0 < r ∧ r < 1073741824 := by
          have : j = 0 ∨ j = 1 ∨ j = 2 ∨ j = 3 := by omega
          rcases this with h | h | h | h <;> subst h
          · exact ⟨1, atI_nat (j := 0) rfl, by decide, by decide⟩
          · exact ⟨2, atI_nat (j := 1) rfl, by decide, by decide⟩
          · exact ⟨4, atI_nat (j := 2) rfl, by decide, by decide⟩
          · exact ⟨8, atI_nat (j := 3) rfl, by decide, by decide⟩
        have eP := Ex.new (o := .lst [.int 1, .int 2, .int 4, .int 8]) hp
        refine ⟨_, rfl, p, _, _, _, rfl, rfl, SqL.of upd_same, hr.1, q, r, rfl, rfl, ⟨hr.2.1, hr.2.2⟩, .inl ⟨_, rfl, _, 2, rfl, rfl, (show (0 : Int) < 2 by decide), rfl, _, rfl, ite2 (fun _ => ?_) (fun _ => ?_)⟩⟩
        · refine ⟨_, rfl, _, 1, rfl, rfl, _, eP _ _ hLn, ?_, (e9.trans eP).mut hD, ns ++ [(j : Int) + 1], ?_, ?_, ?_⟩
          · rw [List.length_map]
            exact sz_lt (by have := asc_len (show (j : Int) ≤ 4 by omega) ns ha; omega)
          · rw [upd_same, List.map_append]
            rfl
          · rw [List.pairwise_append]
            refine ⟨ha.1, List.pairwise_singleton _ _, fun x hx y hy => ?_⟩
            rw [List.mem_singleton.mp hy]
            have := (ha.2 x hx).2
            omega
          · intro x hx
            rcases List.mem_append.mp hx with h | h
            · have := ha.2 x h
              omega
            · rw [List.mem_singleton.mp h]
              omega
        · exact ⟨e9.trans eP, ns, eP _ _ hLn, ha.1, fun x hx => by have := ha.2 x hx; omega⟩
      · rintro H5 ⟨e9, ns, hLn, ha⟩
        have ha' : Asc n ns := ⟨ha.1, fun x hx => by have := ha.2 x hx; omega⟩
        have eB := e8.trans e9
        have e79 := e7.trans e9
        refine ⟨_, rfl, .inl ⟨rfl, _, SqL.of (e79 _ _ hL)⟩, _, rfl, _, rfl, _, rfl, sz_of (by show 3 ≤ 100000; decide), fun p hp => ?_⟩
        have eP := Ex.new (o := .lst [.str z2, .int n, .ref D]) hp
        have hL6 := eP _ _ (e79 _ _ hL)
        have hR6 : All2 (RowAt (upd H5 p (.lst [.str z2, .int n, .ref D]))) as (newR :: copyR :: rs) := hR.imp fun _ _ h => (h.mono e79).mono eP
        have nc : p ≠ F := (ne_of_none (e79 _ _ hL) hp).symm
        have nl : D ≠ F := (ne_of_none (e7 _ _ hL) hD).symm
        refine ⟨F, _, _, rfl, rfl, hL6, sz_lt (by rw [List.length_map, hRl, List.length_cons, List.length_cons]; omega), _, _, _, _, _, _, as ++ [p], rs ++ [(z2, n, ns)], rfl, (eB.trans eP).mut hFH, ⟨by rw [upd_same, List.map_append]; rfl, ?_⟩, by rw [List.length_append, List.length_singleton, hl], fun j r hr => ?_⟩
        · exact (rows_upd hL6 hR6).snoc ⟨D, by rw [upd_ne nc]; exact upd_same, by rw [upd_ne nl]; exact eP _ _ hLn⟩
        · by_cases e : j < rs.length
          · rw [List.getElem?_append_left e] at hr
            exact hg j r hr
          · have hlt := (List.getElem?_eq_some_iff.mp hr).1
            rw [List.length_append, List.length_singleton] at hlt
            have e : j = rs.length := by omega
            subst e
            rw [List.getElem?_append_right (Nat.le_refl _), Nat.sub_self] at hr
            cases hr
            rw [hl]
            exact ⟨⟨hz2, ⟨n0, by show n ≤ 4; omega⟩, ha'⟩, hown⟩
    · rintro σ' H' ⟨v2, v3, v4, v5, v6, v7, as, rs, rfl, e6, hR, hl, hg⟩
      have hm4 : rs.length ≤ 4 := by omega
      refine ⟨_, rfl, k F as rs H' hFH e6 hR ⟨fun r hr => ?_, fun r hr => ?_, ?_, by omega⟩ hm4⟩
      · obtain ⟨j, hj⟩ := List.getElem?_of_mem hr
        exact (hg j r hj).1
      · obtain ⟨j, hj⟩ := List.getElem?_of_mem hr
        have hlt := (List.getElem?_eq_some_iff.mp hj).1
        exact own_nn (k := (j : Int)) (by omega) (by omega) (hg j r hj).2
      · refine List.pairwise_iff_getElem.mpr fun i j hi hj hij hxy => ?_
        rw [List.length_map] at hi hj
        rw [List.getElem_map, List.getElem_map] at hxy
        have a := (hg i rs[i] (List.getElem?_eq_getElem hi)).2
        have b := (hg j rs[j] (List.getElem?_eq_getElem hj)).2
        rw [← hxy] at b
        have := own_inj (k := (i : Int)) (k' := (j : Int)) (by omega) (by omega) (by omega) (by omega) a b
        omega
end
end K18

set_option Elab.async false
set_option linter.all false
set_option maxRecDepth 100000
namespace K18
open PySem PySem.Spec PyProof.Rows L2 Evl TL UL StX
section
variable {P : Program} {w : World} {K : PySem.W.Frag} {mg : Str → Option Value} {base : Heap} {A : Adr}
/-! ### expressions made on a stack -/
def CallIn (rs : List Rw) : Nd → Prop
  | .call w os => ∃ r ∈ rs, r.1 = w ∧ r.2.1 = (os.length : Int)
  | _ => True
theorem joinL_C : ∀ ts : List (List Nat), joinL [44] ts = joinC ts
  | [] => rfl
  | [t] => rfl
  | t :: u :: r => by
    rw [joinL, joinC, joinL_C (u :: r)]
    rfl
theorem join_C (ts : List (List Nat)) : Txt.join "," (ts.map ofL) = ofL (joinC ts) := by
  have h : tl (Txt.join "," (ts.map ofL)) = joinC ts := by
    rw [join_eq, tl_join, List.map_map, show tl "," = [44] by decide +kernel, show (tl ∘ ofL) = id from funext fun l => tl_ofL l, List.map_id, joinL_C]
  rw [← ofL_tl (Txt.join "," (ts.map ofL)), h]
theorem joinC_len : ∀ ts : List (List Nat), (joinC ts).length ≤ (ts.map List.length).sum + ts.length
  | [] => Nat.le_refl _
  | [t] => by simp [joinC]
  | t :: u :: r => by
    have := joinC_len (u :: r)
    rw [joinC, List.length_append, List.length_cons, List.map_cons, List.sum_cons, List.length_cons]
    omega
theorem ofL_app (a b : List Nat) : ofL a ++ ofL b = ofL (a ++ b) := by
  have h : tl (ofL a ++ ofL b) = a ++ b := by rw [tl_append, tl_ofL, tl_ofL]
  rw [← ofL_tl (ofL a ++ ofL b), h]
theorem len_app (x y : Str) : (x ++ y).length = x.length + y.length := by rw [len_tl, tl_append, List.length_append, ← len_tl, ← len_tl]
theorem ofL_len (l : List Nat) : (ofL l).length = l.length := by rw [len_tl, tl_ofL]
theorem alnum_plain {c : Nat} (h : alnum c = true) : c ≠ 40 ∧ c ≠ 41 ∧ c ≠ 44 :=
  ⟨fun z => by rw [z] at h; revert h; decide +kernel, fun z => by rw [z] at h; revert h; decide +kernel, fun z => by rw [z] at h; revert h; decide +kernel⟩
theorem okS_all {z : Str} (h : okS z = true) : (tl z).all alnum = true ∧ tl z ≠ [] := by
  unfold okS at h
  rw [Bool.and_eq_true, Bool.and_eq_true, Bool.and_eq_true, Bool.and_eq_true] at h
  refine ⟨h.2, fun e => ?_⟩
  have := h.1.1.2
  rw [e] at this
  cases this
theorem okS_plain {z : Str} (h : okS z = true) : plainL (tl z) := fun c hc => alnum_plain (List.all_eq_true.mp (okS_all h).1 c hc)
theorem ops_cases {w : Str} {n : Int} (h : opsT.lookup w = some n) : (w = "part" ∧ n = 1) ∨ (w = "pick" ∧ n = 2) ∨ (w = "then" ∧ n = 2) := by
  unfold opsT at h
  by_cases h1 : w = "part"
  · subst h1
    rw [List.lookup_cons_self] at h
    exact .inl ⟨rfl, (Option.some.inj h).symm⟩
  rw [lookup_put2 h1] at h
  by_cases h2 : w = "pick"
  · subst h2
    rw [List.lookup_cons_self] at h
    exact .inr (.inl ⟨rfl, (Option.some.inj h).symm⟩)
  rw [lookup_put2 h2] at h
  by_cases h3 : w = "then"
  · subst h3
    rw [List.lookup_cons_self] at h
    exact .inr (.inr ⟨rfl, (Option.some.inj h).symm⟩)
  rw [lookup_put2 h3] at h
  cases h
theorem op_plain {w : Str} {n : Int} (h : opsT.lookup w = some n) : plainL (tl w) ∧ w.length ≤ 8 := by
  rcases ops_cases h with ⟨rfl, _⟩ | ⟨rfl, _⟩ | ⟨rfl, _⟩ <;> exact ⟨by unfold plainL; decide +kernel, by decide +kernel⟩
theorem okS_noop {w : Str} (h : okS w = true) : opsT.lookup w = none := by
  cases e : opsT.lookup w with
  | none => rfl
  | some n =>
    rcases ops_cases e with ⟨rfl, _⟩ | ⟨rfl, _⟩ | ⟨rfl, _⟩
    · rw [show okS "part" = false by decide +kernel] at h; cases h
    · rw [show okS "pick" = false by decide +kernel] at h; cases h
    · rw [show okS "then" = false by decide +kernel] at h; cases h
/-- the texts and the nodes so far -/
structure LawAt (rs : List Rw) (H : Hp) (h N R X : Addr) (its : List It1) (as : List Addr) : Prop where
  hh : H h = some (.lst [.ref N, .ref R, .ref X])
  hN : H N = some (.lst (as.map V.ref))
  hA : Al2 (NdAt H) as (flat its)
  hR : H R = some (.lst (ni (rootsL 0 its)))
  hX : H X = some (.lst (its.map fun i => V.str (ofL i.1)))
  nd : [h, N, R, X].Nodup
  ok : Stk okS 0 its
  le : ∀ i ∈ its, i.1.length ≤ 14 * i.2.length
  cl : ∀ nd ∈ flat its, CallIn rs nd
theorem sum_le : ∀ b : List It1, (∀ i ∈ b, i.1.length ≤ 14 * i.2.length) → ((b.map (·.1)).map List.length).sum ≤ 14 * (flat b).length
  | [], _ => Nat.le_refl _
  | i :: b, h => by
    have := sum_le b fun j hj => h j (List.mem_cons_of_mem _ hj)
    have := h i List.mem_cons_self
    rw [show (flat (i :: b)).length = i.2.length + (flat b).length by simp [flat], List.map_cons, List.map_cons, List.sum_cons]
    omega
theorem flat_len2 : ∀ (b : List It1) (lo : Nat), Stk okS lo b → b.length ≤ (flat b).length
  | [], _, _ => Nat.le_refl _
  | (t, ns) :: b, lo, h => by
    have := flat_len2 b _ h.2
    have := List.length_pos_iff.mpr h.1.1
    rw [show (flat ((t, ns) :: b)).length = ns.length + (flat b).length by simp [flat], List.length_cons]
    omega
theorem flat_app (a b : List It1) : flat (a ++ b) = flat a ++ flat b := List.flatMap_append ..
theorem NdAt.fr {H H' : Hp} {a : Addr} {nd : Nd} {bad : Addr → Prop} (hb : ∀ x, bad x → ∃ xs, H x = some (.lst xs)) (fr : ∀ x o, ¬ bad x → H x = some o → H' x = some o) (h : NdAt H a nd) : NdAt H' a nd := by
  have kp : ∀ {b : Addr} {ts : List V}, H b = some (.tup ts) → H' b = some (.tup ts) := fun {b ts} e => fr b _ (fun z => by
    obtain ⟨xs, q⟩ := hb b z
    rw [e] at q
    cases q) e
  cases nd with
  | name w => exact kp h
  | call w os =>
    obtain ⟨t, h1, h2⟩ := h
    exact ⟨t, kp h1, kp h2⟩
  | op w os => exact kp h
theorem ni_app (a b : List Nat) : ni (a ++ b) = ni a ++ ni b := List.map_append
theorem take_pop {α : Type} {l : List α} {m : Nat} (h : m ≤ l.length) : (l.take m).dropLast = l.take (m - 1) := by
  rw [List.dropLast_eq_take, List.length_take, List.take_take, Nat.min_eq_left h]
  congr 1
  omega
theorem take_last {α : Type} {l : List α} {m : Nat} (h0 : 0 < m) (h : m ≤ l.length) : ∃ y, (l.take m)[(l.take m).length - 1]? = some y := by
  rw [List.length_take, Nat.min_eq_left h]
  exact ⟨(l.take m)[m - 1]'(by rw [List.length_take]; omega), List.getElem?_eq_getElem _⟩
def spAddL : Sp := fun vs H Q _ => ∃ (rs : List Rw) (h N R X : Addr) (a b : List It1) (as : List Addr) (kind wd : Str), vs = [.ref h, .str kind, .str wd, .int (b.length : Int)] ∧ LawAt rs H h N R X (a ++ b) as ∧ (flat (a ++ b)).length ≤ 20 ∧ b.length ≤ 4 ∧
  ((kind = "name" ∧ okS wd = true ∧ b = []) ∨ (kind = "call" ∧ okS wd = true ∧ ∃ r ∈ rs, r.1 = wd ∧ r.2.1 = (b.length : Int)) ∨ (kind = wd ∧ opsT.lookup wd = some (b.length : Int))) ∧
  ∀ H' it as', (∀ x o, x ≠ N → x ≠ R → x ≠ X → H x = some o → H' x = some o) → LawAt rs H' h N R X (a ++ [it]) as' → it.2.length = (flat b).length + 1 → Q .non H'
theorem ok_add (T : Tx0 w K mg A) : FnOk P w K mg base CX0 1 A.add A.d_add p_add spAddL := by
  refine T.F_add.ok sc_add (fun vs H Q E h => ?_) (fun cdv Ar outer s H vs Q E hr h => ?_)
  · obtain ⟨rs, hp, N, R, X, a, b, as, kind, wd, rfl, _⟩ := h
    rfl
  · obtain ⟨rs, hp, N, R, X, a, b, as, kind, wd, rfl, L, h20, hb4, hk, k⟩ := h
    refine ⟨_, (pss_cons (ps_set (i := 4) sc_add.nd rfl (Or.inl rfl) (pe_ix ix_list (pv 0) pe_int (fun _ _ => rfl)))
      (pss_cons (ps_set (i := 5) sc_add.nd rfl (Or.inl rfl) (pe_ix ix_list (pv 0) pe_int (fun _ _ => rfl)))
      (pss_cons (ps_set (i := 6) sc_add.nd rfl (Or.inl rfl) (pe_ix ix_list (pv 0) pe_int (fun _ _ => rfl)))
      (pss_cons (ps_set (i := 7) sc_add.nd rfl (Or.inl rfl) (pe_op op_sub (pe_callB call_len_seq (by rfl) T.m_len PySem.boot_len (pa_cons (pv 5) pa_nil)) (pv 3)))
      (pss_cons (ps_set (i := 8) sc_add.nd rfl (Or.inl rfl) (pe_callTy call_tuple_of (by rfl) T.m_tuple (by decide +kernel) (pa_cons (pe_slice sl_list (pv 5) (po_some (pv 7)) po_none) pa_nil)))
      (pss_cons (ps_set (i := 9) sc_add.nd rfl (Or.inl rfl) (pe_op op_add_str (pe_op op_add_str (pe_op op_add_str (pv 2) pe_str) (pe_bm PySem.F.plainAttrs_str PySem.F.slot_str_join PySem.F.type_str_join mt_join pe_str (pa_cons (pe_slice sl_list (pv 6) (po_some (pv 7)) po_none) pa_nil))) pe_str))
      (pss_cons (ps_set (i := 10) sc_add.nd rfl (Or.inl rfl) (pe_op op_catT (pe_tup (pa_cons (pv 1) pa_nil)) (pv 8)))
      (Evl.pss_cut (ps_if (pt_cmpR op_eq (pv 1) pe_str (nomark _)) (pss_cons (ps_set (i := 9) sc_add.nd rfl (Or.inl rfl) (pv 2))
        (pss_one (ps_set (i := 10) sc_add.nd rfl (Or.inl rfl) (pe_tup (pa_cons (pv 1) (pa_cons (pv 2) pa_nil)))))) pss_nil)
      (Evl.pss_cut (ps_if (pt_cmpR op_eq (pv 1) pe_str (nomark _)) (pss_one (ps_set (i := 10) sc_add.nd rfl (Or.inl rfl) (pe_tup (pa_cons (pv 1) (pa_cons (pv 2) (pa_cons (pv 8) pa_nil)))))) pss_nil)
      (pss_cons (ps_for PassesOwn.never rfl (pi_range1 (by rfl) T.m_range (pa_cons (pv 3) pa_nil)) (pg_name (i := 11) sc_add.nd rfl (Or.inl rfl)) (pss_cons (ps_expr (pe_bm0 PySem.F.plainAttrs_list PySem.F.slot_list_pop PySem.F.type_list_pop mt_pop (pv 5)))
        (pss_one (ps_expr (pe_bm0 PySem.F.plainAttrs_list PySem.F.slot_list_pop PySem.F.type_list_pop mt_pop (pv 6))))))
      (pss_cons (ps_expr (pe_bm PySem.F.plainAttrs_list PySem.F.slot_list_append PySem.F.type_list_append mt_append (pv 5) (pa_cons (pe_callB call_len_seq (by rfl) T.m_len PySem.boot_len (pa_cons (pv 4) pa_nil)) pa_nil)))
      (pss_cons (ps_expr (pe_bm PySem.F.plainAttrs_list PySem.F.slot_list_append PySem.F.type_list_append mt_append (pv 6) (pa_cons (pv 9) pa_nil)))
      (pss_one (ps_expr (pe_bm PySem.F.plainAttrs_list PySem.F.slot_list_append PySem.F.type_list_append mt_append (pv 4) (pa_cons (pv 10) pa_nil)))))))))))))))), ?_⟩
    obtain ⟨hh, hN, hA, hR, hX, hnd, hok, hle, hcl⟩ := L
    have nds := hnd
    simp only [List.nodup_cons, List.mem_cons, List.not_mem_nil, or_false, not_or, List.nodup_nil, and_true, not_false_eq_true] at nds
    obtain ⟨⟨d1, d2, d3⟩, ⟨d4, d5⟩, d6⟩ := nds
    have hlen := hA.len
    have rl : (ni (rootsL 0 (a ++ b))).length = a.length + b.length := by rw [ni_len, roots_len, List.length_append]
    have hat : (((ni (rootsL 0 (a ++ b))).length : Int) - (b.length : Int)) = (a.length : Int) := by rw [rl]; omega
    have hrb : cutV (ni (rootsL 0 (a ++ b))) (some (((ni (rootsL 0 (a ++ b))).length : Int) - (b.length : Int))) none = ni (rootsL (flat a).length b) := by
      rw [hat, UL.cut_from, roots_append, ni_app, List.drop_append_of_le_length (by rw [ni_len, roots_len]; omega), List.drop_eq_nil_of_le (by rw [ni_len, roots_len]; omega), List.nil_append, Nat.zero_add]
    have hxb : cutV ((a ++ b).map fun i => V.str (ofL i.1)) (some (((ni (rootsL 0 (a ++ b))).length : Int) - (b.length : Int))) none = (b.map fun i => V.str (ofL i.1)) := by
      rw [hat, UL.cut_from, List.map_append, List.drop_append_of_le_length (by rw [List.length_map]; omega), List.drop_eq_nil_of_le (by rw [List.length_map]; omega), List.nil_append]
    obtain ⟨hoka, hokb⟩ := (stk_append okS a b 0).mp hok
    rw [Nat.zero_add] at hokb
    have hfab : (flat (a ++ b)).length = (flat a).length + (flat b).length := by rw [flat_app, List.length_append]
    have hbs : ((b.map (·.1)).map List.length).sum ≤ 14 * (flat b).length := sum_le b fun i hi => hle i (List.mem_append_right _ hi)
    have hjl : (joinC (b.map (·.1))).length ≤ 14 * (flat b).length + b.length := by
      have := joinC_len (b.map (·.1))
      rw [List.length_map] at this
      omega
    have hw8 : wd.length ≤ 8 := by
      rcases hk with ⟨_, h, _⟩ | ⟨_, h⟩ | ⟨_, h⟩
      · exact okS_len h
      · exact okS_len h.1
      · exact (op_plain h).2
    have b1 := Nat.le_of_eq hfab
    refine ⟨_, rfl, hp, _, 0, .ref N, rfl, rfl, SqL.of hh, atI_nat (j := 0) rfl, ?_⟩
    refine ⟨_, rfl, hp, _, 1, .ref R, rfl, rfl, SqL.of hh, atI_nat (j := 1) rfl, ?_⟩
    refine ⟨_, rfl, hp, _, 2, .ref X, rfl, rfl, SqL.of hh, atI_nat (j := 2) rfl, ?_⟩
    refine ⟨_, rfl, R, _, rfl, .inl (SqL.of hR), _, rfl, _, (b.length : Int), rfl, rfl, ?_⟩
    refine ⟨_, rfl, _, rfl, _, rfl, R, _, rfl, SqL.of hR, fun s1 hs1 => ?_⟩
    rw [hrb]
    refine ⟨s1, _, rfl, .inl ⟨SqL.of upd_same, fun t ht => ?_⟩⟩
    have e1 := Ex.new (o := .lst (ni (rootsL (flat a).length b))) hs1
    have e2 := e1.trans (Ex.new (o := .tup (ni (rootsL (flat a).length b))) ht)
    refine ⟨_, rfl, wd, _, rfl, rfl, sz_of (by show wd.length + 1 ≤ 100000; omega), ?_⟩
    have hX2 := e2 _ _ hX
    have ht2 : upd (upd H s1 (.lst (ni (rootsL (flat a).length b)))) t (.tup (ni (rootsL (flat a).length b))) t = some (.tup (ni (rootsL (flat a).length b))) := upd_same
    generalize upd (upd H s1 (.lst (ni (rootsL (flat a).length b)))) t (.tup (ni (rootsL (flat a).length b))) = H2 at e2 hX2 ht2 ⊢
    refine ⟨rfl, _, rfl, _, rfl, _, rfl, X, _, rfl, SqL.of hX2, fun s2 hs2 => ?_⟩
    rw [hxb]
    have e3 := e2.trans (Ex.new (o := .lst (b.map fun i => V.str (ofL i.1))) hs2)
    have ht3 := (Ex.new (o := .lst (b.map fun i => V.str (ofL i.1))) hs2) _ _ ht2
    have hs3 : upd H2 s2 (.lst (b.map fun i => V.str (ofL i.1))) s2 = some (.lst (((b.map (·.1)).map ofL).map V.str)) := by
      rw [upd_same, List.map_map, List.map_map]
      rfl
    generalize upd H2 s2 (.lst (b.map fun i => V.str (ofL i.1))) = H3 at e3 ht3 hs3 ⊢
    have hjn := join_C (b.map (·.1))
    have hjl2 : (Txt.join "," ((b.map (·.1)).map ofL)).length = (joinC (b.map (·.1))).length := by rw [hjn, ofL_len]
    refine ⟨",", s2, (b.map (·.1)).map ofL, rfl, rfl, .inl (SqL.of hs3), ?_, _, _, rfl, rfl, sz_of (by rw [len_app]; show wd.length + 1 + _ ≤ 100000; rw [hjl2]; omega), _, _, rfl, rfl, sz_of (by rw [len_app, len_app]; show wd.length + 1 + _ + 1 ≤ 100000; rw [hjl2]; omega), ?_⟩
    · rw [List.map_map, show (fun x : Str => x.length) ∘ ofL = List.length from funext fun l => ofL_len l, List.length_map, List.length_map]
      show _ + b.length * 1 ≤ 16777216
      omega
    have hT : tl (wd ++ "(" ++ Txt.join "," ((b.map (·.1)).map ofL) ++ ")") = tl wd ++ 40 :: joinC (b.map (·.1)) ++ [41] := by
      rw [tl_append, tl_append, tl_append, hjn, tl_ofL, show tl "(" = [40] by decide +kernel, show tl ")" = [41] by decide +kernel]
      simp
    generalize wd ++ "(" ++ Txt.join "," ((b.map (·.1)).map ofL) ++ ")" = tx at hT ⊢
    refine ⟨_, rfl, sz_of (by show 1 ≤ 100000; decide), fun k1 hk1 => ?_⟩
    have e4 := e3.trans (Ex.new (o := .tup [.str kind]) hk1)
    have ht4 := (Ex.new (o := .tup [.str kind]) hk1) _ _ ht3
    have hk4 : upd H3 k1 (.tup [.str kind]) k1 = some (.tup [.str kind]) := upd_same
    generalize upd H3 k1 (.tup [.str kind]) = H4 at e4 ht4 hk4 ⊢
    have hrn : (ni (rootsL (flat a).length b)).length = b.length := by rw [ni_len, roots_len]
    refine ⟨_, rfl, k1, t, _, _, rfl, rfl, SqT.of hk4, SqT.of ht4, by simp, sz_of (by rw [hrn]; show 1 + b.length ≤ 100000; omega), (fun e => ?_), (fun ne n0 hn0 => ?_)⟩
    · have hn0 : H4 k1 = some (.tup (.str kind :: ni (rootsL (flat a).length b))) := by rw [e]; exact hk4
      have e5 := e4
      have ht5 := ht4
      revert hn0
      generalize k1 = n0
      intro hn0
      refine ⟨fun σ' H' => ∃ (y : Str) (n : Addr), σ' = [some (.ref hp), some (.str kind), some (.str wd), some (.int (b.length : Int)), some (.ref N), some (.ref R), some (.ref X), some (.int (((ni (rootsL 0 (a ++ b))).length : Int) - (b.length : Int))), some (.ref t), some (.str y), some (.ref n), none] ∧ Ex H H' ∧ H' t = some (.tup (ni (rootsL (flat a).length b))) ∧ ((kind = "name" ∧ y = wd ∧ H' n = some (.tup [.str "name", .str wd])) ∨ (kind ≠ "name" ∧ y = tx ∧ H' n = some (.tup (.str kind :: ni (rootsL (flat a).length b))))), ?_, ?_⟩
      · refine ⟨_, rfl, rfl, _, rfl, ?_⟩
        rw [str_eqb]
        by_cases hkn : kind = "name"
        · rw [decide_eq_true hkn]
          refine iteT ⟨_, rfl, _, rfl, _, rfl, sz_of (by show 2 ≤ 100000; decide), fun n hn => ?_⟩
          exact ⟨wd, n, rfl, e5.trans (Ex.new hn), (Ex.new hn) _ _ ht5, .inl ⟨hkn, rfl, by rw [upd_same, hkn]⟩⟩
        · rw [decide_eq_false hkn]
          exact iteF ⟨tx, n0, rfl, e5, ht5, .inr ⟨hkn, rfl, hn0⟩⟩
      rintro σ' H5 ⟨y, n, rfl, e6, ht6, hcase⟩
      refine ⟨fun σ' H' => ∃ (y : Str) (n : Addr) (nd : Nd), σ' = [some (.ref hp), some (.str kind), some (.str wd), some (.int (b.length : Int)), some (.ref N), some (.ref R), some (.ref X), some (.int (((ni (rootsL 0 (a ++ b))).length : Int) - (b.length : Int))), some (.ref t), some (.str y), some (.ref n), none] ∧ Ex H H' ∧ NdAt H' n nd ∧ GoodE okS (tl y) (flat a).length (flat b ++ [nd]) ∧ y.length ≤ 14 * ((flat b).length + 1) ∧ CallIn rs nd, ?_, ?_⟩
      · refine ⟨_, rfl, rfl, _, rfl, ?_⟩
        rw [str_eqb]
        have hTl : tx.length ≤ 14 * ((flat b).length + 1) := by
          rw [len_tl, hT, List.length_append, List.length_append, List.length_cons, ← len_tl]
          show wd.length + (_ + 1) + 1 ≤ _
          omega
        have hrl4 : (rootsL (flat a).length b).length = b.length := roots_len b _
        rcases hk with ⟨k1, k2, k3⟩ | ⟨k1, k2, k4⟩ | ⟨k1, k2⟩
        · rw [decide_eq_false (by rw [k1]; decide +kernel)]
          rcases hcase with ⟨_, hy, hn⟩ | ⟨c1, _⟩
          · refine iteF ⟨y, n, .name wd, rfl, e6, hn, ?_, by rw [hy]; omega, trivial⟩
            rw [hy, k3]
            have g := good_name (okw := okS) (lo := (flat a).length) (okS_plain k2) (okS_all k2).2 (by rw [ofL_tl]; exact k2)
            rw [ofL_tl] at g
            exact g
          · exact absurd k1 c1
        · rw [decide_eq_true k1]
          rcases hcase with ⟨c1, _⟩ | ⟨_, hy, hn⟩
          · rw [k1] at c1
            exact absurd c1 (by decide +kernel)
          · refine iteT ⟨_, rfl, _, rfl, _, rfl, sz_of (by show 3 ≤ 100000; decide), fun q hq => ?_⟩
            refine ⟨y, q, .call wd (rootsL (flat a).length b), rfl, e6.trans (Ex.new hq), ⟨t, by rw [upd_same, k1], (Ex.new hq) _ _ ht6⟩, ?_, by rw [hy]; exact hTl, by show ∃ r ∈ rs, r.1 = wd ∧ r.2.1 = ((rootsL (flat a).length b).length : Int); rw [hrl4]; exact k4⟩
            rw [hy, hT]
            exact good_op hokb (okS_plain k2) (by rw [ofL_tl, oper_no (okS_noop k2), if_pos ⟨k2, by omega⟩])
        · have hne := opw_ne (w := wd) (os := rootsL (flat a).length b) (by show opsT.lookup wd = some _; rw [hrl4]; exact k2)
          rw [decide_eq_false (by rw [k1]; exact hne.2)]
          rcases hcase with ⟨c1, _⟩ | ⟨_, hy, hn⟩
          · exact absurd (k1.symm.trans c1) hne.1
          · refine iteF ⟨y, n, .op wd (rootsL (flat a).length b), rfl, e6, by rw [k1] at hn; exact hn, ?_, by rw [hy]; exact hTl, trivial⟩
            rw [hy, hT]
            exact good_op hokb (op_plain k2).1 (by rw [ofL_tl, oper_at k2, if_pos (by rw [hrl4])])
      rintro σ' H6 ⟨y6, n6, nd, rfl, e7, hnd6, hgd, hyl, hcn⟩
      have hTXl : ((a ++ b).map fun i => V.str (ofL i.1)).length = a.length + b.length := by rw [List.length_map, List.length_append]
      have hR6 := e7 _ _ hR
      have hX6 := e7 _ _ hX
      refine ⟨_, rfl, (b.length : Int), rfl, forR1 ⟨by omega, by omega⟩ (fun j σ' H' => ∃ v11, σ' = [some (.ref hp), some (.str kind), some (.str wd), some (.int (b.length : Int)), some (.ref N), some (.ref R), some (.ref X), some (.int (((ni (rootsL 0 (a ++ b))).length : Int) - (b.length : Int))), some (.ref t), some (.str y6), some (.ref n6), v11] ∧ (∀ x o, x ≠ R → x ≠ X → H6 x = some o → H' x = some o) ∧ H' R = some (.lst ((ni (rootsL 0 (a ++ b))).take (a.length + b.length - j))) ∧ H' X = some (.lst (((a ++ b).map fun i => V.str (ofL i.1)).take (a.length + b.length - j)))) ⟨_, rfl, fun _ _ _ _ h => h, by rw [Nat.sub_zero, List.take_of_length_le (by rw [rl]; exact Nat.le_refl _)]; exact hR6, by rw [Nat.sub_zero, List.take_of_length_le (by rw [hTXl]; exact Nat.le_refl _)]; exact hX6⟩ ?_ ?_⟩
      · rintro j σ' H' hj ⟨v11, rfl, fr, hRj, hXj⟩
        have hj' : j < b.length := by omega
        obtain ⟨y1, hy1⟩ := take_last (l := ni (rootsL 0 (a ++ b))) (m := a.length + b.length - j) (by omega) (by rw [rl]; omega)
        obtain ⟨y2, hy2⟩ := take_last (l := (a ++ b).map fun i => V.str (ofL i.1)) (m := a.length + b.length - j) (by omega) (by rw [hTXl]; omega)
        refine ⟨_, rfl, .inl ⟨rfl, _, SqL.of hRj⟩, R, _, y1, rfl, rfl, hRj, hy1, ?_⟩
        have hXj2 : upd H' R (.lst ((ni (rootsL 0 (a ++ b))).take (a.length + b.length - j)).dropLast) X = some (.lst (((a ++ b).map fun i => V.str (ofL i.1)).take (a.length + b.length - j))) := by
          rw [upd_ne (fun z => d6 z.symm)]
          exact hXj
        refine ⟨_, rfl, .inl ⟨rfl, _, SqL.of hXj2⟩, X, _, y2, rfl, rfl, hXj2, hy2, _, rfl, fun x o h1 h2 h3 => ?_, ?_, ?_⟩
        · rw [upd_ne h2, upd_ne h1]
          exact fr x o h1 h2 h3
        · rw [upd_ne d6, upd_same, take_pop (by rw [rl]; omega)]
          rfl
        · rw [upd_same, take_pop (by rw [hTXl]; omega)]
          rfl
      · rintro σ' H7 ⟨v11, rfl, fr, hR7, hX7⟩
        rw [Int.toNat_natCast, show a.length + b.length - b.length = a.length by omega] at hR7 hX7
        rw [roots_append, ni_app, List.take_append_of_le_length (by rw [ni_len, roots_len]; omega), List.take_of_length_le (by rw [ni_len, roots_len]; omega)] at hR7
        rw [List.map_append, List.take_append_of_le_length (by rw [List.length_map]; omega), List.take_of_length_le (by rw [List.length_map]; omega)] at hX7
        have hN7 := fr N _ d4 d5 (e7 _ _ hN)
        have hh7 := fr hp _ d2 d3 (e7 _ _ hh)
        refine ⟨_, rfl, .inl ⟨rfl, _, SqL.of hR7⟩, _, rfl, N, _, rfl, .inl (SqL.of hN7), R, _, _, rfl, rfl, hR7, sz_lt (by rw [ni_len, roots_len]; have := flat_len2 a 0 hoka; omega), ?_⟩
        have hX8 : upd H7 R (.lst (ni (rootsL 0 a) ++ [.int ((as.map V.ref).length : Int)])) X = some (.lst (a.map fun i => V.str (ofL i.1))) := by
          rw [upd_ne (fun z => d6 z.symm)]
          exact hX7
        refine ⟨_, rfl, .inl ⟨rfl, _, SqL.of hX8⟩, _, rfl, X, _, _, rfl, rfl, hX8, sz_lt (by rw [List.length_map]; have := flat_len2 a 0 hoka; omega), ?_⟩
        have hN9 : upd (upd H7 R (.lst (ni (rootsL 0 a) ++ [.int ((as.map V.ref).length : Int)]))) X (.lst ((a.map fun i => V.str (ofL i.1)) ++ [.str y6])) N = some (.lst (as.map V.ref)) := by
          rw [upd_ne d5, upd_ne d4]
          exact hN7
        refine ⟨_, rfl, .inl ⟨rfl, _, SqL.of hN9⟩, _, rfl, N, _, _, rfl, rfl, hN9, sz_lt (by rw [List.length_map]; omega), ?_⟩
        have kp : ∀ {q : Addr} {nd : Nd}, NdAt H6 q nd → NdAt (upd (upd (upd H7 R (.lst (ni (rootsL 0 a) ++ [.int ((as.map V.ref).length : Int)]))) X (.lst ((a.map fun i => V.str (ofL i.1)) ++ [.str y6]))) N (.lst (as.map V.ref ++ [.ref n6]))) q nd := fun {q nd} h => by
          refine (((h.fr (bad := fun x => x = R ∨ x = X) ?_ fun x o hx => fr x o (fun z => hx (.inl z)) (fun z => hx (.inr z))).put hR7).put hX8).put hN9
          rintro x (rfl | rfl)
          · exact ⟨_, hR6⟩
          · exact ⟨_, hX6⟩
        refine k _ (tl y6, flat b ++ [nd]) (as ++ [n6]) (fun x o h1 h2 h3 h4 => ?_) ⟨?_, ?_, ?_, ?_, ?_, hnd, ?_, ?_, ?_⟩ (by rw [List.length_append]; rfl)
        · rw [upd_ne h1, upd_ne h3, upd_ne h2]
          exact fr x o h2 h3 (e7 _ _ h4)
        · rw [upd_ne d1, upd_ne d3, upd_ne d2]
          exact hh7
        · rw [upd_same, List.map_append]
          rfl
        · have e : flat (a ++ [(tl y6, flat b ++ [nd])]) = flat (a ++ b) ++ [nd] := by rw [flat_app, flat_app]; simp [flat]
          rw [e]
          exact (hA.imp fun _ _ h => kp (h.mono e7)).snoc (kp hnd6)
        · rw [upd_ne (fun z => d4 z.symm), upd_ne d6, upd_same, roots_append, ni_app, List.length_map, hlen, hfab]
          show _ = some (HO.lst (ni (rootsL 0 a) ++ [.int ((0 + (flat a).length + (flat b ++ [nd]).length - 1 : Nat) : Int)]))
          rw [List.length_append, List.length_singleton, show 0 + (flat a).length + ((flat b).length + 1) - 1 = (flat a).length + (flat b).length by omega]
        · rw [upd_ne (fun z => d5 z.symm), upd_same, List.map_append]
          show _ = some (HO.lst (_ ++ [.str (ofL (tl y6))]))
          rw [ofL_tl]
        · exact (stk_append okS a _ 0).mpr ⟨hoka, by rw [Nat.zero_add]; exact ⟨hgd, trivial⟩⟩
        · intro i hi
          rcases List.mem_append.mp hi with h | h
          · exact hle i (List.mem_append_left _ h)
          · rw [List.mem_singleton.mp h]
            show (tl y6).length ≤ 14 * (flat b ++ [nd]).length
            rw [← len_tl, List.length_append]
            exact hyl
        · have e : flat (a ++ [(tl y6, flat b ++ [nd])]) = flat (a ++ b) ++ [nd] := by rw [flat_app, flat_app]; simp [flat]
          rw [e]
          intro nd' hnd'
          rcases List.mem_append.mp hnd' with h | h
          · exact hcl nd' h
          · rw [List.mem_singleton.mp h]
            exact hcn
    · have e5 := e4.trans (Ex.new (o := .tup ([V.str kind] ++ ni (rootsL (flat a).length b))) hn0)
      have ht5 := (Ex.new (o := .tup ([V.str kind] ++ ni (rootsL (flat a).length b))) hn0) _ _ ht4
      have hn0 : upd H4 n0 (.tup ([V.str kind] ++ ni (rootsL (flat a).length b))) n0 = some (.tup (.str kind :: ni (rootsL (flat a).length b))) := upd_same
      generalize upd H4 n0 (.tup ([V.str kind] ++ ni (rootsL (flat a).length b))) = H4 at e5 ht5 hn0 ⊢
      refine ⟨fun σ' H' => ∃ (y : Str) (n : Addr), σ' = [some (.ref hp), some (.str kind), some (.str wd), some (.int (b.length : Int)), some (.ref N), some (.ref R), some (.ref X), some (.int (((ni (rootsL 0 (a ++ b))).length : Int) - (b.length : Int))), some (.ref t), some (.str y), some (.ref n), none] ∧ Ex H H' ∧ H' t = some (.tup (ni (rootsL (flat a).length b))) ∧ ((kind = "name" ∧ y = wd ∧ H' n = some (.tup [.str "name", .str wd])) ∨ (kind ≠ "name" ∧ y = tx ∧ H' n = some (.tup (.str kind :: ni (rootsL (flat a).length b))))), ?_, ?_⟩
      · refine ⟨_, rfl, rfl, _, rfl, ?_⟩
        rw [str_eqb]
        by_cases hkn : kind = "name"
        · rw [decide_eq_true hkn]
          refine iteT ⟨_, rfl, _, rfl, _, rfl, sz_of (by show 2 ≤ 100000; decide), fun n hn => ?_⟩
          exact ⟨wd, n, rfl, e5.trans (Ex.new hn), (Ex.new hn) _ _ ht5, .inl ⟨hkn, rfl, by rw [upd_same, hkn]⟩⟩
        · rw [decide_eq_false hkn]
          exact iteF ⟨tx, n0, rfl, e5, ht5, .inr ⟨hkn, rfl, hn0⟩⟩
      rintro σ' H5 ⟨y, n, rfl, e6, ht6, hcase⟩
      refine ⟨fun σ' H' => ∃ (y : Str) (n : Addr) (nd : Nd), σ' = [some (.ref hp), some (.str kind), some (.str wd), some (.int (b.length : Int)), some (.ref N), some (.ref R), some (.ref X), some (.int (((ni (rootsL 0 (a ++ b))).length : Int) - (b.length : Int))), some (.ref t), some (.str y), some (.ref n), none] ∧ Ex H H' ∧ NdAt H' n nd ∧ GoodE okS (tl y) (flat a).length (flat b ++ [nd]) ∧ y.length ≤ 14 * ((flat b).length + 1) ∧ CallIn rs nd, ?_, ?_⟩
      · refine ⟨_, rfl, rfl, _, rfl, ?_⟩
        rw [str_eqb]
        have hTl : tx.length ≤ 14 * ((flat b).length + 1) := by
          rw [len_tl, hT, List.length_append, List.length_append, List.length_cons, ← len_tl]
          show wd.length + (_ + 1) + 1 ≤ _
          omega
        have hrl4 : (rootsL (flat a).length b).length = b.length := roots_len b _
        rcases hk with ⟨k1, k2, k3⟩ | ⟨k1, k2, k4⟩ | ⟨k1, k2⟩
        · rw [decide_eq_false (by rw [k1]; decide +kernel)]
          rcases hcase with ⟨_, hy, hn⟩ | ⟨c1, _⟩
          · refine iteF ⟨y, n, .name wd, rfl, e6, hn, ?_, by rw [hy]; omega, trivial⟩
            rw [hy, k3]
            have g := good_name (okw := okS) (lo := (flat a).length) (okS_plain k2) (okS_all k2).2 (by rw [ofL_tl]; exact k2)
            rw [ofL_tl] at g
            exact g
          · exact absurd k1 c1
        · rw [decide_eq_true k1]
          rcases hcase with ⟨c1, _⟩ | ⟨_, hy, hn⟩
          · rw [k1] at c1
            exact absurd c1 (by decide +kernel)
          · refine iteT ⟨_, rfl, _, rfl, _, rfl, sz_of (by show 3 ≤ 100000; decide), fun q hq => ?_⟩
            refine ⟨y, q, .call wd (rootsL (flat a).length b), rfl, e6.trans (Ex.new hq), ⟨t, by rw [upd_same, k1], (Ex.new hq) _ _ ht6⟩, ?_, by rw [hy]; exact hTl, by show ∃ r ∈ rs, r.1 = wd ∧ r.2.1 = ((rootsL (flat a).length b).length : Int); rw [hrl4]; exact k4⟩
            rw [hy, hT]
            exact good_op hokb (okS_plain k2) (by rw [ofL_tl, oper_no (okS_noop k2), if_pos ⟨k2, by omega⟩])
        · have hne := opw_ne (w := wd) (os := rootsL (flat a).length b) (by show opsT.lookup wd = some _; rw [hrl4]; exact k2)
          rw [decide_eq_false (by rw [k1]; exact hne.2)]
          rcases hcase with ⟨c1, _⟩ | ⟨_, hy, hn⟩
          · exact absurd (k1.symm.trans c1) hne.1
          · refine iteF ⟨y, n, .op wd (rootsL (flat a).length b), rfl, e6, by rw [k1] at hn; exact hn, ?_, by rw [hy]; exact hTl, trivial⟩
            rw [hy, hT]
            exact good_op hokb (op_plain k2).1 (by rw [ofL_tl, oper_at k2, if_pos (by rw [hrl4])])
      rintro σ' H6 ⟨y6, n6, nd, rfl, e7, hnd6, hgd, hyl, hcn⟩
      have hTXl : ((a ++ b).map fun i => V.str (ofL i.1)).length = a.length + b.length := by rw [List.length_map, List.length_append]
      have hR6 := e7 _ _ hR
      have hX6 := e7 _ _ hX
      refine ⟨_, rfl, (b.length : Int), rfl, forR1 ⟨by omega, by omega⟩ (fun j σ' H' => ∃ v11, σ' = [some (.ref hp), some (.str kind), some (.str wd), some (.int (b.length : Int)), some (.ref N), some (.ref R), some (.ref X), some (.int (((ni (rootsL 0 (a ++ b))).length : Int) - (b.length : Int))), some (.ref t), some (.str y6), some (.ref n6), v11] ∧ (∀ x o, x ≠ R → x ≠ X → H6 x = some o → H' x = some o) ∧ H' R = some (.lst ((ni (rootsL 0 (a ++ b))).take (a.length + b.length - j))) ∧ H' X = some (.lst (((a ++ b).map fun i => V.str (ofL i.1)).take (a.length + b.length - j)))) ⟨_, rfl, fun _ _ _ _ h => h, by rw [Nat.sub_zero, List.take_of_length_le (by rw [rl]; exact Nat.le_refl _)]; exact hR6, by rw [Nat.sub_zero, List.take_of_length_le (by rw [hTXl]; exact Nat.le_refl _)]; exact hX6⟩ ?_ ?_⟩
      · rintro j σ' H' hj ⟨v11, rfl, fr, hRj, hXj⟩
        have hj' : j < b.length := by omega
        obtain ⟨y1, hy1⟩ := take_last (l := ni (rootsL 0 (a ++ b))) (m := a.length + b.length - j) (by omega) (by rw [rl]; omega)
        obtain ⟨y2, hy2⟩ := take_last (l := (a ++ b).map fun i => V.str (ofL i.1)) (m := a.length + b.length - j) (by omega) (by rw [hTXl]; omega)
        refine ⟨_, rfl, .inl ⟨rfl, _, SqL.of hRj⟩, R, _, y1, rfl, rfl, hRj, hy1, ?_⟩
        have hXj2 : upd H' R (.lst ((ni (rootsL 0 (a ++ b))).take (a.length + b.length - j)).dropLast) X = some (.lst (((a ++ b).map fun i => V.str (ofL i.1)).take (a.length + b.length - j))) := by
          rw [upd_ne (fun z => d6 z.symm)]
          exact hXj
        refine ⟨_, rfl, .inl ⟨rfl, _, SqL.of hXj2⟩, X, _, y2, rfl, rfl, hXj2, hy2, _, rfl, fun x o h1 h2 h3 => ?_, ?_, ?_⟩
        · rw [upd_ne h2, upd_ne h1]
          exact fr x o h1 h2 h3
        · rw [upd_ne d6, upd_same, take_pop (by rw [rl]; omega)]
          rfl
        · rw [upd_same, take_pop (by rw [hTXl]; omega)]
          rfl
      · rintro σ' H7 ⟨v11, rfl, fr, hR7, hX7⟩
        rw [Int.toNat_natCast, show a.length + b.length - b.length = a.length by omega] at hR7 hX7
        rw [roots_append, ni_app, List.take_append_of_le_length (by rw [ni_len, roots_len]; omega), List.take_of_length_le (by rw [ni_len, roots_len]; omega)] at hR7
        rw [List.map_append, List.take_append_of_le_length (by rw [List.length_map]; omega), List.take_of_length_le (by rw [List.length_map]; omega)] at hX7
        have hN7 := fr N _ d4 d5 (e7 _ _ hN)
        have hh7 := fr hp _ d2 d3 (e7 _ _ hh)
        refine ⟨_, rfl, .inl ⟨rfl, _, SqL.of hR7⟩, _, rfl, N, _, rfl, .inl (SqL.of hN7), R, _, _, rfl, rfl, hR7, sz_lt (by rw [ni_len, roots_len]; have := flat_len2 a 0 hoka; omega), ?_⟩
        have hX8 : upd H7 R (.lst (ni (rootsL 0 a) ++ [.int ((as.map V.ref).length : Int)])) X = some (.lst (a.map fun i => V.str (ofL i.1))) := by
          rw [upd_ne (fun z => d6 z.symm)]
          exact hX7
        refine ⟨_, rfl, .inl ⟨rfl, _, SqL.of hX8⟩, _, rfl, X, _, _, rfl, rfl, hX8, sz_lt (by rw [List.length_map]; have := flat_len2 a 0 hoka; omega), ?_⟩
        have hN9 : upd (upd H7 R (.lst (ni (rootsL 0 a) ++ [.int ((as.map V.ref).length : Int)]))) X (.lst ((a.map fun i => V.str (ofL i.1)) ++ [.str y6])) N = some (.lst (as.map V.ref)) := by
          rw [upd_ne d5, upd_ne d4]
          exact hN7
        refine ⟨_, rfl, .inl ⟨rfl, _, SqL.of hN9⟩, _, rfl, N, _, _, rfl, rfl, hN9, sz_lt (by rw [List.length_map]; omega), ?_⟩
        have kp : ∀ {q : Addr} {nd : Nd}, NdAt H6 q nd → NdAt (upd (upd (upd H7 R (.lst (ni (rootsL 0 a) ++ [.int ((as.map V.ref).length : Int)]))) X (.lst ((a.map fun i => V.str (ofL i.1)) ++ [.str y6]))) N (.lst (as.map V.ref ++ [.ref n6]))) q nd := fun {q nd} h => by
          refine (((h.fr (bad := fun x => x = R ∨ x = X) ?_ fun x o hx => fr x o (fun z => hx (.inl z)) (fun z => hx (.inr z))).put hR7).put hX8).put hN9
          rintro x (rfl | rfl)
          · exact ⟨_, hR6⟩
          · exact ⟨_, hX6⟩
        refine k _ (tl y6, flat b ++ [nd]) (as ++ [n6]) (fun x o h1 h2 h3 h4 => ?_) ⟨?_, ?_, ?_, ?_, ?_, hnd, ?_, ?_, ?_⟩ (by rw [List.length_append]; rfl)
        · rw [upd_ne h1, upd_ne h3, upd_ne h2]
          exact fr x o h2 h3 (e7 _ _ h4)
        · rw [upd_ne d1, upd_ne d3, upd_ne d2]
          exact hh7
        · rw [upd_same, List.map_append]
          rfl
        · have e : flat (a ++ [(tl y6, flat b ++ [nd])]) = flat (a ++ b) ++ [nd] := by rw [flat_app, flat_app]; simp [flat]
          rw [e]
          exact (hA.imp fun _ _ h => kp (h.mono e7)).snoc (kp hnd6)
        · rw [upd_ne (fun z => d4 z.symm), upd_ne d6, upd_same, roots_append, ni_app, List.length_map, hlen, hfab]
          show _ = some (HO.lst (ni (rootsL 0 a) ++ [.int ((0 + (flat a).length + (flat b ++ [nd]).length - 1 : Nat) : Int)]))
          rw [List.length_append, List.length_singleton, show 0 + (flat a).length + ((flat b).length + 1) - 1 = (flat a).length + (flat b).length by omega]
        · rw [upd_ne (fun z => d5 z.symm), upd_same, List.map_append]
          show _ = some (HO.lst (_ ++ [.str (ofL (tl y6))]))
          rw [ofL_tl]
        · exact (stk_append okS a _ 0).mpr ⟨hoka, by rw [Nat.zero_add]; exact ⟨hgd, trivial⟩⟩
        · intro i hi
          rcases List.mem_append.mp hi with h | h
          · exact hle i (List.mem_append_left _ h)
          · rw [List.mem_singleton.mp h]
            show (tl y6).length ≤ 14 * (flat b ++ [nd]).length
            rw [← len_tl, List.length_append]
            exact hyl
        · have e : flat (a ++ [(tl y6, flat b ++ [nd])]) = flat (a ++ b) ++ [nd] := by rw [flat_app, flat_app]; simp [flat]
          rw [e]
          intro nd' hnd'
          rcases List.mem_append.mp hnd' with h | h
          · exact hcl nd' h
          · rw [List.mem_singleton.mp h]
            exact hcn
end
end K18

set_option Elab.async false
set_option linter.all false
set_option maxRecDepth 100000
namespace K18
open PySem PySem.Spec PyProof.Rows L2 Evl TL UL StX
section
variable {P : Program} {w : World} {K : PySem.W.Frag} {mg : Str → Option Value} {base : Heap} {A : Adr}
/-! ### an expression -/
theorem LawAt.mono {rs : List Rw} {H H' : Hp} {h N R X : Addr} {its : List It1} {as : List Addr} (e : Ex H H') (L : LawAt rs H h N R X its as) : LawAt rs H' h N R X its as :=
  ⟨e _ _ L.hh, e _ _ L.hN, L.hA.imp fun _ _ q => q.mono e, e _ _ L.hR, e _ _ L.hX, L.nd, L.ok, L.le, L.cl⟩
structure Fresh4 (H : Hp) (h N R X : Addr) : Prop where
  h0 : H h = none
  h1 : H N = none
  h2 : H R = none
  h3 : H X = none
theorem Fresh4.keep {H H' H'' : Hp} {h N R X : Addr} (f : Fresh4 H h N R X) (e : Ex H H') (fr : ∀ x o, x ≠ N → x ≠ R → x ≠ X → H' x = some o → H'' x = some o) : Ex H H'' := fun x o hx => fr x o (ne_of_none hx f.h1) (ne_of_none hx f.h2) (ne_of_none hx f.h3) (e _ _ hx)
def spExpr : Sp := fun vs H Q _ => ∃ (d nm fn : Addr) (most : Int) (ws : List Str) (fs : List Addr) (rs : List Rw), vs = [.ref d, .ref nm, .ref fn, .int most] ∧ H d = some (DrO d) ∧ H nm = some (.lst (ws.map V.str)) ∧ (∀ w ∈ ws, okS w = true) ∧ ws.length ≤ 100 ∧ RowsAt H fn fs (newR :: copyR :: rs) ∧ (∀ r ∈ newR :: copyR :: rs, good r) ∧ 1 ≤ most ∧ most ≤ 20 ∧
  ∀ p N as z ns H', Ex H H' → H' p = some (.lst [.ref N, .str z]) → H' N = some (.lst (as.map V.ref)) → Al2 (NdAt H') as ns → GoodE okS (tl z) 0 ns → z.length ≤ 280 → ns.length ≤ 20 → (∀ nd ∈ ns, CallIn (newR :: copyR :: rs) nd) → H p = none → H N = none → p ≠ N → Q (.ref p) H'
/-- which node is to be made -/
def Want (rs : List Rw) (kind w : Str) (c : Int) : Prop := 0 ≤ c ∧ c ≤ 4 ∧ ((kind = "name" ∧ okS w = true ∧ c = 0) ∨ (kind = "call" ∧ okS w = true ∧ ∃ r ∈ rs, r.1 = w ∧ r.2.1 = c) ∨ (kind = w ∧ opsT.lookup w = some c))
theorem ok_expression (T : Tx0 w K mg A) : FnOk P w K mg base CX0 2 A.expression A.d_expression p_expression spExpr := by
  refine T.F_expression.ok sc_expression (fun vs H Q E h => ?_) (fun cdv Ar outer s H vs Q E hr h => ?_)
  · obtain ⟨d, nm, fn, most, ws, fs, rs, rfl, _⟩ := h
    rfl
  · obtain ⟨d, nm, fn, most, ws, fs, rs0, rfl, hd, hnm, hws, hwl, ⟨hfn, hfs⟩, hgr, hm0, hm1, k⟩ := h
    have hfsl := hfs.len
    have hnew : ∃ r ∈ newR :: copyR :: rs0, r.1 = ("new" : Str) ∧ r.2.1 = (0 : Int) := ⟨newR, List.mem_cons_self, rfl, rfl⟩
    generalize newR :: copyR :: rs0 = rs at *
    refine ⟨_, (pss_cons (ps_set (i := 4) sc_expression.nd rfl (Or.inl rfl) (pe_lst (pa_cons (pe_lst pa_nil) (pa_cons (pe_lst pa_nil) (pa_cons (pe_lst pa_nil) pa_nil)))))
      (pss_cons (ps_for PassesOwn.never rfl (pi_range1 (by rfl) T.m_range (pa_cons (pe_op op_add pe_int (pe_call (ok_take T) (hr.mono (by decide)) (by rfl) T.g_take T.F_take.kp T.b_take .nil pass0 (pa_cons (pv 0) (pa_cons (pv 3) pa_nil)))) pa_nil)) (pg_name (i := 5) sc_expression.nd rfl (Or.inl rfl)) (pss_cons (ps_set (i := 6) sc_expression.nd rfl (Or.inl rfl) (pe_call (ok_take T) (hr.mono (by decide)) (by rfl) T.g_take T.F_take.kp T.b_take .nil pass0 (pa_cons (pv 0) (pa_cons pe_int pa_nil))))
        (pss_cons (ps_set (i := 7) sc_expression.nd rfl (Or.inl rfl) pe_str)
        (pss_cons (ps_set (i := 8) sc_expression.nd rfl (Or.inl rfl) pe_str)
        (pss_cons (ps_set (i := 9) sc_expression.nd rfl (Or.inl rfl) pe_int)
        (Evl.pss_cut (ps_if (pt_cmpR op_gt (pv 6) pe_int (nomark _)) (pss_cons (ps_set (i := 10) sc_expression.nd rfl (Or.inl rfl) (pe_ix ix_list (pv 2) (pe_call (ok_take T) (hr.mono (by decide)) (by rfl) T.g_take T.F_take.kp T.b_take .nil pass0 (pa_cons (pv 0) (pa_cons (pe_callB call_len_seq (by rfl) T.m_len PySem.boot_len (pa_cons (pv 2) pa_nil)) pa_nil))) (fun _ _ => rfl)))
          (pss_cons (ps_set (i := 8) sc_expression.nd rfl (Or.inl rfl) (pe_ix ix_list (pv 10) pe_int (fun _ _ => rfl)))
          (pss_one (ps_set (i := 9) sc_expression.nd rfl (Or.inl rfl) (pe_ix ix_list (pv 10) pe_int (fun _ _ => rfl)))))) pss_nil)
        (Evl.pss_cut (ps_if (PW.pt (pw_and (pt_cmpR op_lt pe_int (pv 6) (nomark _)) (pw_and1 (pt_cmpR op_lt (pv 6) pe_int (nomark _))))) (pss_cons (ps_set (i := 7) sc_expression.nd rfl (Or.inl rfl) (pe_ix ix_list (pe_lst (pa_cons pe_str (pa_cons pe_str (pa_cons pe_str pa_nil)))) (pe_op op_sub (pv 6) pe_int) (fun _ _ => rfl)))
          (pss_cons (ps_set (i := 8) sc_expression.nd rfl (Or.inl rfl) (pv 7))
          (pss_one (ps_set (i := 9) sc_expression.nd rfl (Or.inl rfl) (pe_ix ix_list (pe_lst (pa_cons pe_int (pa_cons pe_int (pa_cons pe_int pa_nil)))) (pe_op op_sub (pv 6) pe_int) (fun _ _ => rfl)))))) pss_nil)
        (Evl.pss_cut (ps_if (PW.pt (pw_or (pt_cmpR op_lt (pv 6) pe_int (nomark _)) (pw_or1 (pt_cmpR op_gt (pv 9) (pe_callB call_len_seq (by rfl) T.m_len PySem.boot_len (pa_cons (pe_ix ix_list (pv 4) pe_int (fun _ _ => rfl)) pa_nil)) (nomark _))))) (pss_cons (ps_set (i := 7) sc_expression.nd rfl (Or.inl rfl) pe_str)
          (pss_cons (ps_set (i := 8) sc_expression.nd rfl (Or.inl rfl) pe_str)
          (pss_cons (ps_set (i := 9) sc_expression.nd rfl (Or.inl rfl) pe_int)
          (pss_one (ps_if (pt_cmpR op_gt (pe_callB call_len_seq (by rfl) T.m_len PySem.boot_len (pa_cons (pv 1) pa_nil)) pe_int (nomark _)) (pss_cons (ps_set (i := 7) sc_expression.nd rfl (Or.inl rfl) pe_str)
            (pss_one (ps_set (i := 8) sc_expression.nd rfl (Or.inl rfl) (pe_ix ix_list (pv 1) (pe_call (ok_take T) (hr.mono (by decide)) (by rfl) T.g_take T.F_take.kp T.b_take .nil pass0 (pa_cons (pv 0) (pa_cons (pe_callB call_len_seq (by rfl) T.m_len PySem.boot_len (pa_cons (pv 1) pa_nil)) pa_nil))) (fun _ _ => rfl))))) pss_nil))))) pss_nil)
        (pss_one (ps_if (pt_cmpR op_le (pe_op op_sub (pe_op op_add (pe_op op_add (pe_callB call_len_seq (by rfl) T.m_len PySem.boot_len (pa_cons (pe_ix ix_list (pv 4) pe_int (fun _ _ => rfl)) pa_nil)) (pe_callB call_len_seq (by rfl) T.m_len PySem.boot_len (pa_cons (pe_ix ix_list (pv 4) pe_int (fun _ _ => rfl)) pa_nil))) pe_int) (pv 9)) (pv 3) (nomark _)) (pss_one (ps_expr (pe_call (ok_add T) (hr.mono (by decide)) (by rfl) T.g_add T.F_add.kp T.b_add .nil pass0 (pa_cons (pv 4) (pa_cons (pv 7) (pa_cons (pv 8) (pa_cons (pv 9) pa_nil))))))) pss_nil))))))))))
      (pss_cons (ps_for PassesOwn.never rfl (pi_range1 (by rfl) T.m_range (pa_cons (pv 3) pa_nil)) (pg_name (i := 5) sc_expression.nd rfl (Or.inl rfl)) (pss_one (ps_if (pt_cmpR op_gt (pe_callB call_len_seq (by rfl) T.m_len PySem.boot_len (pa_cons (pe_ix ix_list (pv 4) pe_int (fun _ _ => rfl)) pa_nil)) pe_int (nomark _)) (pss_cons (ps_set (i := 8) sc_expression.nd rfl (Or.inl rfl) (pe_ix ix_list (pe_lst (pa_cons pe_str (pa_cons pe_str pa_nil))) (pe_call (ok_take T) (hr.mono (by decide)) (by rfl) T.g_take T.F_take.kp T.b_take .nil pass0 (pa_cons (pv 0) (pa_cons pe_int pa_nil))) (fun _ _ => rfl)))
          (pss_one (ps_expr (pe_call (ok_add T) (hr.mono (by decide)) (by rfl) T.g_add T.F_add.kp T.b_add .nil pass0 (pa_cons (pv 4) (pa_cons (pv 8) (pa_cons (pv 8) (pa_cons pe_int pa_nil)))))))) pss_nil)))
      (pss_one (ps_ret (pe_lst (pa_cons (pe_ix ix_list (pv 4) pe_int (fun _ _ => rfl)) (pa_cons (pe_ix ix_list (pe_ix ix_list (pv 4) pe_int (fun _ _ => rfl)) pe_int (fun _ _ => rfl)) pa_nil)))))))), ?_⟩
    refine ⟨Nat.zero_le _, fun N hN => ⟨Nat.zero_le _, fun R hR => ⟨Nat.zero_le _, fun X hX => ⟨sz_of (by show 3 ≤ 100000; decide), fun h hh => ?_⟩⟩⟩⟩
    have e1 := Ex.new (o := .lst []) hN
    have e2 := Ex.new (o := .lst []) hR
    have e3 := Ex.new (o := .lst []) hX
    have e4 := Ex.new (o := .lst [.ref N, .ref R, .ref X]) hh
    have q1 : upd H N (.lst []) N = some (.lst []) := upd_same
    have n1 : N ≠ R := ne_of_none q1 hR
    have n2 : N ≠ X := ne_of_none (e2 _ _ q1) hX
    have q2 : upd (upd H N (.lst [])) R (.lst []) R = some (.lst []) := upd_same
    have n3 : R ≠ X := ne_of_none q2 hX
    have q3 : upd (upd (upd H N (.lst [])) R (.lst [])) X (.lst []) X = some (.lst []) := upd_same
    have m1 := e3 _ _ (e2 _ _ q1)
    have m2 := e3 _ _ q2
    have n4 : h ≠ N := (ne_of_none m1 hh).symm
    have n5 : h ≠ R := (ne_of_none m2 hh).symm
    have n6 : h ≠ X := (ne_of_none q3 hh).symm
    have F4 : Fresh4 H h N R X := ⟨e1.free' (e2.free' (e3.free' hh)), hN, e1.free' hR, e1.free' (e2.free' hX)⟩
    have L0 : LawAt rs (upd (upd (upd (upd H N (.lst [])) R (.lst [])) X (.lst [])) h (.lst [.ref N, .ref R, .ref X])) h N R X [] [] :=
      ⟨upd_same, e4 _ _ m1, .nil, e4 _ _ m2, e4 _ _ q3, by simp [n1, n2, n3, n4, n5, n6], trivial, (fun i hi => by cases hi), (fun nd hi => by cases hi)⟩
    have e0 := ((e1.trans e2).trans e3).trans e4
    generalize upd (upd (upd (upd H N (.lst [])) R (.lst [])) X (.lst [])) h (.lst [.ref N, .ref R, .ref X]) = H0 at e0 L0 ⊢
    clear e1 e2 e3 e4 q1 q2 q3 m1 m2 hR hX hh
    refine ⟨_, rfl, _, rfl, d, most, rfl, e0 _ _ hd, by omega, fun m mm0 mm1 => ?_⟩
    refine ⟨1, m, rfl, rfl, 1 + m, rfl, forR1 ⟨by omega, by omega⟩ (fun i σ' H' => ∃ v5 v6 v7 v8 v9 v10 its as, σ' = [some (.ref d), some (.ref nm), some (.ref fn), some (.int most), some (.ref h), v5, v6, v7, v8, v9, v10] ∧ Ex H H' ∧ LawAt rs H' h N R X its as ∧ (flat its).length + its.length ≤ most.toNat + 1 ∧ (1 ≤ i → its ≠ [])) ⟨_, _, _, _, _, _, [], [], rfl, e0, L0, Nat.zero_le _, fun z => by omega⟩ ?_ ?_⟩
    · rintro i σ' H1 hi ⟨v5, v6, v7, v8, v9, v10, its, as, rfl, e1, L, hsum, hne⟩
      have hitl : its.length ≤ (flat its).length := flat_len2 its 0 L.ok
      refine ⟨_, rfl, d, _, rfl, e1 _ _ hd, by decide, fun f f0 f1 => ?_⟩
      -- of the functions
      refine ⟨fun σ' H' => ∃ (w : Str) (c : Int) (v10 : Option V), σ' = [some (.ref d), some (.ref nm), some (.ref fn), some (.int most), some (.ref h), some (.int (i : Int)), some (.int f), some (.str "call"), some (.str w), some (.int c), v10] ∧ H' = H1 ∧ okS w = true ∧ 0 ≤ c ∧ c ≤ 4 ∧ ∃ r ∈ rs, r.1 = w ∧ r.2.1 = c, ?_, ?_⟩
      · refine ⟨_, rfl, f, 5, rfl, rfl, _, rfl, ite2 (fun _ => ?_) (fun _ => ?_)⟩
        · have hfp : 0 < (fs.map V.ref).length := by
            obtain ⟨r, hr, _⟩ := hnew
            have := List.length_pos_of_mem hr
            rw [List.length_map]; omega
          refine ⟨_, rfl, _, rfl, _, rfl, fn, _, rfl, .inl (SqL.of (e1 _ _ hfn)), d, _, rfl, e1 _ _ hd, by omega, fun q q0 q1 => ?_⟩
          obtain ⟨qn, rfl⟩ := Int.eq_ofNat_of_zero_le q0
          have hq : qn < fs.length := by rw [List.length_map] at q1; omega
          obtain ⟨r, hri, mm, h1, _⟩ := hfs.at' (List.getElem?_eq_getElem hq)
          have hrm := List.mem_of_getElem? hri
          obtain ⟨h2, ⟨h3, h4⟩, _⟩ := hgr r hrm
          obtain ⟨w, c, ms⟩ := r
          refine ⟨fn, _, (qn : Int), .ref fs[qn], rfl, rfl, SqL.of (e1 _ _ hfn), atI_nat (by rw [List.getElem?_map, List.getElem?_eq_getElem hq]; rfl), ?_⟩
          have h1' := e1 _ _ h1
          refine ⟨_, rfl, fs[qn], _, 0, .str w, rfl, rfl, SqL.of h1', atI_nat (j := 0) rfl, _, rfl, fs[qn], _, 1, .int c, rfl, rfl, SqL.of h1', atI_nat (j := 1) rfl, ?_⟩
          exact ⟨w, c, _, rfl, rfl, h2, h3, h4, _, hrm, rfl, rfl⟩
        · exact ⟨"new", 0, _, rfl, rfl, by decide +kernel, by decide, by decide, hnew⟩
      rintro σ' H1' ⟨w1, c1, v10, rfl, rfl, hw1, hc0, hc4, hr1⟩
      -- an operation
      refine ⟨fun σ' H' => ∃ (kd w : Str) (c : Int) (v10 : Option V), σ' = [some (.ref d), some (.ref nm), some (.ref fn), some (.int most), some (.ref h), some (.int (i : Int)), some (.int f), some (.str kd), some (.str w), some (.int c), v10] ∧ Ex H1' H' ∧ Want rs kd w c, ?_, ?_⟩
      · refine ⟨_, rfl, 2, f, rfl, rfl, _, rfl, ite2 (fun z => ?_) (fun _ => ?_)⟩
        · have f2 : 2 < f := of_decide_eq_true z
          refine ⟨_, rfl, f, 6, rfl, rfl, _, rfl, ite2 (fun z => ?_) (fun _ => ?_)⟩
          · have f6 : f < 6 := of_decide_eq_true z
            refine ⟨sz_of (by show 3 ≤ 100000; decide), fun p1 hp1 => ?_⟩
            have eP := Ex.new (o := .lst [.str "part", .str "pick", .str "then"]) hp1
            obtain ⟨kd, c, hkd, hc, hlk⟩ : ∃ (kd : Str) (c : Int), atI [V.str "part", V.str "pick", V.str "then"] (f - 3) = some (.str kd) ∧ atI [V.int 1, V.int 2, V.int 2] (f - 3) = some (.int c) ∧ opsT.lookup kd = some c ∧ 0 ≤ c ∧ c ≤ 4 := by
              have : f = 3 ∨ f = 4 ∨ f = 5 := by omega
              rcases this with rfl | rfl | rfl
              · exact ⟨"part", 1, rfl, rfl, by decide +kernel, by decide, by decide⟩
              · exact ⟨"pick", 2, rfl, rfl, by decide +kernel, by decide, by decide⟩
              · exact ⟨"then", 2, rfl, rfl, by decide +kernel, by decide, by decide⟩
            refine ⟨_, rfl, f, 3, rfl, rfl, p1, _, f - 3, .str kd, rfl, rfl, SqL.of upd_same, hkd, _, rfl, sz_of (by show 3 ≤ 100000; decide), fun p2 hp2 => ?_⟩
            exact ⟨_, rfl, f, 3, rfl, rfl, p2, _, f - 3, .int c, rfl, rfl, SqL.of upd_same, hc, kd, kd, c, _, rfl, eP.trans (Ex.new hp2), hlk.2.1, hlk.2.2, .inr (.inr ⟨rfl, hlk.1⟩)⟩
          · exact ⟨"call", w1, c1, _, rfl, Ex.refl _, hc0, hc4, .inr (.inl ⟨rfl, hw1, hr1⟩)⟩
        · exact ⟨"call", w1, c1, _, rfl, Ex.refl _, hc0, hc4, .inr (.inl ⟨rfl, hw1, hr1⟩)⟩
      rintro σ' H2 ⟨kd2, w2, c2, v10', rfl, e2, hW2⟩
      have e12 := e1.trans e2
      have L2 := L.mono e2
      have hRl : (ni (rootsL 0 its)).length = its.length := by rw [ni_len, roots_len]
      -- a name
      refine ⟨fun σ' H' => ∃ (kd w : Str) (c : Int) (v10 : Option V), σ' = [some (.ref d), some (.ref nm), some (.ref fn), some (.int most), some (.ref h), some (.int (i : Int)), some (.int f), some (.str kd), some (.str w), some (.int c), v10] ∧ H' = H2 ∧ Want rs kd w c ∧ c ≤ its.length, ?_, ?_⟩
      · have hnm2 := e12 _ _ hnm
        refine ⟨_, rfl, f, 2, rfl, rfl, _, rfl, ?_⟩
        by_cases hf2 : f < 2
        · rw [decide_eq_true hf2]
          refine iteT (iteT ?_)
          refine ⟨_, rfl, nm, _, rfl, .inl (SqL.of hnm2), _, 0, rfl, rfl, _, rfl, ite2 (fun z => ?_) (fun _ => ?_)⟩
          · have hz : (0 : Int) < ((ws.map V.str).length : Int) := of_decide_eq_true z
            refine ⟨_, rfl, _, rfl, _, rfl, nm, _, rfl, .inl (SqL.of hnm2), d, _, rfl, e12 _ _ hd, hz, fun q q0 q1 => ?_⟩
            obtain ⟨qn, rfl⟩ := Int.eq_ofNat_of_zero_le q0
            have hq : qn < ws.length := by rw [List.length_map] at q1; omega
            exact ⟨nm, _, (qn : Int), .str ws[qn], rfl, rfl, SqL.of hnm2, atI_nat (by rw [List.getElem?_map, List.getElem?_eq_getElem hq]; rfl), "name", ws[qn], 0, _, rfl, rfl, ⟨by decide, by decide, .inl ⟨rfl, hws _ (List.getElem_mem _), rfl⟩⟩, by omega⟩
          · exact ⟨"call", "new", 0, _, rfl, rfl, ⟨by decide, by decide, .inr (.inl ⟨rfl, by decide +kernel, hnew⟩)⟩, by omega⟩
        · rw [decide_eq_false hf2]
          refine iteF ⟨_, rfl, _, rfl, h, _, 1, .ref R, rfl, rfl, SqL.of L2.hh, atI_nat (j := 1) rfl, R, _, rfl, .inl (SqL.of L2.hR), c2, _, rfl, rfl, _, rfl, ite2 (fun z => ?_) (fun z => ?_)⟩
          refine ⟨_, rfl, nm, _, rfl, .inl (SqL.of hnm2), _, 0, rfl, rfl, _, rfl, ite2 (fun z => ?_) (fun _ => ?_)⟩
          · have hz : (0 : Int) < ((ws.map V.str).length : Int) := of_decide_eq_true z
            refine ⟨_, rfl, _, rfl, _, rfl, nm, _, rfl, .inl (SqL.of hnm2), d, _, rfl, e12 _ _ hd, hz, fun q q0 q1 => ?_⟩
            obtain ⟨qn, rfl⟩ := Int.eq_ofNat_of_zero_le q0
            have hq : qn < ws.length := by rw [List.length_map] at q1; omega
            exact ⟨nm, _, (qn : Int), .str ws[qn], rfl, rfl, SqL.of hnm2, atI_nat (by rw [List.getElem?_map, List.getElem?_eq_getElem hq]; rfl), "name", ws[qn], 0, _, rfl, rfl, ⟨by decide, by decide, .inl ⟨rfl, hws _ (List.getElem_mem _), rfl⟩⟩, by omega⟩
          · exact ⟨"call", "new", 0, _, rfl, rfl, ⟨by decide, by decide, .inr (.inl ⟨rfl, by decide +kernel, hnew⟩)⟩, by omega⟩
          · exact ⟨kd2, w2, c2, _, rfl, rfl, hW2, by have z2 : ¬ (((ni (rootsL 0 its)).length : Int) < c2) := fun y => z (decide_eq_true y); rw [hRl] at z2; omega⟩
      rintro σ' H2' ⟨kd, w, c, v10'', rfl, rfl, hW, hcl⟩
      obtain ⟨hc0', hc4', hW⟩ := hW
      obtain ⟨a, b, rfl, rfl⟩ : ∃ a b, its = a ++ b ∧ (b.length : Int) = c := by
        refine ⟨its.take (its.length - c.toNat), its.drop (its.length - c.toNat), (List.take_append_drop _ _).symm, ?_⟩
        rw [List.length_drop]
        omega
      have hal : as.length = (flat (a ++ b)).length := L2.hA.len
      have hlab : (a ++ b).length = a.length + b.length := List.length_append
      have hfab : (flat (a ++ b)).length = (flat a).length + (flat b).length := by rw [flat_app, List.length_append]
      refine ⟨_, rfl, h, _, 0, .ref N, rfl, rfl, SqL.of L2.hh, atI_nat (j := 0) rfl, N, _, rfl, .inl (SqL.of L2.hN), _, rfl, h, _, 1, .ref R, rfl, rfl, SqL.of L2.hh, atI_nat (j := 1) rfl, R, _, rfl, .inl (SqL.of L2.hR), _, _, rfl, rfl, _, 1, rfl, rfl, _, rfl, _, _, rfl, rfl, _, rfl, _, most, rfl, rfl, _, rfl, ite2 (fun z => ?_) (fun z => ?_)⟩
      · have hz : ((as.map V.ref).length : Int) + ((ni (rootsL 0 (a ++ b))).length : Int) + 1 - (b.length : Int) ≤ most := of_decide_eq_true z
        rw [List.length_map, hRl, hal] at hz
        refine ⟨_, rfl, _, rfl, _, rfl, _, rfl, rs, h, N, R, X, a, b, as, kd, w, rfl, L2, by omega, by omega, ?_, fun H3 it as' fr L3 hit => ?_⟩
        · rcases hW with ⟨h1, h2, h3⟩ | h1 | h1
          · exact .inl ⟨h1, h2, List.eq_nil_of_length_eq_zero (by omega)⟩
          · exact .inr (.inl h1)
          · exact .inr (.inr h1)
        · refine ⟨_, _, _, _, _, _, a ++ [it], as', rfl, F4.keep e12 fr, L3, ?_, fun _ => by simp⟩
          rw [flat_app, List.length_append, List.length_append, show flat [it] = it.2 by simp [flat], hit, List.length_singleton]
          omega
      · refine ⟨_, _, _, _, _, _, a ++ b, as, rfl, e12, L2, hsum, fun _ hnil => z (decide_eq_true ?_)⟩
        show ((as.map V.ref).length : Int) + ((ni (rootsL 0 (a ++ b))).length : Int) + 1 - (b.length : Int) ≤ most
        rw [List.length_map, hRl, hal]
        have hz1 : (flat (a ++ b)).length = 0 := by rw [hnil]; rfl
        have hz2 : (a ++ b).length = 0 := by rw [hnil]; rfl
        omega
    · rintro σ' H1 ⟨v5, v6, v7, v8, v9, v10, its, as, rfl, e1, L, hsum, hne⟩
      have hne := hne (by omega)
      have hpos := List.length_pos_iff.mpr hne
      have hitl : its.length ≤ (flat its).length := flat_len2 its 0 L.ok
      refine ⟨_, rfl, most, rfl, forR1 ⟨by omega, by omega⟩ (fun j σ' H' => ∃ v5 v6 v7 v8 v9 v10 its as, σ' = [some (.ref d), some (.ref nm), some (.ref fn), some (.int most), some (.ref h), v5, v6, v7, v8, v9, v10] ∧ Ex H H' ∧ LawAt rs H' h N R X its as ∧ (flat its).length + its.length ≤ most.toNat + 1 ∧ its ≠ [] ∧ (its.length = 1 ∨ its.length + j ≤ most.toNat)) ⟨_, _, _, _, _, _, its, as, rfl, e1, L, hsum, hne, .inr (by omega)⟩ ?_ ?_⟩
      · rintro j σ' H2 hj ⟨v5, v6, v7, v8, v9, v10, its, as, rfl, e2, L2, hsum, hne, hor⟩
        have hRl : (ni (rootsL 0 its)).length = its.length := by rw [ni_len, roots_len]
        refine ⟨_, rfl, h, _, 1, .ref R, rfl, rfl, SqL.of L2.hh, atI_nat (j := 1) rfl, R, _, rfl, .inl (SqL.of L2.hR), _, 1, rfl, rfl, _, rfl, ite2 (fun z => ?_) (fun z => ?_)⟩
        · have hz : (1 : Int) < ((ni (rootsL 0 its)).length : Int) := of_decide_eq_true z
          rw [hRl] at hz
          refine ⟨sz_of (by show 2 ≤ 100000; decide), fun p1 hp1 => ?_⟩
          have eP := Ex.new (o := .lst [.str "pick", .str "then"]) hp1
          refine ⟨_, rfl, d, _, rfl, eP _ _ (e2 _ _ hd), by decide, fun q q0 q1 => ?_⟩
          obtain ⟨kd, hkd, hlk⟩ : ∃ kd : Str, atI [V.str "pick", V.str "then"] q = some (.str kd) ∧ opsT.lookup kd = some 2 := by
            have : q = 0 ∨ q = 1 := by omega
            rcases this with rfl | rfl
            · exact ⟨"pick", rfl, by decide +kernel⟩
            · exact ⟨"then", rfl, by decide +kernel⟩
          obtain ⟨a, b, rfl, hb⟩ : ∃ a b, its = a ++ b ∧ b.length = 2 :=
            ⟨its.take (its.length - 2), its.drop (its.length - 2), (List.take_append_drop _ _).symm, by rw [List.length_drop]; omega⟩
          have hlab : (a ++ b).length = a.length + b.length := List.length_append
          have hfab : (flat (a ++ b)).length = (flat a).length + (flat b).length := by rw [flat_app, List.length_append]
          refine ⟨p1, _, q, .str kd, rfl, rfl, SqL.of upd_same, hkd, _, rfl, _, rfl, _, rfl, rs, h, N, R, X, a, b, as, kd, kd, by rw [hb]; rfl, L2.mono eP, by omega, by omega, .inr (.inr ⟨rfl, by rw [hb]; exact hlk⟩), fun H3 it as' fr L3 hit => ?_⟩
          refine ⟨_, _, _, _, _, _, a ++ [it], as', rfl, F4.keep (e2.trans eP) fr, L3, ?_, by simp, ?_⟩
          · rw [flat_app, List.length_append, List.length_append, show flat [it] = it.2 by simp [flat], hit, List.length_singleton]
            omega
          · rw [List.length_append, List.length_singleton]
            omega
        · have hz : ¬ (1 : Int) < ((ni (rootsL 0 its)).length : Int) := fun y => z (decide_eq_true y)
          rw [hRl] at hz
          have := List.length_pos_iff.mpr hne
          exact ⟨_, _, _, _, _, _, its, as, rfl, e2, L2, hsum, hne, .inl (by omega)⟩
      · rintro σ' H2 ⟨v5, v6, v7, v8, v9, v10, its, as, rfl, e2, L2, hsum, hne, hor⟩
        have hp2 := List.length_pos_iff.mpr hne
        obtain ⟨⟨t, ns⟩, rfl⟩ : ∃ i, its = [i] := by
          cases its with
          | nil => exact absurd rfl hne
          | cons i r =>
            cases r with
            | nil => exact ⟨i, rfl⟩
            | cons j r => simp only [List.length_cons] at hor; omega
        have hfl1 : flat [(t, ns)] = ns := by simp [flat]
        have hle := L2.le (t, ns) List.mem_cons_self
        have hA := L2.hA
        have hcl := L2.cl
        rw [hfl1] at hsum hA hcl
        have hsum : ns.length + 1 ≤ most.toNat + 1 := hsum
        have hle : t.length ≤ 14 * ns.length := hle
        refine ⟨_, rfl, h, _, 0, .ref N, rfl, rfl, SqL.of L2.hh, atI_nat (j := 0) rfl, _, rfl, h, _, 2, .ref X, rfl, rfl, SqL.of L2.hh, atI_nat (j := 2) rfl, X, _, 0, .str (ofL t), rfl, rfl, SqL.of L2.hX, atI_nat (j := 0) rfl, sz_of (by show 2 ≤ 100000; decide), fun p hp => ?_⟩
        have eP := Ex.new (o := .lst [.ref N, .str (ofL t)]) hp
        refine k p N as (ofL t) ns _ (e2.trans eP) upd_same (eP _ _ L2.hN) (hA.imp fun _ _ q => q.mono eP) (by rw [tl_ofL]; exact L2.ok.1) (by rw [ofL_len]; omega) (by omega) hcl (e2.free' hp) F4.h1 (ne_of_none L2.hN hp).symm
end
end K18

set_option Elab.async false
set_option linter.all false
set_option maxRecDepth 100000
namespace K18
open PySem PySem.Spec PyProof.Rows L2 Evl TL UL StX
section
variable {P : Program} {w : World} {K : PySem.W.Frag} {mg : Str → Option Value} {base : Heap} {A : Adr}
def spBookRows (K : PySem.W.Frag) (B C : Addr) : Sp := fun vs H Q _ => ∃ p as rs, vs = [.ref p] ∧ RowsAt H p as (newR :: copyR :: rs) ∧ Fit rs ∧ ∀ H' x ss, H x = none → Ex H H' → BookAt K B C H' x ss (newR :: copyR :: rs) → Q (.ref x) H'
theorem join_one {ra : List Rw} {r : Rw} {TL DF : Addr} (h : r.1 ∉ ra.map (·.1)) (hl : ra.length < 12) : errJoin ra [r] TL DF = none ∧ added ra [r] = [r] := by
  have h1 : added ra [r] = [r] := by
    have := added_snoc ra [] r
    rw [if_neg h] at this
    exact this
  refine ⟨?_, h1⟩
  unfold errJoin
  rw [show confl ra [r] = none by unfold confl; rw [clash_none h, if_neg (by decide)]; rfl, h1]
  show (if 12 < (ra ++ [r]).length then _ else _) = _
  rw [if_neg (by rw [List.length_append]; show ¬ 12 < ra.length + 1; omega)]
theorem ok_book_rows (T : Tx0 w K mg A) : FnOk P w K mg base CX0 14 A.book_rows A.d_book_rows p_book_rows (spBookRows K A.Book A.Signature) := by
  refine T.F_book_rows.ok sc_book_rows (fun vs H Q E h => ?_) (fun cdv Ar outer s H vs Q E hr h => ?_)
  · obtain ⟨p, as, rs, rfl, _⟩ := h
    rfl
  · obtain ⟨p, as, rs, rfl, hR, fit, k⟩ := h
    obtain ⟨mv, kb_sig_init_2⟩ := T.F_sig_init.kbinds0 (ps := p_sig_init) 3 ["sources"] [] (fun us _ ws => us ++ ws) (by simp) (fun q h => (nomatch h)) (fun a _ c => a.append c) (fun D doc pm an cdv ct us mv ws h1 h2 h3 => by
      match us, h1, mv, h2, ws, h3 with
      | [_, _, _], _, [], _, [_], _ => exact rfl)
    refine ⟨_, (pss_cons (ps_set (i := 1) sc_book_rows.nd rfl (Or.inl rfl) (UL.pe_makeR0 T.mk_Book (ok_book_init T) (hr.mono (by decide)) (by rfl) T.g_Book passL))
      (pss_cons (ps_for PassesOwn.never rfl (pi_list (pe_slice sl_list (pv 0) (po_some pe_int) po_none)) (pg_name (i := 2) sc_book_rows.nd rfl (Or.inl rfl)) (pss_one (ps_set (i := 1) sc_book_rows.nd rfl (Or.inl rfl) (pe_op (UL.op_ownBin (ok_book_or T) (hr.mono (by decide)) T.sf_Book T.e_book_or.at_ T.e_book_or.fn T.b_book_or passL) (pv 1) (StX.pe_makeR T.mk_Book (ok_book_init T) (hr.mono (by decide)) (by rfl) T.g_Book passL (pa_cons (pe_makeK (n := 2) T.mk_Signature (ok_sig_init T) (hr.mono (by decide)) (by rfl) T.g_Signature kb_sig_init_2 passL (pa_cons (pe_ix ix_list (pv 2) pe_int (fun _ _ => rfl)) (pa_cons (pe_ix ix_list (pv 2) pe_int (fun _ _ => rfl)) pa_nil)) (pk_cons (pe_ix ix_list (pv 2) pe_int (fun _ _ => rfl)) pk_nil)) pa_nil))))))
      (pss_one (ps_ret (pv 1))))), ?_⟩
    obtain ⟨hRp, hR2⟩ := hR
    obtain ⟨a1, a2, as, rfl, hRr⟩ : ∃ a1 a2 as', as = a1 :: a2 :: as' ∧ All2 (RowAt H) as' rs := by
      cases hR2 with
      | cons q1 t =>
        cases t with
        | cons q2 t => exact ⟨_, _, _, rfl, t⟩
    have hAl := hRr.len
    have hln := fit.ln
    have mk : ∀ (H : Hp) (ss : List Addr) (rs : List Rw) (G : Addr → Hp → Prop), All2 (SigR K A.Signature H) ss rs → (∀ r ∈ rs, good r) → rs.length ≤ 12 → errDue (dueOf rs) A.TooLarge A.DuplicateFunction = none → (∀ H' x ss', H x = none → Ex H H' → BookAt K A.Book A.Signature H' x ss' (newR :: copyR :: rs) → G x H') →
        ∀ x dx, H x = none → H dx = none → dx ≠ x → UL.spStar (spBookInit K A.Book A.Signature A.TooLarge A.DuplicateFunction) (.ref x :: ss.map V.ref) (upd (upd H dx (.own x)) x (.ins A.Book dx [])) (fun v H2 => v = .non ∧ G x H2) E0 := by
      intro H ss rs G hS hg hl due kk x dx hx hdx ne
      have hsl := hS.len
      refine ⟨.ref x, ss.map V.ref, rfl, by rw [List.length_map]; omega, fun p' hp' => ⟨x, dx, p', ss, rs, rfl, ?_, upd_same, ?_, hg, by omega, ?_, ?_⟩⟩
      · rw [upd_ne (ne_of_none upd_same hp')]
        exact upd_same
      · exact hS.imp fun _ _ q => (q.mono (made_in hx hdx)).mono (Ex.new hp')
      · intro _ H' s1 s2 ex bk
        exact ⟨rfl, kk H' x _ hx (fun b o hb => ex b o (del_at (Ex.new hp' b o (made_in hx hdx b o hb)) (ne_of_none hb hx))) bk⟩
      · intro X z d2
        rw [due] at d2
        cases d2
    refine mk H [] [] _ .nil (fun _ h => (nomatch h)) (by decide) rfl (fun H1 x1 ss1 hx1 e1 bk1 => ?_)
    refine ⟨_, rfl, 2, rfl, p, _, rfl, SqL.of (e1 _ _ hRp), fun s hs => ?_⟩
    rw [show cutV ((a1 :: a2 :: as).map V.ref) (some 2) none = as.map V.ref from UL.cut_from _ 2]
    have eS := Ex.new (o := .lst (as.map V.ref)) hs
    have hS := upd_same (H := H1) (a := s) (o := .lst (as.map V.ref))
    generalize upd H1 s (.lst (as.map V.ref)) = H1' at eS hS ⊢
    have bk1 := bk1.mono eS
    have e1 := e1.trans eS
    refine ⟨s, rfl, ⟨_, SqL.of hS⟩, for_list (xs := as.map V.ref) (fun i σ' H' => (∃ x v2, σ' = [some (.ref p), some (.ref x), v2] ∧ H x = none ∧ ∃ ss, BookAt K A.Book A.Signature H' x ss (newR :: copyR :: rs.take i)) ∧ Ex H H' ∧ H' s = some (.lst (as.map V.ref))) ⟨⟨x1, _, rfl, hx1, ss1, bk1⟩, e1, hS⟩ (fun i σ' H' _ h => SqL.of h.2.2) ?_ ?_⟩
    · rintro i y σ' H2 hi ⟨⟨x, v2, rfl, hx, ss, bk⟩, e2, h2s⟩
      rw [List.getElem?_map] at hi
      cases hai : as[i]? with
      | none => rw [hai] at hi; cases hi
      | some a =>
      rw [hai] at hi
      cases hi
      obtain ⟨r, hri, l, har, hal⟩ := (hRr.imp fun _ _ h => h.mono e2).at' hai
      obtain ⟨hz, ⟨n0, n4⟩, hasc⟩ := fit.gd r (List.mem_of_getElem? hri)
      have hzl := okS_len hz
      have hl4 := asc_len n4 _ hasc
      have hlt : i < rs.length := (List.getElem?_eq_some_iff.mp hri).1
      have nx : rs.take (i + 1) = rs.take i ++ [r] := by rw [List.take_add_one, hri]; rfl
      have hnew : r.1 ∉ (rs.take i).map (·.1) := by
        have nd := fit.nd.sublist (List.Sublist.map (fun r : Rw => r.1) (List.take_sublist (i + 1) rs))
        rw [nx, List.map_append] at nd
        have := (List.pairwise_append.mp nd).2.2
        exact fun q => this _ q _ (List.mem_singleton.mpr rfl) rfl
      have tl : (rs.take i).length < 12 := by rw [List.length_take]; omega
      obtain ⟨j1, j2⟩ := join_one (TL := A.TooLarge) (DF := A.DuplicateFunction) hnew tl
      refine ⟨_, rfl, _, rfl, a, _, 0, .str r.1, rfl, rfl, SqL.of har, atI_nat (j := 0) rfl, _, rfl, a, _, 1, .int r.2.1, rfl, rfl, SqL.of har, atI_nat (j := 1) rfl, _, rfl, a, _, 2, .ref l, rfl, rfl, SqL.of har, atI_nat (j := 2) rfl, rfl, rfl, fun x3 dx3 hx3 hdx3 ne3 => ?_⟩
      have ex0 := made_in (C := A.Signature) hx3 hdx3
      have th : ∀ {H' : Hp} {ms : List Int}, ∀ x ∈ ms.map V.int, Th H' x := fun x hx => by
        obtain ⟨m, _, rfl⟩ := List.mem_map.mp hx
        exact .inr (.inr (.inr (.inl ⟨m, rfl⟩)))
      refine ⟨x3, dx3, .str r.1, .int r.2.1, .ref l, some (r.2.2.map V.int), rfl, upd_same, rfl, .inl ⟨_, rfl, by omega⟩, .inr (.inr (.inr (.inl ⟨_, rfl⟩))), ⟨⟨l, rfl, .inl (ex0 _ _ hal)⟩, th, by rw [List.length_map]; omega⟩, fun _ H4 t e4' h4 ht4 => ⟨rfl, ?_⟩, (fun h => by rw [sigOk_asc hz n0 n4 hasc] at h; cases h)⟩
      have e4 := made_ex hx3 hdx3 e4'
      have e24 := e2.trans e4
      refine mk H4 [x3] [r] _ (.cons ⟨dx3, t, h4, ht4⟩ .nil) (fun r' hr' => by rw [List.mem_singleton.mp hr']; exact fit.gd r (List.mem_of_getElem? hri)) (by show 1 ≤ 12; decide) ?_ (fun H5 xb ssb hxb e5 bkb => ?_)
      · rw [due_nd (rs := [r]) (show ([r.1] : List Str).Nodup from List.pairwise_singleton _ _) (fun r' hr' => by rw [List.mem_singleton.mp hr']; exact fit.nn r (List.mem_of_getElem? hri))]
        exact if_neg (by show ¬ 12 < 1; decide)
      have bk5 := (bk.mono e4).mono e5
      obtain ⟨dx5, g5, v5, b5, q1, q2, q3, q4⟩ := bk5.ex
      obtain ⟨dxb, gb, vb, bb, p1, p2, p3, p4⟩ := bkb.ex
      refine ⟨x, xb, dx5, _, dxb, _, rfl, rfl, q1, p1, x, xb, ss, rs.take i, ssb, [r], rfl, bk5, bkb, fun _ H6 x6 ss6 hx6 e6 bk6 => ⟨x6, rfl, ?_⟩, fun X z q => by rw [j1] at q; cases q⟩
      rw [j2, ← nx] at bk6
      have e26 := (e24.trans e5).trans e6
      exact ⟨⟨x6, _, rfl, fresh_back (e24.trans e5) hx6, ss6, bk6⟩, e26, e6 _ _ (e5 _ _ (e4 _ _ h2s))⟩
    · rintro σ' H2 ⟨⟨x, v2, rfl, hx, ss, bk⟩, e2, h2s⟩
      rw [List.length_map, hAl, List.take_length] at bk
      exact ⟨_, rfl, k H2 x ss hx e2 bk⟩
end
end K18

set_option Elab.async false
set_option linter.all false
set_option maxRecDepth 100000
namespace K18
open PySem PySem.Spec PyProof.Rows L2 Evl TL UL StX
section
variable {P : Program} {w : World} {K : PySem.W.Frag} {mg : Str → Option Value} {base : Heap} {A : Adr}
/-! ### what a node may give -/
def keysL (nd : Nd) (ss : List Int) : List Int := match nd with
  | .name _ => []
  | .call _ _ => ss
  | .op w _ => if w = "pick" then [1, 2] else [0]
def givK (nd : Nd) (ss : List Int) : List (Key × V) := match nd with
  | .name _ => []
  | .call _ os => ss.map fun s => (Sum.inl s, V.int ((os.getD (s - 1).toNat 0 : Nat) : Int))
  | .op w os => if w = "part" then [(Sum.inl 0, V.int ((os.getD 0 0 : Nat) : Int))] else if w = "pick" then [(Sum.inl 1, V.int ((os.getD 0 0 : Nat) : Int)), (Sum.inl 2, V.int ((os.getD 1 0 : Nat) : Int))] else [(Sum.inl 0, V.int ((os.getD 1 0 : Nat) : Int))]
theorem giv_keys (nd : Nd) (ss : List Int) : (givK nd ss).map (fun kv => kV kv.1) = (keysL nd ss).map V.int := by
  cases nd with
  | name w => rfl
  | call w os =>
    show (ss.map _).map _ = _
    rw [List.map_map]
    rfl
  | op w os =>
    show List.map _ (if w = "part" then _ else if w = "pick" then _ else _) = List.map V.int (if w = "pick" then _ else _)
    by_cases e1 : w = "part"
    · subst e1
      rfl
    · rw [if_neg e1]
      by_cases e2 : w = "pick"
      · rw [if_pos e2, if_pos e2]
        rfl
      · rw [if_neg e2, if_neg e2]
        rfl
/-- the sources that a node has -/
def SrcOk (nd : Nd) (ss : List Int) : Prop := match nd with
  | .call _ os => Asc os.length ss
  | _ => ss = []
theorem op_cases {w : Str} {os : List Nat} (h : WfNd (.op w os)) : (w = "part" ∧ ∃ m, os = [m]) ∨ (w = "pick" ∧ ∃ m n, os = [m, n]) ∨ (w = "then" ∧ ∃ m n, os = [m, n]) := by
  have h : opsT.lookup w = some (os.length : Int) := h
  have len2 : (2 : Int) = os.length → ∃ m n, os = [m, n] := fun q => match os, q with | [m, n], _ => ⟨m, n, rfl⟩
  by_cases e1 : w = "part"
  · subst e1
    rw [show opsT.lookup ("part" : Str) = some 1 by decide +kernel] at h
    have h2 : (1 : Int) = os.length := Option.some.inj h
    exact .inl ⟨rfl, match os, h2 with | [m], _ => ⟨m, rfl⟩⟩
  · by_cases e2 : w = "pick"
    · subst e2
      rw [show opsT.lookup ("pick" : Str) = some 2 by decide +kernel] at h
      exact .inr (.inl ⟨rfl, len2 (Option.some.inj h)⟩)
    · by_cases e3 : w = "then"
      · subst e3
        rw [show opsT.lookup ("then" : Str) = some 2 by decide +kernel] at h
        exact .inr (.inr ⟨rfl, len2 (Option.some.inj h)⟩)
      · have b1 : (w == ("part" : Str)) = false := by simpa using e1
        have b2 : (w == ("pick" : Str)) = false := by simpa using e2
        have b3 : (w == ("then" : Str)) = false := by simpa using e3
        unfold opsT at h
        simp only [List.lookup, b1, b2, b3] at h
        cases h
theorem put_fresh {kvs : List (Key × V)} {k : Key} {v : V} (h : ∀ kv ∈ kvs, kv.1 ≠ k) : putK kvs k v = kvs ++ [(k, v)] := by
  unfold putK
  refine if_neg fun q => ?_
  obtain ⟨kv, hm, e⟩ := List.any_eq_true.mp q
  exact h kv hm (of_decide_eq_true e)
theorem asc_take {n : Int} {ss : List Int} (h : Asc n ss) {i : Nat} {s0 : Int} (hs : ss[i]? = some s0) : ∀ s ∈ ss.take i, s ≠ s0 := by
  intro s hm e
  obtain ⟨j, hj⟩ := List.getElem?_of_mem hm
  have hlt := (List.getElem?_eq_some_iff.mp hj).1
  rw [List.length_take] at hlt
  rw [List.getElem?_take_of_lt (by omega)] at hj
  obtain ⟨l1, e1⟩ := List.getElem?_eq_some_iff.mp hj
  obtain ⟨l2, e2⟩ := List.getElem?_eq_some_iff.mp hs
  have := List.pairwise_iff_getElem.mp h.1 j i l1 l2 (by omega)
  omega
def spGivOf (K : PySem.W.Frag) : Sp := fun vs H Q _ => ∃ a t nd ss, vs = [.ref a, .ref t] ∧ NdAt H a nd ∧ WfNd nd ∧ SrcOk nd ss ∧ SqT K H t (ss.map V.int) ∧ ∀ d H', Ex H H' → H' d = some (.dK (givK nd ss)) → H d = none → Q (.ref d) H'
theorem ok_givers_of (T : Tx0 w K mg A) : FnOk P w K mg base CX0 1 A.givers_of A.d_givers_of p_givers_of (spGivOf K) := by
  refine T.F_givers_of.ok sc_givers_of (fun vs H Q E h => ?_) (fun cdv Ar outer s H vs Q E hr h => ?_)
  · obtain ⟨a, t, nd, ss, rfl, _⟩ := h
    rfl
  · obtain ⟨a, t, nd, ss, rfl, hn, wf, hs, ht, k⟩ := h
    refine ⟨_, (pss_cons (ps_if (pt_cmpR op_eq (pe_ix ix_tup (pv 0) pe_int (fun _ _ => rfl)) pe_str (nomark _)) (pss_one (ps_ret (pe_disp (pps_cons pe_int (pe_ix ix_tup (pv 0) pe_int (fun _ _ => rfl)) pps_nil) (by rfl) (by rfl) (fun z => by cases z) (by decide)))) pss_nil)
      (pss_cons (ps_if (pt_cmpR op_eq (pe_ix ix_tup (pv 0) pe_int (fun _ _ => rfl)) pe_str (nomark _)) (pss_one (ps_ret (pe_disp (pps_cons pe_int (pe_ix ix_tup (pv 0) pe_int (fun _ _ => rfl)) (pps_cons pe_int (pe_ix ix_tup (pv 0) pe_int (fun _ _ => rfl)) pps_nil)) (by rfl) (by rfl) (fun z => by cases z) (by decide)))) pss_nil)
      (pss_cons (ps_if (pt_cmpR op_eq (pe_ix ix_tup (pv 0) pe_int (fun _ _ => rfl)) pe_str (nomark _)) (pss_one (ps_ret (pe_disp (pps_cons pe_int (pe_ix ix_tup (pv 0) pe_int (fun _ _ => rfl)) pps_nil) (by rfl) (by rfl) (fun z => by cases z) (by decide)))) pss_nil)
      (pss_one (ps_ret (pe_dc (own := [("source", 2)]) (g := gName 2) (tt := tYes) rfl sc_givers_of.nd (pi_tup (pv 1)) (blkOk_by (N := n_givers_of) (sc := defScope s_givers_of) (by decide +kernel)) (fun _ _ _ _ _ => pg_name (i := 2) sc_givers_of.nd rfl (Or.inl rfl)) (fun _ _ _ _ _ => pts_nil) (fun _ _ _ _ _ => (pv 2)) (fun _ _ _ _ _ => (pe_ix (show IxR _ (rIxT K) from ix_tup) (pe_ix (show IxR _ (rIxT K) from ix_tup) (pv 0) pe_int (fun _ _ => rfl)) (pe_op op_sub (pv 2) pe_int) (fun _ _ => rfl))))))))), ?_⟩
    cases nd with
    | op w os =>
      have hn : H a = some (.tup (.str w :: ni os)) := hn
      rcases op_cases wf with ⟨rfl, m, rfl⟩ | ⟨rfl, m, n, rfl⟩ | ⟨rfl, m, n, rfl⟩
      · refine ⟨_, rfl, a, _, 0, .str "part", rfl, rfl, SqT.of hn, atI_nat (j := 0) rfl, rfl, _, rfl, ite2 (fun _ => ?_) (fun h => absurd (by decide +kernel) h)⟩
        intro p hp
        have e1 := Ex.new (o := .dK []) hp
        refine ⟨_, rfl, a, _, 1, .int (m : Nat), rfl, rfl, SqT.of (e1 _ _ hn), atI_nat (j := 1) rfl, ?_⟩
        exact ⟨upd_same, [(Sum.inl 0, .int (m : Nat))], rfl, by simp, k p _ (by rw [upd_upd]; exact Ex.new hp) (by rw [upd_same]; rfl) hp⟩
      · refine ⟨_, rfl, a, _, 0, .str "pick", rfl, rfl, SqT.of hn, atI_nat (j := 0) rfl, rfl, _, rfl, ite2 (fun h => absurd h (by decide +kernel)) (fun _ => ?_)⟩
        refine ⟨_, rfl, a, _, 0, .str "pick", rfl, rfl, SqT.of hn, atI_nat (j := 0) rfl, rfl, _, rfl, ite2 (fun _ => ?_) (fun h => absurd (by decide +kernel) h)⟩
        intro p hp
        have e1 := Ex.new (o := .dK []) hp
        refine ⟨_, rfl, a, _, 1, .int (m : Nat), rfl, rfl, SqT.of (e1 _ _ hn), atI_nat (j := 1) rfl, ?_⟩
        refine ⟨_, rfl, a, _, 2, .int (n : Nat), rfl, rfl, SqT.of (e1 _ _ hn), atI_nat (j := 2) rfl, ?_⟩
        exact ⟨upd_same, [(Sum.inl 1, .int (m : Nat)), (Sum.inl 2, .int (n : Nat))], rfl, by simp, k p _ (by rw [upd_upd]; exact Ex.new hp) (by rw [upd_same]; rfl) hp⟩
      · refine ⟨_, rfl, a, _, 0, .str "then", rfl, rfl, SqT.of hn, atI_nat (j := 0) rfl, rfl, _, rfl, ite2 (fun h => absurd h (by decide +kernel)) (fun _ => ?_)⟩
        refine ⟨_, rfl, a, _, 0, .str "then", rfl, rfl, SqT.of hn, atI_nat (j := 0) rfl, rfl, _, rfl, ite2 (fun h => absurd h (by decide +kernel)) (fun _ => ?_)⟩
        refine ⟨_, rfl, a, _, 0, .str "then", rfl, rfl, SqT.of hn, atI_nat (j := 0) rfl, rfl, _, rfl, ite2 (fun _ => ?_) (fun h => absurd (by decide +kernel) h)⟩
        intro p hp
        have e1 := Ex.new (o := .dK []) hp
        refine ⟨_, rfl, a, _, 2, .int (n : Nat), rfl, rfl, SqT.of (e1 _ _ hn), atI_nat (j := 2) rfl, ?_⟩
        exact ⟨upd_same, [(Sum.inl 0, .int (n : Nat))], rfl, by simp, k p _ (by rw [upd_upd]; exact Ex.new hp) (by rw [upd_same]; rfl) hp⟩
    | name w =>
      have hn : H a = some (.tup [.str "name", .str w]) := hn
      obtain rfl : ss = [] := hs
      refine ⟨_, rfl, a, _, 0, .str "name", rfl, rfl, SqT.of hn, atI_nat (j := 0) rfl, rfl, _, rfl, ite2 (fun h => absurd h (by decide +kernel)) (fun _ => ?_)⟩
      refine ⟨_, rfl, a, _, 0, .str "name", rfl, rfl, SqT.of hn, atI_nat (j := 0) rfl, rfl, _, rfl, ite2 (fun h => absurd h (by decide +kernel)) (fun _ => ?_)⟩
      refine ⟨_, rfl, a, _, 0, .str "name", rfl, rfl, SqT.of hn, atI_nat (j := 0) rfl, rfl, _, rfl, ite2 (fun h => absurd h (by decide +kernel)) (fun _ => ?_)⟩
      refine ⟨_, rfl, t, rfl, ⟨_, ht⟩, fun p hp => ?_⟩
      refine dc_tup (xs := []) (fun i H' => H' = upd H p (.dK [])) rfl (fun _ _ _ e => by rw [e]; exact ex_t (Ex.new hp) ht) (fun i x H' hx _ => absurd hx (by simp)) ?_
      rintro H' rfl
      exact k p _ (Ex.new hp) upd_same hp
    | call w os =>
      obtain ⟨u, hn, hu⟩ := hn
      have hs : Asc os.length ss := hs
      refine ⟨_, rfl, a, _, 0, .str "call", rfl, rfl, SqT.of hn, atI_nat (j := 0) rfl, rfl, _, rfl, ite2 (fun h => absurd h (by decide +kernel)) (fun _ => ?_)⟩
      refine ⟨_, rfl, a, _, 0, .str "call", rfl, rfl, SqT.of hn, atI_nat (j := 0) rfl, rfl, _, rfl, ite2 (fun h => absurd h (by decide +kernel)) (fun _ => ?_)⟩
      refine ⟨_, rfl, a, _, 0, .str "call", rfl, rfl, SqT.of hn, atI_nat (j := 0) rfl, rfl, _, rfl, ite2 (fun h => absurd h (by decide +kernel)) (fun _ => ?_)⟩
      refine ⟨_, rfl, t, rfl, ⟨_, ht⟩, fun p hp => ?_⟩
      have lz : ss.length ≤ 4 := asc_len (n := os.length) (by have : os.length ≤ 4 := wf; omega) ss hs
      refine dc_tup (xs := ss.map V.int) (fun i H' => H' = upd H p (.dK (givK (.call w os) (ss.take i)))) rfl (fun _ _ _ e => by rw [e]; exact ex_t (Ex.new hp) ht) ?_ ?_
      · rintro i x H' hx rfl
        have e1 := Ex.new (o := .dK (givK (.call w os) (ss.take i))) hp
        rw [List.getElem?_map] at hx
        obtain ⟨s0, hs0, rfl⟩ := Option.map_eq_some_iff.mp hx
        obtain ⟨h1, h2⟩ := hs.2 s0 (List.mem_of_getElem? hs0)
        refine ⟨rfl, ?_⟩
        refine ⟨_, rfl, _, rfl, a, _, 2, .ref u, rfl, rfl, SqT.of (e1 _ _ hn), atI_nat (j := 2) rfl, ?_⟩
        have sz : (s0 - 1).toNat < os.length := by omega
        have at0 : atI (ni os) (s0 - 1) = some (.int ((os.getD (s0 - 1).toNat 0 : Nat) : Int)) := by
          have e2 : s0 - 1 = (((s0 - 1).toNat : Nat) : Int) := by omega
          rw [e2]
          refine atI_nat ?_
          rw [Int.toNat_natCast, ni, List.getElem?_map, List.getElem?_eq_getElem sz, List.getD_eq_getElem?_getD, List.getElem?_eq_getElem sz]
          rfl
        refine ⟨_, rfl, s0, 1, rfl, rfl, u, _, _, _, rfl, rfl, SqT.of (e1 _ _ hu), at0, givK (.call w os) (ss.take i), Sum.inl s0, rfl, upd_same, ?_, ?_⟩
        · exact sz_lt (by rw [← List.length_map (f := fun kv => kV kv.1), giv_keys, List.length_map]; show (ss.take i).length < _; rw [List.length_take]; omega)
        · rw [upd_upd, put_fresh (kvs := givK (.call w os) (ss.take i)) (k := Sum.inl s0) (v := V.int ((os.getD (s0 - 1).toNat 0 : Nat) : Int)) ?_]
          · rw [List.take_add_one, hs0]
            show _ = upd H p (HO.dK ((ss.take i ++ [s0]).map _))
            rw [List.map_append]
            rfl
          · intro kv hkv e
            obtain ⟨s1, h3, rfl⟩ := List.mem_map.mp (show kv ∈ (ss.take i).map _ from hkv)
            exact asc_take hs hs0 s1 h3 (Sum.inl.inj e)
      · rintro H' rfl
        exact k p _ (Ex.new hp) (by rw [upd_same, List.length_map, List.take_length]) hp
/-! ### the givers of an expression -/
def srcOf (rs : List Rw) (nd : Nd) : List Int := match nd with
  | .call w _ => ((rs.lookup w).map (·.2)).getD []
  | _ => []
def lacks (rs : List Rw) (nd : Nd) : Option Str := match nd with
  | .call w _ => if w ∈ rs.map (·.1) then none else some w
  | _ => none
def lackL (rs : List Rw) (ns : List Nd) : Option Str := ns.findSome? (lacks rs)
def CallOk (rs : List Rw) (nd : Nd) : Prop := match nd with
  | .call w os => ∀ r ∈ rs, r.1 = w → r.2.1 = (os.length : Int)
  | _ => True
theorem lack_step {rs : List Rw} {ns : List Nd} {i : Nat} {nd : Nd} (hi : ns[i]? = some nd) (h : lackL rs (ns.take i) = none) : lackL rs (ns.take (i + 1)) = lacks rs nd := by
  rw [List.take_add_one, hi]
  show List.findSome? _ (ns.take i ++ [nd]) = _
  rw [List.findSome?_append, show (ns.take i).findSome? (lacks rs) = none from h]
  simp [List.findSome?]
  cases lacks rs nd <;> rfl
theorem lack_found {rs : List Rw} {ns : List Nd} {i : Nat} {nd : Nd} {w : Str} (hi : ns[i]? = some nd) (h : lackL rs (ns.take i) = none) (hw : lacks rs nd = some w) : lackL rs ns = some w := by
  have e := lack_step hi h
  rw [hw] at e
  have q : lackL rs (ns.take (i + 1) ++ ns.drop (i + 1)) = some w := by
    show List.findSome? _ (_ ++ _) = _
    rw [List.findSome?_append, show (ns.take (i + 1)).findSome? (lacks rs) = some w from e]
    rfl
  rw [List.take_append_drop] at q
  exact q
theorem lookup_row {rs : List Rw} {r : Rw} (nd : (rs.map (·.1)).Nodup) (h : r ∈ rs) : rs.lookup r.1 = some r.2 := by
  induction rs with
  | nil => cases h
  | cons x t ih =>
    rw [List.map_cons, List.nodup_cons] at nd
    rcases List.mem_cons.mp h with rfl | h
    · exact List.lookup_cons_self
    · have ne : (r.1 == x.1) = false := by
        simpa using fun z : r.1 = x.1 => nd.1 (z ▸ List.mem_map.mpr ⟨r, h, rfl⟩)
      have e := ih nd.2 h
      obtain ⟨x1, x2⟩ := x
      rw [List.lookup_cons, ne]
      exact e
theorem src_ok {rs : List Rw} {nd : Nd} (gd : ∀ r ∈ rs, good r) (nn : (rs.map (·.1)).Nodup) (ok : CallOk rs nd) (hl : lacks rs nd = none) : SrcOk nd (srcOf rs nd) := by
  cases nd with
  | name w => rfl
  | op w os => rfl
  | call w os =>
    have hl : (if w ∈ rs.map (·.1) then none else some w) = none := hl
    by_cases hm : w ∈ rs.map (·.1)
    · obtain ⟨r, hr, rfl⟩ := List.mem_map.mp hm
      show Asc os.length (((rs.lookup r.1).map (·.2)).getD [])
      rw [lookup_row nn hr, ← ok r hr rfl]
      exact (gd r hr).2.2
    · rw [if_neg hm] at hl
      cases hl
theorem sqt_put {K : PySem.W.Frag} {H : Hp} {D t : Addr} {xs ys zs : List V} (hD : H D = some (.lst ys)) (h : SqT K H t xs) : SqT K (upd H D (.lst zs)) t xs := by
  have ne : ∀ {o : HO}, H t = some o → (∀ l, o ≠ .lst l) → t ≠ D := fun e q z => by
    rw [z, hD] at e
    exact q _ (Option.some.inj e).symm
  rcases h with (h | ⟨o, h⟩) | h
  · exact .inl (.inl (by rw [upd_ne (ne h fun _ z => nomatch z)]; exact h))
  · exact .inl (.inr ⟨o, by rw [upd_ne (ne h fun _ z => nomatch z)]; exact h⟩)
  · exact .inr h
def GivAt (rs : List Rw) (H : Hp) (d : Addr) (nd : Nd) : Prop := H d = some (.dK (givK nd (srcOf rs nd)))
def spGivers (K : PySem.W.Frag) (X B S UF : Addr) : Sp := fun vs H Q E => ∃ x b ns ss rs, vs = [.ref x, .ref b] ∧ ExAt X H x ns ∧ BookAt K B S H b ss rs ∧ (∀ nd ∈ ns, WfNd nd ∧ WkNd okS nd ∧ CallOk rs nd) ∧ ns.length ≤ 1000 ∧
  (lackL rs ns = none → ∀ p ds H', Ex H H' → H' p = some (.lst (ds.map V.ref)) → Al2 (GivAt rs H') ds ns → H p = none → Q (.ref p) H') ∧ (∀ w, lackL rs ns = some w → ∀ d H', Ex H H' → H' d = some (.xd [("what", .str w)]) → E (.ref UF) (some d) H')
theorem ok_givers (T : Tx0 w K mg A) : FnOk P w K mg base (L2.CX P w) 12 A.givers A.d_givers p_givers (spGivers K A.Expression A.Book A.Signature A.UnknownFunction) := by
  refine T.F_givers.okX sc_givers (fun vs H Q E h => ?_) (fun cdv Ar outer s H vs Q E hr h => ?_)
  · obtain ⟨x, b, ns, ss, rs, rfl, _⟩ := h
    rfl
  · obtain ⟨x, b, ns, ss, rs, rfl, ex, bk, wf, lz, k1, k2⟩ := h
    refine ⟨_, (pss_cons (ps_set (i := 2) sc_givers.nd rfl (Or.inl rfl) (pe_prop (pv 0) T.cl_Expression T.r_ex_nodes (ok_ex_nodes T) (hr.mono (by decide)) T.b_ex_nodes .nil pass0 (by rfl)))
      (pss_cons (UL.ps_setLcE (i := 3) (own := [("node", 4)]) (g := gName 4) (tt := tYes) rfl rfl rfl sc_givers.nd rfl rfl (sw_true rfl rfl rfl (by decide +kernel)) (UL.PIe.of (pi_list (pv 2))) (blkOk_by (N := n_givers) (sc := defScope s_givers) (by decide +kernel)) (fun _ _ _ _ _ => pg_name (i := 4) sc_givers.nd rfl (Or.inl rfl)) (fun _ _ _ _ _ => pts_nil) (fun _ _ _ _ _ _ hx => (pe_ifExp (pt_cmpR op_eq (pe_ix (show IxR _ (rIxT K) from ix_tup) (pv 4) pe_int (fun _ _ => rfl)) pe_str (nomark _)) (show PE _ _ (tFld K _ _) from (pe_fld (UL.pe_ixOwn (ok_book_get T) (hr.mono (by decide)) T.e_book_get.at_ T.fi_book_get T.e_book_get.fn T.b_book_get (hx _ (takes_of rfl rfl rfl rfl)) (pv 1) (pe_ix (show IxR _ (rIxT K) from ix_tup) (pv 4) pe_int (fun _ _ => rfl))) rfl)) (pe_tup pa_nil))))
      (pss_one (ps_ret (UL.pe_lcE (own := [("node", 4), ("own", 5)]) (tt := tYes) rfl rfl rfl sc_givers.nd (UL.PIe.of (UL.pi_zipK (by rfl) T.m_zip (pa_cons (pv 2) (pa_cons (pv 3) pa_nil)))) (blkOk_by (N := n_givers) (sc := defScope s_givers) (by decide +kernel)) (fun _ _ _ _ _ => (show PG _ _ (gTup K 2 _) from pg_tup (n := 2) rfl (pgs_cons (pg_name (i := 4) sc_givers.nd rfl (Or.inl rfl)) (pgs_cons (pg_name (i := 5) sc_givers.nd rfl (Or.inl rfl)) pgs_nil)))) (fun _ _ _ _ _ => pts_nil) (fun _ _ _ _ _ _ hx => (pe_call (ok_givers_of T) (hr.mono (by decide)) (by rfl) T.g_givers_of T.F_givers_of.kp T.b_givers_of .nil pass0 (pa_cons (pv 4) (pa_cons (pv 5) pa_nil))))))))), ?_⟩
    obtain ⟨dx, t0, f0, as0, hx, _⟩ := id ex
    refine ⟨_, rfl, x, dx, _, rfl, hx, x, ns, rfl, ex, fun p as hp hal => ?_⟩
    have e1 := Ex.new (o := .lst (as.map V.ref)) hp
    have hal1 := hal.imp fun _ _ q => NdAt.mono e1 q
    have lal : as.length = ns.length := hal.len
    refine ⟨_, rfl, p, rfl, ⟨_, SqL.of upd_same⟩, fun D hD => ?_⟩
    refine lc_it (walk_list (xs := as.map V.ref)) (fun i H' => Ex (upd H p (.lst (as.map V.ref))) H' ∧ lackL rs (ns.take i) = none ∧ ∃ ts : List Addr, H' D = some (.lst (ts.map V.ref)) ∧ Al2 (fun t nd => SqT K H' t ((srcOf rs nd).map V.int)) ts (ns.take i)) ⟨Ex.new hD, rfl, [], upd_same, .nil⟩ (fun i H' _ q => SqL.of (q.1 _ _ upd_same)) ?_ ?_
    · rintro i y H0 H1 hi ⟨e2, hl, ts, hts, hal2⟩ ⟨e0, hy⟩
      subst e0
      rw [List.getElem?_map] at hy
      obtain ⟨a, ha, rfl⟩ := Option.map_eq_some_iff.mp hy
      obtain ⟨nd, hnd, hat⟩ := hal1.get i a ha
      have hat := NdAt.mono e2 hat
      have htk : ns.take (i + 1) = ns.take i ++ [nd] := by rw [List.take_add_one, hnd]; rfl
      have ltk : ts.length < sizeLine := sz_lt (by rw [hal2.len, List.length_take]; omega)
      have fin : ∀ (t : Addr) (H3 : Hp), Ex H1 H3 → SqT K H3 t ((srcOf rs nd).map V.int) → lacks rs nd = none → ∃ acc, H3 D = some (.lst acc) ∧ acc.length < sizeLine ∧ (Ex (upd H p (.lst (as.map V.ref))) (upd H3 D (.lst (acc ++ [.ref t]))) ∧ lackL rs (ns.take (i + 1)) = none ∧
          ∃ ts : List Addr, (upd H3 D (.lst (acc ++ [.ref t]))) D = some (.lst (ts.map V.ref)) ∧ Al2 (fun c nd => SqT K (upd H3 D (.lst (acc ++ [.ref t]))) c ((srcOf rs nd).map V.int)) ts (ns.take (i + 1))) := fun t H3 e3 ht hla => by
        refine ⟨_, e3 _ _ hts, by rw [List.length_map]; exact ltk, (e2.trans e3).mut hD, by rw [lack_step hnd hl]; exact hla, ts ++ [t], by rw [upd_same, List.map_append]; rfl, ?_⟩
        rw [htk]
        exact (hal2.imp fun _ _ q => sqt_put (e3 _ _ hts) (ex_t e3 q)).snoc (sqt_put (e3 _ _ hts) ht)
      have wfn := wf nd (List.mem_of_getElem? hnd)
      refine ⟨rfl, ?_⟩
      have rest : ∀ {k : Str} {zs : List V}, H1 a = some (.tup (.str k :: zs)) → k ≠ "call" → lacks rs nd = none → srcOf rs nd = [] → tIf (tTest (tOp rEq (tOp (rIxT K) (tVar 4) (tC (V.int 0))) (tC (V.str "call")))) (tFld K (tOp (rOwnIx A.Book (spBookGet K A.Book A.Signature A.UnknownFunction) E) (tVar 1) (tOp (rIxT K) (tVar 4) (tC (V.int 1)))) "sources") (tTup tNil)
          (List.set (wipe (List.set (L2.start n_givers [V.ref x, V.ref b]) 2 (some (V.ref p))) [4]) 4 (some (V.ref a))) H1 (fun y H4 => ∃ acc, H4 D = some (.lst acc) ∧ acc.length < sizeLine ∧ (Ex (upd H p (.lst (as.map V.ref))) (upd H4 D (.lst (acc ++ [y]))) ∧ lackL rs (ns.take (i + 1)) = none ∧
          ∃ ts : List Addr, (upd H4 D (.lst (acc ++ [y]))) D = some (.lst (ts.map V.ref)) ∧ Al2 (fun t nd => SqT K (upd H4 D (.lst (acc ++ [y]))) t ((srcOf rs nd).map V.int)) ts (ns.take (i + 1)))) := fun {k zs} hk nk la s0 => by
        refine ⟨_, rfl, a, _, 0, .str k, rfl, rfl, SqT.of hk, atI_nat (j := 0) rfl, rfl, _, rfl, ite2 (fun q => absurd (V.str.inj (of_decide_eq_true q)) nk) (fun _ => ⟨Nat.zero_le _, fun q hq => ?_⟩)⟩
        exact fin q _ (Ex.new (o := .tup []) hq) (by rw [s0]; exact SqT.of upd_same) la
      cases nd with
      | name w => exact rest (zs := [.str w]) hat (by decide +kernel) rfl rfl
      | op w os =>
        have hw : w ≠ "call" := by
          rcases op_cases wfn.1 with ⟨rfl, _⟩ | ⟨rfl, _⟩ | ⟨rfl, _⟩ <;> decide +kernel
        exact rest (zs := ni os) hat hw rfl rfl
      | call w os =>
        obtain ⟨u, hn, hu⟩ := hat
        have e02 := e1.trans e2
        have bk2 := bk.mono e02
        obtain ⟨dxb, g, e, bb, hb, _⟩ := bk2.ex
        have wk : okS w = true := wfn.2.1
        refine ⟨_, rfl, a, _, 0, .str "call", rfl, rfl, SqT.of hn, atI_nat (j := 0) rfl, rfl, _, rfl, ite2 (fun _ => ?_) (fun h => absurd (by decide +kernel) h)⟩
        refine ⟨_, rfl, _, rfl, a, _, 1, .str w, rfl, rfl, SqT.of hn, atI_nat (j := 1) rfl, b, dxb, _, rfl, hb, b, .str w, ss, rs, rfl, bk2, .inl ⟨w, rfl, by have := okS_len wk; omega⟩, rfl, fun i' s r z hz hs hr hrz => ?_, fun hno d H' e' hd => ?_⟩
        · obtain rfl := V.str.inj hz
          obtain ⟨s', hs', dxs, tt, h1, h2⟩ := bk2.sg.at hr
          rw [hs] at hs'
          obtain rfl := Option.some.inj hs'
          have hm : r ∈ rs := List.mem_of_getElem? hr
          have hsrc : srcOf rs (.call w os) = r.2.2 := by
            show ((rs.lookup w).map (·.2)).getD [] = _
            rw [← hrz, lookup_row bk.nd hm]
            rfl
          refine ⟨s, _, dxs, _, _, rfl, h1, T.cl_Signature, T.na_Signature_sources, f_sources _ _ _, fin tt _ (Ex.refl _) (by rw [hsrc]; exact h2) ?_⟩
          show (if w ∈ rs.map (·.1) then none else some w) = none
          exact if_pos (List.mem_map.mpr ⟨r, hm, hrz⟩)
        · have hno : decide (w ∈ rs.map (·.1)) = false := hno
          refine k2 w (lack_found hnd hl ?_) d H' (e02.trans e') hd
          exact if_neg (of_decide_eq_false hno)
    · rintro H1 ⟨e2, hl, ts, hts, hal2⟩
      have hp1 := e2 _ _ (upd_same (H := H) (a := p) (o := .lst (as.map V.ref)))
      rw [List.length_map, lal, List.take_length] at hl hal2
      have lts : ts.length = ns.length := hal2.len
      refine ⟨_, rfl, _, rfl, p, D, _, _, false, false, rfl, SqL.of hp1, SqL.of hts, fun R hR => ?_⟩
      refine lc_it (UL.walk_zipK (n := ns.length) (xs := as.map V.ref) (ys := ts.map V.ref) (by rw [List.length_map, List.length_map, lal, lts, Nat.min_self])) (fun i H' => Ex H1 H' ∧ ∃ ds : List Addr, H' R = some (.lst (ds.map V.ref)) ∧ Al2 (GivAt rs H') ds (ns.take i)) ⟨Ex.new hR, [], upd_same, .nil⟩ (fun i H' _ q => ⟨SqL.of (q.1 _ _ hp1), SqL.of (q.1 _ _ hts)⟩) ?_ ?_
      · rintro i y H2 H0 hi ⟨e3, ds, hds, hal3⟩ ⟨Z, x1, y1, rfl, hZ, rfl, hx1, hy1⟩
        have hx1 : (as.map V.ref)[i]? = some x1 := hx1
        have hy1 : (ts.map V.ref)[i]? = some y1 := hy1
        rw [List.getElem?_map] at hx1 hy1
        obtain ⟨a, ha, rfl⟩ := Option.map_eq_some_iff.mp hx1
        obtain ⟨t, ht, rfl⟩ := Option.map_eq_some_iff.mp hy1
        obtain ⟨nd, hnd, hat⟩ := hal1.get i a ha
        obtain ⟨nd', hnd', hst⟩ := hal2.get i t ht
        rw [hnd] at hnd'
        obtain rfl := Option.some.inj hnd'
        have eZ := Ex.new (o := .tup [.ref a, .ref t]) hZ
        have e4 := (e2.trans e3).trans eZ
        have wfn := wf nd (List.mem_of_getElem? hnd)
        have la : lacks rs nd = none := by
          cases q : lacks rs nd with
          | none => rfl
          | some w0 =>
            have hl0 : lackL rs ns = none := hl
            have := List.findSome?_eq_none_iff.mp hl0 nd (List.mem_of_getElem? hnd)
            rw [q] at this
            cases this
        have htk : ns.take (i + 1) = ns.take i ++ [nd] := by rw [List.take_add_one, hnd]; rfl
        have hds4 := eZ _ _ hds
        refine ⟨Z, _, rfl, SqT.of upd_same, rfl, _, _, rfl, _, _, rfl, rfl, rfl, ?_⟩
        refine ⟨_, rfl, _, rfl, a, t, nd, srcOf rs nd, rfl, NdAt.mono e4 hat, wfn.1, src_ok bk.gd bk.nd wfn.2.2 la, ex_t (e3.trans eZ) hst, fun d H' e5 hd hdn => ?_⟩
        have hds5 := e5 _ _ hds4
        refine ⟨_, hds5, sz_lt (by rw [List.length_map, hal3.len, List.length_take]; omega), ((e3.trans eZ).trans e5).mut hR, ds ++ [d], by rw [upd_same, List.map_append]; rfl, ?_⟩
        rw [htk]
        have keep : ∀ {c : Addr} {n : Nd}, GivAt rs H' c n → GivAt rs (upd H' R (.lst (ds.map V.ref ++ [.ref d]))) c n := fun {c n} q => by
          have q : H' c = _ := q
          show upd H' R _ c = _
          rw [upd_ne (fun z => by rw [z, hds5] at q; cases q)]
          exact q
        exact (hal3.imp fun _ _ q => keep (e5 _ _ (eZ _ _ q))).snoc (keep hd)
      · rintro H2 ⟨e3, ds, hds, hal3⟩
        rw [List.take_length] at hal3
        exact k1 hl R ds H2 ((e1.trans e2).trans e3) hds hal3 ((e1.trans e2).free' hR)
/-! ### the options of an expression -/
def optL (nd : Nd) (ss : List Int) : List Int := if (keysL nd ss).isEmpty = true then [0] else keysL nd ss
def OptAt (rs : List Rw) (H : Hp) (t : Addr) (nd : Nd) : Prop := H t = some (.tup ((optL nd (srcOf rs nd)).map V.int))
def spOptions (K : PySem.W.Frag) (X B S UF : Addr) : Sp := fun vs H Q E => ∃ x b ns ss rs, vs = [.ref x, .ref b] ∧ ExAt X H x ns ∧ BookAt K B S H b ss rs ∧ (∀ nd ∈ ns, WfNd nd ∧ WkNd okS nd ∧ CallOk rs nd) ∧ ns.length ≤ 1000 ∧
  (lackL rs ns = none → ∀ p ts H', Ex H H' → H' p = some (.lst (ts.map V.ref)) → Al2 (OptAt rs H') ts ns → H p = none → Q (.ref p) H') ∧ (∀ w, lackL rs ns = some w → ∀ d H', Ex H H' → H' d = some (.xd [("what", .str w)]) → E (.ref UF) (some d) H')
theorem ok_options (T : Tx0 w K mg A) : FnOk P w K mg base (L2.CX P w) 13 A.options A.d_options p_options (spOptions K A.Expression A.Book A.Signature A.UnknownFunction) := by
  refine T.F_options.okX sc_options (fun vs H Q E h => ?_) (fun cdv Ar outer s H vs Q E hr h => ?_)
  · obtain ⟨x, b, ns, ss, rs, rfl, _⟩ := h
    rfl
  · obtain ⟨x, b, ns, ss, rs, rfl, ex, bk, wf, lz, k1, k2⟩ := h
    refine ⟨_, (pss_one (ps_ret (UL.pe_lcE (own := [("operands", 2)]) (g := gName 2) (tt := tYes) rfl rfl rfl sc_options.nd (UL.PIe.of (pi_list (pe_call (ok_givers T) (hr.mono (by decide)) (by rfl) T.g_givers T.F_givers.kp T.b_givers .nil (UL.passX (takes_of rfl rfl rfl rfl)) (pa_cons (pv 0) (pa_cons (pv 1) pa_nil))))) (blkOk_by (N := n_options) (sc := defScope s_options) (by decide +kernel)) (fun _ _ _ _ _ => pg_name (i := 2) sc_options.nd rfl (Or.inl rfl)) (fun _ _ _ _ _ => pts_nil) (fun _ _ _ _ _ _ hx => (pe_ifExp (show PT _ _ (tTru K _) from pt_truth (pv 2) (fun _ => rfl)) (pe_callTy (UL.call_tuple_dK rfl) (by rfl) T.m_tuple (by decide +kernel) (pa_cons (pv 2) pa_nil)) (pe_tup (pa_cons pe_int pa_nil))))))), ?_⟩
    refine ⟨_, rfl, _, rfl, x, b, ns, ss, rs, rfl, ex, bk, wf, lz, fun hl p ds H1 e1 hp hal hpn => ⟨p, rfl, ⟨_, SqL.of hp⟩, fun D hD => ?_⟩, k2⟩
    have lds : ds.length = ns.length := hal.len
    refine lc_it (walk_list (xs := ds.map V.ref)) (fun i H' => Ex H1 H' ∧ ∃ ts : List Addr, H' D = some (.lst (ts.map V.ref)) ∧ Al2 (OptAt rs H') ts (ns.take i)) ⟨Ex.new hD, [], upd_same, .nil⟩ (fun i H' _ q => SqL.of (q.1 _ _ hp)) ?_ ?_
    · rintro i y H0 H2 hi ⟨e2, ts, hts, hal2⟩ ⟨e0, hy⟩
      subst e0
      rw [List.getElem?_map] at hy
      obtain ⟨a, ha, rfl⟩ := Option.map_eq_some_iff.mp hy
      obtain ⟨nd, hnd, hat⟩ := hal.get i a ha
      have hat : H2 a = some (.dK (givK nd (srcOf rs nd))) := e2 _ _ hat
      have htk : ns.take (i + 1) = ns.take i ++ [nd] := by rw [List.take_add_one, hnd]; rfl
      have fin : ∀ (t : Addr) (H3 : Hp), Ex H2 H3 → OptAt rs H3 t nd → ∃ acc, H3 D = some (.lst acc) ∧ acc.length < sizeLine ∧ (Ex H1 (upd H3 D (.lst (acc ++ [.ref t]))) ∧ ∃ ts : List Addr, (upd H3 D (.lst (acc ++ [.ref t]))) D = some (.lst (ts.map V.ref)) ∧ Al2 (OptAt rs (upd H3 D (.lst (acc ++ [.ref t])))) ts (ns.take (i + 1))) := fun t H3 e3 ht => by
        have h3 := e3 _ _ hts
        have keep : ∀ {c : Addr} {n : Nd}, OptAt rs H3 c n → OptAt rs (upd H3 D (.lst (ts.map V.ref ++ [.ref t]))) c n := fun {c n} q => by
          have q : H3 c = _ := q
          show upd H3 D _ c = _
          rw [upd_ne (fun z => by rw [z, h3] at q; cases q)]
          exact q
        refine ⟨_, h3, sz_lt (by rw [List.length_map, hal2.len, List.length_take]; rw [List.length_map] at hi; omega), (e2.trans e3).mut hD, ts ++ [t], by rw [upd_same, List.map_append]; rfl, ?_⟩
        rw [htk]
        exact (hal2.imp fun _ _ q => keep (e3 _ _ q)).snoc (keep ht)
      have emp : (givK nd (srcOf rs nd)).isEmpty = (keysL nd (srcOf rs nd)).isEmpty := by
        have q := congrArg List.isEmpty (giv_keys nd (srcOf rs nd))
        rwa [List.isEmpty_map, List.isEmpty_map] at q
      refine ⟨rfl, ?_⟩
      refine ⟨_, rfl, _, .inr (.inr ⟨_, hat, rfl⟩), ?_⟩
      rw [emp]
      cases hb : (keysL nd (srcOf rs nd)).isEmpty with
      | false =>
        refine iteT ⟨_, rfl, a, _, rfl, hat, fun q hq => fin q _ (Ex.new hq) ?_⟩
        show upd H2 q _ q = _
        rw [upd_same, giv_keys, optL, hb]
        rfl
      | true =>
        refine iteF ⟨sz_of (by show 1 ≤ 100000; decide), fun q hq => fin q _ (Ex.new (o := .tup [.int 0]) hq) ?_⟩
        show upd H2 q _ q = _
        rw [upd_same, optL, hb]
        rfl
    · rintro H2 ⟨e2, ts, hts, hal2⟩
      rw [List.length_map, lds, List.take_length] at hal2
      exact k1 hl D ts H2 (e1.trans e2) hts hal2 (e1.free' hD)
end
end K18

set_option Elab.async false
set_option linter.all false
set_option maxRecDepth 100000
namespace K18
open PySem PySem.Spec PyProof.Rows L2 Evl TL UL StX
section
variable {P : Program} {w : World} {K : PySem.W.Frag} {mg : Str → Option Value} {base : Heap} {A : Adr}
/-! ### results, as data -/
def givJ (nd : Nd) (ss : List Int) : List Nat := match nd with
  | .name _ => []
  | .call _ os => ss.map fun s => os.getD (s - 1).toNat 0
  | .op w os => if w = "part" then [os.getD 0 0] else if w = "pick" then [os.getD 0 0, os.getD 1 0] else [os.getD 1 0]
theorem giv_vals (nd : Nd) (ss : List Int) : (givK nd ss).map Prod.snd = (givJ nd ss).map fun j : Nat => V.int (j : Int) := by
  cases nd with
  | name w => rfl
  | call w os =>
    show (ss.map _).map _ = (ss.map _).map _
    rw [List.map_map, List.map_map]
    rfl
  | op w os =>
    show List.map _ (if w = "part" then _ else if w = "pick" then _ else _) = List.map _ (if w = "part" then _ else if w = "pick" then _ else _)
    by_cases e1 : w = "part"
    · rw [if_pos e1, if_pos e1]; rfl
    · rw [if_neg e1, if_neg e1]
      by_cases e2 : w = "pick"
      · rw [if_pos e2, if_pos e2]; rfl
      · rw [if_neg e2, if_neg e2]; rfl
theorem givJ_ops {nd : Nd} {ss : List Int} (wf : WfNd nd) (so : SrcOk nd ss) : ∀ j ∈ givJ nd ss, j ∈ opsOf nd := by
  have gm : ∀ {os : List Nat} {k : Nat}, k < os.length → os.getD k 0 ∈ os := fun {os k} h => by
    rw [List.getD_eq_getElem?_getD, List.getElem?_eq_getElem h]
    exact List.getElem_mem h
  intro j hj
  cases nd with
  | name w => cases hj
  | call w os =>
    obtain ⟨s, hs, rfl⟩ := List.mem_map.mp (show j ∈ ss.map _ from hj)
    have so : Asc os.length ss := so
    obtain ⟨h1, h2⟩ := so.2 s hs
    exact gm (os := os) (by omega)
  | op w os =>
    have hj : j ∈ (if w = "part" then [os.getD 0 0] else if w = "pick" then [os.getD 0 0, os.getD 1 0] else [os.getD 1 0]) := hj
    show j ∈ os
    rcases op_cases wf with ⟨rfl, m, rfl⟩ | ⟨rfl, m, n, rfl⟩ | ⟨rfl, m, n, rfl⟩
    · rw [if_pos rfl] at hj
      exact hj
    · rw [if_neg (by decide +kernel), if_pos rfl] at hj
      exact hj
    · rw [if_neg (by decide +kernel), if_neg (by decide +kernel)] at hj
      exact List.mem_cons_of_mem _ hj
theorem givJ_len {nd : Nd} {ss : List Int} (wf : WfNd nd) (so : SrcOk nd ss) : (givJ nd ss).length ≤ 4 := by
  cases nd with
  | name w => exact Nat.zero_le _
  | call w os =>
    show (ss.map _).length ≤ 4
    rw [List.length_map]
    exact asc_len (n := os.length) (by have : os.length ≤ 4 := wf; omega) ss so
  | op w os =>
    show (if w = "part" then [os.getD 0 0] else if w = "pick" then [os.getD 0 0, os.getD 1 0] else [os.getD 1 0]).length ≤ 4
    by_cases e1 : w = "part"
    · rw [if_pos e1]; show 1 ≤ 4; omega
    · rw [if_neg e1]
      by_cases e2 : w = "pick"
      · rw [if_pos e2]; show 2 ≤ 4; omega
      · rw [if_neg e2]; show 1 ≤ 4; omega
def ownK (nd : Nd) (i : Nat) : Key := match nd with
  | .name w => .inr w
  | _ => .inl (i : Int)
def resN (nd : Nd) (ss : List Int) (i : Nat) (acc : List (List Key)) : List Key := if (givJ nd ss).isEmpty = true then [ownK nd i] else unit1 ((givJ nd ss).map fun j => acc.getD j []).flatten
def resGo (rs : List Rw) : List Nd → List (List Key) → List (List Key)
  | [], acc => acc
  | nd :: t, acc => resGo rs t (acc ++ [resN nd (srcOf rs nd) acc.length acc])
def resL (rs : List Rw) (ns : List Nd) : List (List Key) := resGo rs ns []
theorem resGo_app (rs : List Rw) : ∀ (a b : List Nd) (acc : List (List Key)), resGo rs (a ++ b) acc = resGo rs b (resGo rs a acc)
  | [], _, _ => rfl
  | _ :: t, b, acc => resGo_app rs t b _
theorem resGo_len (rs : List Rw) : ∀ (a : List Nd) (acc : List (List Key)), (resGo rs a acc).length = acc.length + a.length
  | [], _ => rfl
  | nd :: t, acc => by
    rw [resGo, resGo_len rs t, List.length_append]
    simp only [List.length_cons, List.length_nil]
    omega
theorem res_len (rs : List Rw) (ns : List Nd) : (resL rs ns).length = ns.length := by
  rw [resL, resGo_len]
  exact Nat.zero_add _
theorem res_snoc (rs : List Rw) (ns : List Nd) (nd : Nd) : resL rs (ns ++ [nd]) = resL rs ns ++ [resN nd (srcOf rs nd) ns.length (resL rs ns)] := by
  have h := res_len rs ns
  show resGo rs (ns ++ [nd]) [] = _
  rw [resGo_app]
  show resL rs ns ++ [resN nd (srcOf rs nd) (resL rs ns).length (resL rs ns)] = _
  rw [h]
theorem res_take {rs : List Rw} {ns : List Nd} {i : Nat} {nd : Nd} (h : ns[i]? = some nd) : resL rs (ns.take (i + 1)) = resL rs (ns.take i) ++ [resN nd (srcOf rs nd) i (resL rs (ns.take i))] := by
  have hl := (List.getElem?_eq_some_iff.mp h).1
  rw [List.take_add_one, h]
  show resL rs (ns.take i ++ [nd]) = _
  rw [res_snoc, List.length_take, Nat.min_eq_left (by omega)]
theorem resGo_pre (rs : List Rw) : ∀ (a : List Nd) (acc : List (List Key)), ∃ r, resGo rs a acc = acc ++ r
  | [], acc => ⟨[], (List.append_nil _).symm⟩
  | nd :: t, acc => by
    obtain ⟨r, e⟩ := resGo_pre rs t (acc ++ [resN nd (srcOf rs nd) acc.length acc])
    exact ⟨_, by rw [resGo, e, List.append_assoc]⟩
theorem res_pre (rs : List Rw) (ns : List Nd) (i : Nat) : resL rs (ns.take i) = (resL rs ns).take (ns.take i).length := by
  have e := resGo_app rs (ns.take i) (ns.drop i) []
  rw [List.take_append_drop] at e
  obtain ⟨r, e2⟩ := resGo_pre rs (ns.drop i) (resGo rs (ns.take i) [])
  have h := res_len rs (ns.take i)
  have e3 : resL rs ns = resL rs (ns.take i) ++ r := e.trans e2
  rw [e3, List.take_append_of_le_length (Nat.le_of_eq h.symm), List.take_of_length_le (Nat.le_of_eq h)]
/-- the list of node i -/
theorem res_at {rs : List Rw} {ns : List Nd} {i : Nat} {nd : Nd} (h : ns[i]? = some nd) : (resL rs ns)[i]? = some (resN nd (srcOf rs nd) i (resL rs (ns.take i))) := by
  have hl := (List.getElem?_eq_some_iff.mp h).1
  have e := res_pre rs ns (i + 1)
  rw [res_take h, List.length_take, Nat.min_eq_left (by omega)] at e
  have q : ((resL rs ns).take (i + 1))[i]? = some (resN nd (srcOf rs nd) i (resL rs (ns.take i))) := by
    rw [← e, List.getElem?_append_right (by rw [res_len, List.length_take]; omega), res_len, List.length_take, Nat.min_eq_left (by omega), Nat.sub_self]
    rfl
  rwa [List.getElem?_take_of_lt (by omega)] at q
theorem res_old {rs : List Rw} {ns : List Nd} {i j : Nat} (hj : j < i) (hi : i ≤ ns.length) : (resL rs (ns.take i)).getD j [] = (resL rs ns).getD j [] := by
  rw [res_pre, List.length_take, Nat.min_eq_left hi, List.getD_eq_getElem?_getD, List.getD_eq_getElem?_getD, List.getElem?_take_of_lt hj]
def ownU (ns : List Nd) : List Key := ns.mapIdx fun i nd => ownK nd i
theorem ownU_snoc (ns : List Nd) (nd : Nd) : ownU (ns ++ [nd]) = ownU ns ++ [ownK nd ns.length] := by
  unfold ownU
  rw [List.mapIdx_append]
  simp
theorem res_own (rs : List Rw) : ∀ (n : Nat) (ns : List Nd), ns.length = n → ∀ ks ∈ resL rs ns, (∀ k ∈ ks, k ∈ ownU ns) ∧ ks.length ≤ ns.length := by
  intro n
  induction n with
  | zero =>
    intro ns hn ks h
    obtain rfl := List.eq_nil_of_length_eq_zero hn
    cases h
  | succ n ih =>
    intro ns hn ks h
    obtain ⟨ns', nd, rfl⟩ : ∃ ns' nd, ns = ns' ++ [nd] := by
      rcases List.eq_nil_or_concat ns with e | ⟨a, b, e⟩
      · rw [e] at hn; cases hn
      · exact ⟨a, b, by rw [e, List.concat_eq_append]⟩
    have hn' : ns'.length = n := by rw [List.length_append, List.length_singleton] at hn; omega
    rw [res_snoc] at h
    rw [ownU_snoc, List.length_append, List.length_singleton]
    rcases List.mem_append.mp h with h | h
    · obtain ⟨h1, h2⟩ := ih ns' hn' ks h
      exact ⟨fun k hk => List.mem_append_left _ (h1 k hk), by omega⟩
    · rw [List.mem_singleton.mp h]
      unfold resN
      cases hb : (givJ nd (srcOf rs nd)).isEmpty with
      | true =>
        rw [if_pos rfl]
        refine ⟨fun k hk => ?_, by show 1 ≤ _; omega⟩
        rw [List.mem_singleton.mp hk]
        exact List.mem_append_right _ (List.mem_singleton.mpr rfl)
      | false =>
        rw [if_neg Bool.false_ne_true]
        have all : ∀ k ∈ ((givJ nd (srcOf rs nd)).map fun j => (resL rs ns').getD j []).flatten, k ∈ ownU ns' := fun k hk => by
          obtain ⟨l, hl, hkl⟩ := List.mem_flatten.mp hk
          obtain ⟨j, _, rfl⟩ := List.mem_map.mp hl
          rw [List.getD_eq_getElem?_getD] at hkl
          cases hq : (resL rs ns')[j]? with
          | none => rw [hq] at hkl; cases hkl
          | some l => rw [hq] at hkl; exact (ih ns' hn' l (List.mem_of_getElem? hq)).1 k hkl
        refine ⟨fun k hk => List.mem_append_left _ (all k (mem_unit1.mp hk)), ?_⟩
        have := unit1_le all
        unfold ownU at this
        rw [List.length_mapIdx] at this
        omega
theorem res_small {rs : List Rw} {ns : List Nd} : ∀ ks ∈ resL rs ns, ks.length ≤ ns.length := fun ks h => (res_own rs _ ns rfl ks h).2
theorem getD_small {L : List (List Key)} {n : Nat} (h : ∀ ks ∈ L, ks.length ≤ n) (j : Nat) : (L.getD j []).length ≤ n := by
  rw [List.getD_eq_getElem?_getD]
  cases hq : L[j]? with
  | none => exact Nat.zero_le _
  | some l => exact h l (List.mem_of_getElem? hq)
theorem flat_small {n : Nat} : ∀ {L : List (List Key)}, (∀ ks ∈ L, ks.length ≤ n) → L.flatten.length ≤ n * L.length
  | [], _ => Nat.zero_le _
  | l :: t, h => by
    have ih := flat_small fun ks hk => h ks (List.mem_cons_of_mem _ hk)
    have h0 := h l List.mem_cons_self
    rw [List.flatten_cons, List.length_append, List.length_cons, Nat.mul_add, Nat.mul_one]
    omega
/-! ### united -/
def KsAt (H : Hp) (a : Addr) (ks : List Key) : Prop := H a = some (.lst (ks.map kV))
def spUnited : Sp := fun vs H Q _ => ∃ q as ls, vs = [.ref q] ∧ H q = some (.lst (as.map V.ref)) ∧ Al2 (KsAt H) as ls ∧ ls.flatten.length ≤ 3000 ∧ ∀ p H', Ex H H' → H' p = some (.lst ((unit1 ls.flatten).map kV)) → H p = none → Q (.ref p) H'
theorem ok_united (T : Tx0 w K mg A) : FnOk P w K mg base CX0 1 A.united A.d_united p_united spUnited := by
  refine T.F_united.ok sc_united (fun vs H Q E h => ?_) (fun cdv Ar outer s H vs Q E hr h => ?_)
  · obtain ⟨q, as, ls, rfl, _⟩ := h
    rfl
  · obtain ⟨q, as, ls, rfl, hq, hal, hz, k⟩ := h
    refine ⟨_, (pss_cons (ps_set (i := 1) sc_united.nd rfl (Or.inl rfl) (pe_callB (UL.call_sortedM rfl) (by rfl) T.m_sorted (by decide +kernel) (pa_cons (UL.pe_sc2 (own := [("things", 3), ("thing", 4)]) (vs1 := [4]) (g := gName 3) (g1 := gName 4) (tt := tYes) rfl sc_united.nd (pi_list (pv 0)) (blkOk_by (N := n_united) (sc := defScope s_united) (by decide +kernel)) (by decide) (fun _ _ _ _ _ => pg_name (i := 3) sc_united.nd rfl (Or.inl rfl)) (fun _ _ _ _ _ => pts_nil) (fun _ _ _ _ _ => (show PI _ _ _ (iList K _) from (pi_list (pv 3)))) (fun _ _ _ _ _ => pg_name (i := 4) sc_united.nd rfl (Or.inl rfl)) (fun _ _ _ _ _ => pts_one (pt_val (pe_callB (show CallR _ (.builtin "isinstance") (rIsi K) from call_isi) (by rfl) T.m_isinstance (by decide +kernel) (pa_cons (pv 4) (pa_cons (pe_bltn (v := .ty "str") (u := .type "str") (by rfl) T.m_str (by decide +kernel) rfl) pa_nil))))) (fun _ _ _ _ _ => (pv 4))) pa_nil)))
      (pss_cons (ps_set (i := 2) sc_united.nd rfl (Or.inl rfl) (pe_callB (UL.call_sortedMI rfl) (by rfl) T.m_sorted (by decide +kernel) (pa_cons (UL.pe_sc2 (own := [("things", 3), ("thing", 4)]) (vs1 := [4]) (g := gName 3) (g1 := gName 4) (tt := tYes) rfl sc_united.nd (pi_list (pv 0)) (blkOk_by (N := n_united) (sc := defScope s_united) (by decide +kernel)) (by decide) (fun _ _ _ _ _ => pg_name (i := 3) sc_united.nd rfl (Or.inl rfl)) (fun _ _ _ _ _ => pts_nil) (fun _ _ _ _ _ => (show PI _ _ _ (iList K _) from (pi_list (pv 3)))) (fun _ _ _ _ _ => pg_name (i := 4) sc_united.nd rfl (Or.inl rfl)) (fun _ _ _ _ _ => pts_one (pt_not (pt_val (pe_callB (show CallR _ (.builtin "isinstance") (rIsi K) from call_isi) (by rfl) T.m_isinstance (by decide +kernel) (pa_cons (pv 4) (pa_cons (pe_bltn (v := .ty "str") (u := .type "str") (by rfl) T.m_str (by decide +kernel) rfl) pa_nil)))))) (fun _ _ _ _ _ => (pv 4))) pa_nil)))
      (pss_one (ps_ret (pe_op op_cat (pv 1) (pv 2)))))), ?_⟩
    have fin : ∀ {H' : Hp}, Ex H H' → H' q = some (.lst (as.map V.ref)) := fun e => e _ _ hq
    have ak : ∀ {H' : Hp}, Ex H H' → Al2 (fun a ks => SqL K H' a (ks.map kV)) as ls := fun e => hal.imp fun _ _ z => SqL.of (e _ _ z)
    have isi : ∀ (x : Key) (H : Hp), ∃ t, TyX K H (kV x) t ∧ PySem.W.kitOne K t (.type "str") = some (keyS x) := fun x H => by
      cases x with
      | inl i => exact ⟨_, .base (.int i), kit_ty (r := false) (by decide +kernel)⟩
      | inr z => exact ⟨_, .base (.str z), kit_ty (r := true) (by decide +kernel)⟩
    refine ⟨_, rfl, q, rfl, ⟨_, SqL.of hq⟩, fun D hD => ?_⟩
    refine sc_flat (p := keyS) (K := K) (as := as) (ls := ls) walk_list (ak (Ex.refl _)) hz hD (fun H' e => SqL.of (fin e)) (fun _ => rfl) (fun _ _ => rfl) (fun a ks H' R h1 h2 => ⟨_, rfl, a, rfl, ⟨_, h1⟩, h2⟩) (fun a x H' Q' q' => ?_) (fun a x H' Q' q' => ⟨_, rfl, q'⟩) (fun n H1 e1 hn h1 => ?_)
    · obtain ⟨t, g1, g2⟩ := isi x H'
      exact ⟨_, rfl, kV x, _, t, _, _, rfl, .ty "str", g1, g2, _, rfl, q'⟩
    have lfl : (ls.flatten.filter keyS).length ≤ ls.flatten.length := List.length_filter_le _ _
    refine ⟨D, _, n, rfl, h1, by omega, fun x hx => ?_, fun ys p hs hnd hm hl hp => ?_⟩
    · have := (List.mem_filter.mp (isin_iff.mp hx)).2
      cases x with
      | inl i => cases this
      | inr z => exact ⟨z, rfl⟩
    have ey : ys = asc (namesOf ls.flatten) := asc_of hs hnd fun z => by
      rw [hm z, mem_names]
      exact isin_iff.trans (List.mem_filter.trans ⟨fun h => h.1, fun h => ⟨h, rfl⟩⟩)
    have e2 := e1.trans (Ex.new (o := .lst (ys.map V.str)) hp)
    have hp2 : upd H1 p (.lst (ys.map V.str)) p = some (.lst (ys.map V.str)) := upd_same
    generalize upd H1 p (.lst (ys.map V.str)) = H2 at e2 hp2 ⊢
    refine ⟨_, rfl, q, rfl, ⟨_, SqL.of (fin e2)⟩, fun D' hD' => ?_⟩
    refine sc_flat (p := fun x => !keyS x) (K := K) (as := as) (ls := ls) walk_list (ak e2) hz hD' (fun H' e => SqL.of (fin (e2.trans e))) (fun _ => rfl) (fun _ _ => rfl) (fun a ks H' R h1 h2 => ⟨_, rfl, a, rfl, ⟨_, h1⟩, h2⟩) (fun a x H' Q' q' => ?_) (fun a x H' Q' q' => ⟨_, rfl, q'⟩) (fun n' H3 e3 hn' h3 => ?_)
    · obtain ⟨t, g1, g2⟩ := isi x H'
      exact ⟨_, rfl, kV x, _, t, _, _, rfl, .ty "str", g1, g2, _, rfl, q'⟩
    refine ⟨D', _, n', rfl, h3, by omega, fun x hx => ?_, fun zs p' hs' hm' hl' hp' => ?_⟩
    · have := (List.mem_filter.mp (isin_iff.mp hx)).2
      cases x with
      | inl i => exact ⟨i, rfl⟩
      | inr z => cases this
    have ez : zs = ascI (numsOf ls.flatten) := ascI_of hs' fun z => by
      rw [hm' z, mem_nums]
      exact isin_iff.trans (List.mem_filter.trans ⟨fun h => h.1, fun h => ⟨h, rfl⟩⟩)
    have e4 := e3.trans (Ex.new (o := .lst (zs.map V.int)) hp')
    have hp4 : upd H3 p' (.lst (zs.map V.int)) p' = some (.lst (zs.map V.int)) := upd_same
    generalize upd H3 p' (.lst (zs.map V.int)) = H4 at e4 hp4 ⊢
    refine ⟨_, rfl, _, rfl, p, p', _, _, rfl, rfl, e4 _ _ hp2, hp4, sz_of ?_, fun r hr => k r _ (e2.trans (e4.trans (Ex.new hr))) ?_ ((e2.trans e4).free' hr)⟩
    · rw [List.length_map, List.length_map]
      omega
    · rw [upd_same, ey, ez]
      unfold unit1
      rw [List.map_append, List.map_map, List.map_map]
      rfl
theorem al2_getD {R : Addr → List Key → Prop} {as : List Addr} {ls : List (List Key)} (h : Al2 R as ls) : ∀ js : List Nat, (∀ j ∈ js, j < as.length) → Al2 R (js.map fun j => as.getD j 0) (js.map fun j => ls.getD j [])
  | [], _ => .nil
  | j :: t, hj => by
    have hl := hj j List.mem_cons_self
    obtain ⟨ks, hk, r⟩ := h.get j as[j] (List.getElem?_eq_getElem hl)
    refine .cons ?_ (al2_getD h t fun k hk => hj k (List.mem_cons_of_mem _ hk))
    show R (as.getD j 0) (ls.getD j [])
    rw [List.getD_eq_getElem?_getD, List.getD_eq_getElem?_getD, List.getElem?_eq_getElem hl, hk]
    exact r
/-! ### the results of the nodes -/
/-- a list of lists: each stands, none at an address of S -/
def spResults (K : PySem.W.Frag) (X B S UF : Addr) : Sp := fun vs H Q E => ∃ x b ns ss rs, vs = [.ref x, .ref b] ∧ ExAt X H x ns ∧ BookAt K B S H b ss rs ∧ (∀ nd ∈ ns, WfNd nd ∧ WkNd okS nd ∧ CallOk rs nd) ∧ WfN ns ∧ ns.length ≤ 100 ∧
  (lackL rs ns = none → ∀ p as H', Ex H H' → H' p = some (.lst (as.map V.ref)) → Al2 (fun a ks => KsAt H' a ks ∧ H a = none ∧ a ≠ p) as (resL rs ns) → H p = none → Q (.ref p) H') ∧ (∀ w, lackL rs ns = some w → ∀ d H', Ex H H' → H' d = some (.xd [("what", .str w)]) → E (.ref UF) (some d) H')
theorem ok_results (T : Tx0 w K mg A) : FnOk P w K mg base (L2.CX P w) 14 A.results A.d_results p_results (spResults K A.Expression A.Book A.Signature A.UnknownFunction) := by
  refine T.F_results.okX sc_results (fun vs H Q E h => ?_) (fun cdv Ar outer s H vs Q E hr h => ?_)
  · obtain ⟨x, b, ns, ss, rs, rfl, _⟩ := h
    rfl
  · obtain ⟨x, b, ns, ss, rs, rfl, ex, bk, wf, wfn, lz, k1, k2⟩ := h
    refine ⟨_, (pss_cons (ps_set (i := 2) sc_results.nd rfl (Or.inr rfl) (pe_lst pa_nil))
      (pss_cons (ps_set (i := 3) sc_results.nd rfl (Or.inl rfl) (pe_call (ok_givers T) (hr.mono (by decide)) (by rfl) T.g_givers T.F_givers.kp T.b_givers .nil (UL.passX (takes_of rfl rfl rfl rfl)) (pa_cons (pv 0) (pa_cons (pv 1) pa_nil))))
      (pss_cons (ps_for PassesOwn.leaving rfl (pi_enum (by rfl) T.m_enumerate (pa_cons (pe_prop (pv 0) T.cl_Expression T.r_ex_nodes (ok_ex_nodes T) (hr.mono (by decide)) T.b_ex_nodes .nil pass0 (by rfl)) pa_nil)) (pg_tup (n := 2) rfl (pgs_cons (pg_name (i := 4) sc_results.nd rfl (Or.inl rfl)) (pgs_cons (pg_name (i := 5) sc_results.nd rfl (Or.inl rfl)) pgs_nil))) (pss_one (ps_if (pt_truth (pe_ix ix_list (pv 3) (pv 4) (fun _ _ => rfl)) (fun _ => rfl)) (pss_one (ps_expr (pe_bm PySem.F.plainAttrs_list PySem.F.slot_list_append PySem.F.type_list_append mt_append (pv 2) (pa_cons (pe_call (ok_united T) (hr.mono (by decide)) (by rfl) T.g_united T.F_united.kp T.b_united .nil pass0 (pa_cons (pe_lock (pe_lc (own := [("i", 6)]) (g := gName 6) (tt := tYes) rfl sc_results.nd (pi_values (pe_ix ix_list (pv 3) (pv 4) (fun _ _ => rfl))) (blkOk_by (N := n_results) (sc := defScope s_results) (by decide +kernel)) (fun _ _ _ _ _ => pg_name (i := 6) sc_results.nd rfl (Or.inl rfl)) (fun _ _ _ _ _ => pts_nil) (fun _ _ _ _ _ => (pe_ix (show IxR _ (rIxL K) from ix_list) (pv 2) (pv 6) (fun _ _ => rfl))))) pa_nil)) pa_nil)))) (pss_one (ps_expr (pe_bm PySem.F.plainAttrs_list PySem.F.slot_list_append PySem.F.type_list_append mt_append (pv 2) (pa_cons (pe_lst (pa_cons (pe_ifExp (pt_cmpR op_eq (pe_ix ix_tup (pv 5) pe_int (fun _ _ => rfl)) pe_str (nomark _)) (pe_ix ix_tup (pv 5) pe_int (fun _ _ => rfl)) (pv 4)) pa_nil)) pa_nil)))))))
      (pss_one (ps_ret (pv 2)))))), ?_⟩
    refine ⟨Nat.zero_le _, fun F hF => ?_⟩
    have e0 := Ex.new (o := .lst []) hF
    have hF0 : upd H F (.lst []) F = some (.lst []) := upd_same
    refine ⟨_, rfl, _, rfl, x, b, ns, ss, rs, rfl, ex.mono e0, bk.mono e0, wf, by omega, fun hl p ds H1 e1 hp hal hpn => ?_, fun w hw d H1 e1 hd => k2 w hw d H1 (e0.trans e1) hd⟩
    have hF1 := e1 _ _ hF0
    have e01 := e0.trans e1
    have ex1 := ex.mono e01
    obtain ⟨dx, t0, f0, as0, hx, _⟩ := id ex1
    refine ⟨_, rfl, x, dx, _, rfl, hx, x, ns, rfl, ex1, fun N as hN hA => ⟨N, _, rfl, SqL.of upd_same, ?_⟩⟩
    have e2 := Ex.new (o := .lst (as.map V.ref)) hN
    have hN2 : upd H1 N (.lst (as.map V.ref)) N = some (.lst (as.map V.ref)) := upd_same
    have hA2 := hA.imp fun _ _ q => NdAt.mono e2 q
    have hal2 := hal.imp fun _ _ q => (show GivAt rs (upd H1 N (.lst (as.map V.ref))) _ _ from e2 _ _ q)
    have hF2 := e2 _ _ hF1
    have hp2 := e2 _ _ hp
    have nN : N ≠ F := (ne_of_none hF1 hN).symm
    have np : p ≠ F := (ne_of_none hF0 hpn).symm
    have e02 := e01.trans e2
    generalize upd H1 N (.lst (as.map V.ref)) = H2 at e2 hN2 hA2 hal2 hF2 hp2 e02 ⊢
    -- what stands beside the list that grows
    obtain ⟨B, hB⟩ : ∃ B, B = L2.del H2 F := ⟨_, rfl⟩
    have inB : ∀ {a : Addr} {o : HO}, H2 a = some o → a ≠ F → B a = some o := fun h n => by rw [hB]; exact del_at h n
    have BF : B F = none := by rw [hB]; exact L2.del_same
    have eB : Ex H B := fun a o h => inB (e02 _ _ h) (ne_of_none h hF)
    have bN := inB hN2 nN
    have bp := inB hp2 np
    have bA : Al2 (NdAt B) as ns := hA2.imp fun _ _ q => NdAt.fr (bad := fun z => z = F) (fun z e => ⟨_, e ▸ hF2⟩) (fun z o n h => inB h n) q
    have bG : Al2 (GivAt rs B) ds ns := hal2.imp fun a nd q => (show B a = _ from inB (show H2 a = _ from q) (ne_of q hF2 (fun z => nomatch z)))
    have eBH : Ex B H2 := fun a o h => by
      have n : a ≠ F := fun z => by rw [z, BF] at h; cases h
      rw [hB, L2.del_ne n] at h
      exact h
    have las : as.length = ns.length := hA.len
    have lds : ds.length = ns.length := hal.len
    clear hA hal hA2 hal2 hN hpn hB inB
    refine for_it (walk_enum (xs := as.map V.ref)) (fun i σ' H' => ∃ v4 v5 v6 fs, σ' = [some (.ref x), some (.ref b), some (.ref F), some (.ref p), v4, v5, v6] ∧ Ex B H' ∧ H' F = some (.lst (fs.map V.ref)) ∧ Al2 (fun a ks => KsAt H' a ks ∧ H a = none ∧ a ≠ F) fs (resL rs (ns.take i))) ⟨_, _, _, [], rfl, eBH, hF2, .nil⟩ (fun i σ' H' _ ⟨_, _, _, _, _, e, _⟩ => SqL.of (e _ _ bN)) ?_ ?_
    · rintro i y σ' H3 H4 hi ⟨v4, v5, v6, fs, rfl, e3, h3F, hfs⟩ ⟨Tt, y1, y2, rfl, hT, rfl, h1, h2⟩
      rw [List.length_map] at hi
      cases h1
      obtain ⟨a, ha, rfl⟩ : ∃ a, as[i]? = some a ∧ V.ref a = y2 := by
        have h3 : (as.map V.ref)[i]? = some y2 := h2
        rw [List.getElem?_map] at h3
        exact Option.map_eq_some_iff.mp h3
      obtain ⟨nd, hnd, had⟩ := bA.get i a ha
      obtain ⟨d, hd⟩ : ∃ d, ds[i]? = some d := ⟨_, List.getElem?_eq_getElem (by omega)⟩
      obtain ⟨nd', hnd', hdd⟩ := bG.get i d hd
      rw [hnd] at hnd'
      obtain rfl := Option.some.inj hnd'
      obtain ⟨wf1, _, wf3⟩ := wf nd (List.mem_of_getElem? hnd)
      have la : lacks rs nd = none := List.findSome?_eq_none_iff.mp hl nd (List.mem_of_getElem? hnd)
      have so := src_ok bk.gd bk.nd wf3 la
      have eT := Ex.new (o := .tup [.int (i : Nat), .ref a]) hT
      have hTt : upd H3 Tt (.tup [.int (i : Nat), .ref a]) Tt = some (.tup [.int (i : Nat), .ref a]) := upd_same
      have h4F := eT _ _ h3F
      have e4 := e3.trans eT
      have hfs4 : Al2 (fun c ks => KsAt (upd H3 Tt (.tup [.int (i : Nat), .ref a])) c ks ∧ H c = none ∧ c ≠ F) fs (resL rs (ns.take i)) := hfs.imp fun _ _ q => ⟨eT _ _ q.1, q.2⟩
      refine ⟨Tt, _, rfl, SqT.of hTt, rfl, _, _, rfl, _, _, rfl, rfl, ?_⟩
      generalize upd H3 Tt (.tup [.int (i : Nat), .ref a]) = H4 at e4 h4F hfs4 ⊢
      clear hfs h3F e3 hT hTt eT
      have lfs : fs.length = i := by rw [hfs4.len, res_len, List.length_take]; omega
      have hd4 : H4 d = some (.dK (givK nd (srcOf rs nd))) := e4 _ _ hdd
      have rt := res_take (rs := rs) hnd
      obtain ⟨js, hjs⟩ : ∃ js, js = givJ nd (srcOf rs nd) := ⟨_, rfl⟩
      have emp : (givK nd (srcOf rs nd)).isEmpty = js.isEmpty := by
        have q := congrArg List.isEmpty (giv_vals nd (srcOf rs nd))
        rw [List.isEmpty_map, List.isEmpty_map] at q
        rw [q, hjs]
      have fin : ∀ (q : Addr) (H5 : Hp) (v6' : Option V), Ex H4 H5 → KsAt H5 q (resN nd (srcOf rs nd) i (resL rs (ns.take i))) → H4 q = none → ∃ v4 v5 v6 fs', [some (V.ref x), some (V.ref b), some (V.ref F), some (V.ref p), some (V.int (i : Nat)), some (V.ref a), v6'] = [some (V.ref x), some (V.ref b), some (V.ref F), some (V.ref p), v4, v5, v6] ∧ Ex B (upd H5 F (.lst (fs.map V.ref ++ [.ref q]))) ∧ (upd H5 F (.lst (fs.map V.ref ++ [.ref q]))) F = some (.lst (fs'.map V.ref)) ∧ Al2 (fun a ks => KsAt (upd H5 F (.lst (fs.map V.ref ++ [.ref q]))) a ks ∧ H a = none ∧ a ≠ F) fs' (resL rs (ns.take (i + 1))) := fun q H5 v6' e5 hq hqn => by
        have nq : q ≠ F := (ne_of_none h4F hqn).symm
        refine ⟨_, _, _, fs ++ [q], rfl, (e4.trans e5).mut BF, by rw [upd_same, List.map_append]; rfl, ?_⟩
        rw [rt]
        have kp : ∀ {c : Addr} {ks : List Key}, c ≠ F → KsAt H5 c ks → KsAt (upd H5 F (.lst (fs.map V.ref ++ [.ref q]))) c ks := fun n h => by
          show upd H5 F _ _ = _
          rw [upd_ne n]
          exact h
        exact (hfs4.imp fun _ _ z => ⟨kp z.2.2 (e5 _ _ z.1), z.2⟩).snoc ⟨kp nq hq, (eB.trans e4).free' hqn, nq⟩
      have szF : (fs.map V.ref).length < sizeLine := sz_lt (by rw [List.length_map]; omega)
      refine ⟨_, rfl, _, rfl, p, _, (i : Int), .ref d, rfl, rfl, SqL.of (e4 _ _ bp), atI_nat (by rw [List.getElem?_map, hd]; rfl), _, .inr (.inr ⟨_, hd4, rfl⟩), ?_⟩
      rw [emp]
      cases hb : js.isEmpty with
      | true =>
        refine iteF ⟨_, rfl, .inl ⟨rfl, _, SqL.of h4F⟩, ?_⟩
        have hN1 : resN nd (srcOf rs nd) i (resL rs (ns.take i)) = [ownK nd i] := by
          unfold resN
          rw [← hjs, hb, if_pos rfl]
        have one : ∀ q, H4 q = none → ∃ u4 u5 u6 fs', [some (V.ref x), some (V.ref b), some (V.ref F), some (V.ref p), some (V.int (i : Nat)), some (V.ref a), v6] = [some (V.ref x), some (V.ref b), some (V.ref F), some (V.ref p), u4, u5, u6] ∧ Ex B (upd (upd H4 q (.lst [kV (ownK nd i)])) F (.lst (fs.map V.ref ++ [.ref q]))) ∧ (upd (upd H4 q (.lst [kV (ownK nd i)])) F (.lst (fs.map V.ref ++ [.ref q]))) F = some (.lst (fs'.map V.ref)) ∧ Al2 (fun a ks => KsAt (upd (upd H4 q (.lst [kV (ownK nd i)])) F (.lst (fs.map V.ref ++ [.ref q]))) a ks ∧ H a = none ∧ a ≠ F) fs' (resL rs (ns.take (i + 1))) := fun q hq => by
          obtain ⟨v4', v5', v6', fs', e, h1, h2, h3⟩ := fin q _ v6 (Ex.new (o := .lst [kV (ownK nd i)]) hq) (by rw [hN1]; exact upd_same) hq
          exact ⟨v4', v5', v6', fs', e, h1, h2, h3⟩
        have had4 := NdAt.mono e4 had
        cases nd with
        | name w =>
          have h : H4 a = some (.tup [.str "name", .str w]) := had4
          exact ⟨_, rfl, a, _, 0, .str "name", rfl, rfl, SqT.of h, atI_nat (j := 0) rfl, rfl, _, rfl, ite2 (fun _ => ⟨_, rfl, a, _, 1, .str w, rfl, rfl, SqT.of h, atI_nat (j := 1) rfl, sz_of (by show 1 ≤ 100000; decide), fun q hq => ⟨F, _, _, rfl, rfl, (Ex.new hq) _ _ h4F, szF, one q hq⟩⟩) (fun z => absurd (by decide +kernel) z)⟩
        | op w os =>
          have h : H4 a = some (.tup (.str w :: ni os)) := had4
          have hw : w ≠ "name" := by
            rcases op_cases wf1 with ⟨rfl, _⟩ | ⟨rfl, _⟩ | ⟨rfl, _⟩ <;> decide +kernel
          exact ⟨_, rfl, a, _, 0, .str w, rfl, rfl, SqT.of h, atI_nat (j := 0) rfl, rfl, _, rfl, ite2 (fun z => absurd (V.str.inj (of_decide_eq_true z)) hw) (fun _ => ⟨_, rfl, sz_of (by show 1 ≤ 100000; decide), fun q hq => ⟨F, _, _, rfl, rfl, (Ex.new hq) _ _ h4F, szF, one q hq⟩⟩)⟩
        | call w os =>
          obtain ⟨u, h, _⟩ := had4
          exact ⟨_, rfl, a, _, 0, .str "call", rfl, rfl, SqT.of h, atI_nat (j := 0) rfl, rfl, _, rfl, ite2 (fun z => absurd z (by decide +kernel)) (fun _ => ⟨_, rfl, sz_of (by show 1 ≤ 100000; decide), fun q hq => ⟨F, _, _, rfl, rfl, (Ex.new hq) _ _ h4F, szF, one q hq⟩⟩)⟩
      | false =>
        refine iteT ⟨_, rfl, .inl ⟨rfl, _, SqL.of h4F⟩, d, _, hd4, trivial, fun od => ?_⟩
        have jlt : ∀ j ∈ js, j < i := fun j hj => (wfn i nd hnd).2 j (givJ_ops wf1 so j (by rw [← hjs]; exact hj))
        have jl4 : js.length ≤ 4 := by rw [hjs]; exact givJ_len wf1 so
        obtain ⟨kvs, hkvs⟩ : ∃ kvs, kvs = givK nd (srcOf rs nd) := ⟨_, rfl⟩
        have kvj : kvs.map Prod.snd = js.map fun j : Nat => V.int (j : Int) := by rw [hkvs, hjs]; exact giv_vals _ _
        have lkj : kvs.length = js.length := by have := congrArg List.length kvj; rwa [List.length_map, List.length_map] at this
        rw [← hkvs] at hd4 ⊢
        have old5 : ∀ {c : Addr} {o : HO}, H4 c = some o → c ≠ d → upd H4 d (.frz od (.dK kvs)) c = some o := fun h n => by rw [upd_ne n]; exact h
        have h5d : upd H4 d (.frz od (.dK kvs)) d = some (.frz od (.dK kvs)) := upd_same
        have h5F := old5 h4F (ne_of h4F hd4 (fun z => nomatch z))
        have h5p := old5 (e4 _ _ bp) (ne_of (e4 _ _ bp) hd4 (fun z => nomatch z))
        generalize upd H4 d (.frz od (.dK kvs)) = H5 at old5 h5d h5F h5p ⊢
        refine ⟨_, rfl, _, rfl, p, _, (i : Int), .ref d, rfl, rfl, SqL.of h5p, atI_nat (by rw [List.getElem?_map, hd]; rfl), d, od, kvs, rfl, h5d, fun D hD => ?_⟩
        refine lc_it walk_values (fun k' H' => Ex H5 H' ∧ H' D = some (.lst (((js.take k').map fun j => fs.getD j 0).map V.ref))) ⟨Ex.new hD, upd_same⟩ (fun k' H' _ z => z.1 _ _ h5d) ?_ ?_
        · rintro k' y H6 H0 hk ⟨e6, h6D⟩ ⟨e0', kk, hy⟩
          subst e0'
          have hy2 : (kvs.map Prod.snd)[k']? = some y := by rw [List.getElem?_map, hy]; rfl
          rw [kvj, List.getElem?_map] at hy2
          obtain ⟨j, hj, rfl⟩ := Option.map_eq_some_iff.mp hy2
          have hji := jlt j (List.mem_of_getElem? hj)
          have hfj : fs[j]? = some (fs.getD j 0) := by rw [List.getD_eq_getElem?_getD, List.getElem?_eq_getElem (by omega)]; rfl
          refine ⟨rfl, _, rfl, _, rfl, F, _, (j : Int), .ref (fs.getD j 0), rfl, rfl, SqL.of (e6 _ _ h5F), atI_nat (by rw [List.getElem?_map, hfj]; rfl), _, h6D, sz_lt (by rw [List.length_map, List.length_map, List.length_take]; omega), e6.mut hD, ?_⟩
          rw [upd_same, List.take_add_one, hj, List.map_append, List.map_append]
          rfl
        · rintro H6 ⟨e6, h6D⟩
          rw [lkj, List.take_length] at h6D
          refine ⟨e6 _ _ h5d, ?_⟩
          have nD : D ≠ d := (ne_of_none h5d hD).symm
          have e7 : Ex H4 (upd H6 d (.dK kvs)) := fun c o h => by
            by_cases z : c = d
            · subst z
              rw [hd4] at h
              rw [upd_same]
              exact h
            · rw [upd_ne z]
              exact e6 _ _ (old5 h z)
          have h7D : upd H6 d (.dK kvs) D = some (.lst ((js.map fun j => fs.getD j 0).map V.ref)) := by rw [upd_ne nD]; exact h6D
          generalize upd H6 d (.dK kvs) = H7 at e7 h7D ⊢
          have sm : ∀ ks ∈ js.map fun j => (resL rs (ns.take i)).getD j [], ks.length ≤ 100 := fun ks hks => by
            obtain ⟨j, _, rfl⟩ := List.mem_map.mp hks
            refine Nat.le_trans (getD_small (n := i) (fun ks hk => ?_) j) (by omega)
            have := res_small ks hk
            rw [List.length_take] at this
            omega
          have lf := flat_small sm
          rw [List.length_map] at lf
          refine ⟨D, _, _, rfl, h7D, al2_getD (hfs4.imp fun _ _ z => (show KsAt H7 _ _ from e7 _ _ z.1)) js (fun j hj => by have := jlt j hj; omega), by omega, fun q H8 e8 hq hqn => ?_⟩
          have e48 := e7.trans e8
          refine ⟨F, _, _, rfl, rfl, e48 _ _ h4F, szF, ?_⟩
          refine fin q H8 v6 e48 ?_ (e7.free' hqn)
          unfold resN
          rw [← hjs, hb, if_neg Bool.false_ne_true]
          exact hq
    · rintro σ' H3 ⟨v4, v5, v6, fs, rfl, e3, h3F, hfs⟩
      rw [List.length_map, las, List.take_length] at hfs
      exact ⟨_, rfl, k1 hl F fs H3 (eB.trans e3) h3F hfs hF⟩
end
end K18

set_option Elab.async false
set_option linter.all false
set_option maxRecDepth 100000
namespace K18
open PySem PySem.Spec PyProof.Rows L2 Evl TL UL StX
section
variable {P : Program} {w : World} {K : PySem.W.Frag} {mg : Str → Option Value} {base : Heap} {A : Adr}
/-! ### what a node gives on -/
/-- the operand that a node gives on -/
def giveN (nd : Nd) (ss : List Int) (c : Int) : Option Nat := match nd with
  | .name _ => none
  | .call _ os => if ss.isEmpty then none else some (os.getD (c - 1).toNat 0)
  | .op w os => some (if w = "part" then os.getD 0 0 else if w = "pick" then os.getD (c - 1).toNat 0 else os.getD 1 0)
theorem getD_mem {os : List Nat} {k : Nat} (h : k < os.length) : os.getD k 0 ∈ os := by
  rw [List.getD_eq_getElem?_getD, List.getElem?_eq_getElem h]
  exact List.getElem_mem h
/-- a right choice takes an operand -/
theorem give_ops {nd : Nd} {ss : List Int} {c : Int} {j : Nat} (wf : WfNd nd) (so : SrcOk nd ss) (hc : c ∈ optL nd ss) (h : giveN nd ss c = some j) : j ∈ opsOf nd := by
  cases nd with
  | name w => cases h
  | call w os =>
    have h : (if ss.isEmpty then none else some (os.getD (c - 1).toNat 0)) = some j := h
    cases he : ss.isEmpty with
    | true => rw [he, if_pos rfl] at h; cases h
    | false =>
      rw [he, if_neg Bool.false_ne_true] at h
      have hc : c ∈ (if ss.isEmpty = true then [0] else ss) := hc
      rw [he, if_neg Bool.false_ne_true] at hc
      have so : Asc os.length ss := so
      obtain ⟨h1, h2⟩ := so.2 c hc
      rw [← Option.some.inj h]
      exact getD_mem (os := os) (k := (c - 1).toNat) (by omega)
  | op w os =>
    have h := Option.some.inj (show some (if w = "part" then os.getD 0 0 else if w = "pick" then os.getD (c - 1).toNat 0 else os.getD 1 0) = some j from h)
    rw [← h]
    show _ ∈ os
    rcases op_cases wf with ⟨rfl, m, rfl⟩ | ⟨rfl, m, n, rfl⟩ | ⟨rfl, m, n, rfl⟩
    · rw [if_pos rfl]
      exact getD_mem (by show 0 < 1; omega)
    · rw [if_neg (by decide +kernel), if_pos rfl]
      have hc : c ∈ (if ([1, 2] : List Int).isEmpty = true then [0] else ([1, 2] : List Int)) := hc
      rw [if_neg (by decide)] at hc
      have : c = 1 ∨ c = 2 := by simpa using hc
      exact getD_mem (by show (c - 1).toNat < 2; omega)
    · rw [if_neg (by decide +kernel), if_neg (by decide +kernel)]
      exact getD_mem (by show 1 < 2; omega)
/-- a right choice for each node -/
def ChOk (rs : List Rw) (nd : Nd) (c : Int) : Prop := c ∈ optL nd (srcOf rs nd)
theorem giv_find {nd : Nd} {ss : List Int} {c : Int} {j : Nat} (wf : WfNd nd) (hc0 : c ∈ optL nd ss) (h0 : giveN nd ss c = some j) : valV (givK nd ss) (Sum.inl c) = some (V.int (j : Int)) := by
  cases nd with
  | name w => cases h0
  | call w os =>
    have h : (if ss.isEmpty then none else some (os.getD (c - 1).toNat 0)) = some j := h0
    cases he : ss.isEmpty with
    | true => rw [he, if_pos rfl] at h; cases h
    | false =>
      rw [he, if_neg Bool.false_ne_true] at h
      have hc : c ∈ (if ss.isEmpty = true then [0] else ss) := hc0
      rw [he, if_neg Bool.false_ne_true] at hc
      rw [← Option.some.inj h]
      clear he h hc0 h0
      show valV (ss.map fun s => (Sum.inl s, V.int ((os.getD (s - 1).toNat 0 : Nat) : Int))) (Sum.inl c) = _
      induction ss with
      | nil => cases hc
      | cons s r ih =>
        rw [List.map_cons]
        by_cases e : s = c
        · subst e
          exact valV_pos rfl
        · rw [valV_neg (fun z => e (Sum.inl.inj z))]
          exact ih ((List.mem_cons.mp hc).resolve_left fun z => e z.symm)
  | op w os =>
    have h := Option.some.inj (show some (if w = "part" then os.getD 0 0 else if w = "pick" then os.getD (c - 1).toNat 0 else os.getD 1 0) = some j from h0)
    rw [← h]
    have hc : c ∈ (if (if w = "pick" then ([1, 2] : List Int) else [0]).isEmpty = true then [0] else (if w = "pick" then ([1, 2] : List Int) else [0])) := hc0
    clear hc0 h0
    rcases op_cases wf with ⟨rfl, m, rfl⟩ | ⟨rfl, m, n, rfl⟩ | ⟨rfl, m, n, rfl⟩
    · rw [if_neg (show ¬ ("part" : Str) = "pick" by decide +kernel), if_neg (by decide)] at hc
      obtain rfl : c = 0 := by simpa using hc
      rfl
    · rw [if_pos rfl, if_neg (by decide)] at hc
      rcases (by simpa using hc : c = 1 ∨ c = 2) with rfl | rfl <;> rfl
    · rw [if_neg (show ¬ ("then" : Str) = "pick" by decide +kernel), if_neg (by decide)] at hc
      obtain rfl : c = 0 := by simpa using hc
      rfl
theorem giv_emp {nd : Nd} (wf : WfNd nd) (ss : List Int) (c : Int) : (givK nd ss).isEmpty = (giveN nd ss c).isNone := by
  cases nd with
  | name w => rfl
  | call w os =>
    cases ss with
    | nil => rfl
    | cons s r => rfl
  | op w os =>
    rcases op_cases wf with ⟨rfl, m, rfl⟩ | ⟨rfl, m, n, rfl⟩ | ⟨rfl, m, n, rfl⟩ <;> rfl
theorem give_J {nd : Nd} {ss : List Int} {c : Int} {j : Nat} (wf : WfNd nd) (hc : c ∈ optL nd ss) (h : giveN nd ss c = some j) : j ∈ givJ nd ss := by
  cases nd with
  | name w => cases h
  | call w os =>
    have h : (if ss.isEmpty then none else some (os.getD (c - 1).toNat 0)) = some j := h
    cases he : ss.isEmpty with
    | true => rw [he, if_pos rfl] at h; cases h
    | false =>
      rw [he, if_neg Bool.false_ne_true] at h
      have hc : c ∈ (if ss.isEmpty = true then [0] else ss) := hc
      rw [he, if_neg Bool.false_ne_true] at hc
      exact List.mem_map.mpr ⟨c, hc, Option.some.inj h⟩
  | op w os =>
    have h := Option.some.inj (show some (if w = "part" then os.getD 0 0 else if w = "pick" then os.getD (c - 1).toNat 0 else os.getD 1 0) = some j from h)
    show j ∈ (if w = "part" then [os.getD 0 0] else if w = "pick" then [os.getD 0 0, os.getD 1 0] else [os.getD 1 0])
    rcases op_cases wf with ⟨rfl, m, rfl⟩ | ⟨rfl, m, n, rfl⟩ | ⟨rfl, m, n, rfl⟩
    · rw [if_pos rfl] at h ⊢
      rw [← h]
      exact List.mem_cons_self
    · rw [if_neg (by decide +kernel), if_pos rfl] at h ⊢
      have hc : c ∈ (if ([1, 2] : List Int).isEmpty = true then [0] else ([1, 2] : List Int)) := hc
      rw [if_neg (by decide)] at hc
      rcases (by simpa using hc : c = 1 ∨ c = 2) with rfl | rfl
      · rw [← h]; exact List.mem_cons_self
      · rw [← h]; exact List.mem_cons_of_mem _ List.mem_cons_self
    · rw [if_neg (by decide +kernel), if_neg (by decide +kernel)] at h ⊢
      rw [← h]
      exact List.mem_cons_self
theorem giv_none {nd : Nd} {ss : List Int} {c : Int} (wf : WfNd nd) (h : giveN nd ss c = none) : (givJ nd ss).isEmpty = true := by
  have e := giv_emp wf ss c
  rw [h] at e
  have q := congrArg List.isEmpty (giv_vals nd ss)
  rw [List.isEmpty_map, List.isEmpty_map] at q
  rw [← q, e]
  rfl
/-! ### the way to a result -/
inductive Way (rs : List Rw) (ns : List Nd) (cs : List Int) : Nat → Key → Prop
  | own {i : Nat} {nd : Nd} (h : ns[i]? = some nd) (hg : (givJ nd (srcOf rs nd)).isEmpty = true) : Way rs ns cs i (ownK nd i)
  | give {i j : Nat} {nd : Nd} {c : Int} {k : Key} (h : ns[i]? = some nd) (hc : cs[i]? = some c) (hg : giveN nd (srcOf rs nd) c = some j) (w : Way rs ns cs j k) : Way rs ns cs i k
/-- what a key of a node's dict gives -/
theorem key_give {nd : Nd} {ss : List Int} (wf : WfNd nd) (so : SrcOk nd ss) : ∀ c ∈ keysL nd ss, c ∈ optL nd ss ∧ ∃ j, giveN nd ss c = some j ∧ j ∈ opsOf nd := by
  intro c hc
  have ho : c ∈ optL nd ss := by
    unfold optL
    rw [if_neg (fun z => by rw [List.isEmpty_iff.mp z] at hc; cases hc)]
    exact hc
  refine ⟨ho, ?_⟩
  cases hg : giveN nd ss c with
  | some j => exact ⟨j, rfl, give_ops wf so ho hg⟩
  | none =>
    have e := giv_none wf hg
    have q := congrArg List.isEmpty (giv_vals nd ss)
    rw [List.isEmpty_map, List.isEmpty_map, e] at q
    have q2 := congrArg List.isEmpty (giv_keys nd ss)
    rw [List.isEmpty_map, List.isEmpty_map, q] at q2
    rw [List.isEmpty_iff.mp q2.symm] at hc
    cases hc
theorem J_key {nd : Nd} {ss : List Int} (wf : WfNd nd) : ∀ j ∈ givJ nd ss, ∃ c ∈ keysL nd ss, giveN nd ss c = some j := by
  intro j hj
  cases nd with
  | name w => cases hj
  | call w os =>
    obtain ⟨s, hs, rfl⟩ := List.mem_map.mp (show j ∈ ss.map _ from hj)
    refine ⟨s, hs, ?_⟩
    show (if ss.isEmpty then none else some (os.getD (s - 1).toNat 0)) = _
    rw [if_neg (fun z => by rw [List.isEmpty_iff.mp z] at hs; cases hs)]
  | op w os =>
    have hj : j ∈ (if w = "part" then [os.getD 0 0] else if w = "pick" then [os.getD 0 0, os.getD 1 0] else [os.getD 1 0]) := hj
    show ∃ c ∈ (if w = "pick" then ([1, 2] : List Int) else [0]), some (if w = "part" then os.getD 0 0 else if w = "pick" then os.getD (c - 1).toNat 0 else os.getD 1 0) = some j
    rcases op_cases wf with ⟨rfl, m, rfl⟩ | ⟨rfl, m, n, rfl⟩ | ⟨rfl, m, n, rfl⟩
    · rw [if_pos rfl] at hj
      rw [List.mem_singleton.mp hj]
      exact ⟨0, by rw [if_neg (by decide +kernel)]; exact List.mem_cons_self, by rw [if_pos rfl]⟩
    · rw [if_neg (by decide +kernel), if_pos rfl] at hj
      rw [if_pos rfl]
      rcases (by simpa using hj : j = m ∨ j = n) with rfl | rfl
      · exact ⟨1, List.mem_cons_self, by rw [if_neg (by decide +kernel)]; rfl⟩
      · exact ⟨2, List.mem_cons_of_mem _ List.mem_cons_self, by rw [if_neg (by decide +kernel)]; rfl⟩
    · rw [if_neg (by decide +kernel), if_neg (by decide +kernel)] at hj
      rw [List.mem_singleton.mp hj]
      exact ⟨0, by rw [if_neg (by decide +kernel)]; exact List.mem_cons_self, by rw [if_neg (by decide +kernel), if_neg (by decide +kernel)]⟩
/-- the numbers with which a node gives k -/
def candL (nd : Nd) (ss : List Int) (L : List (List Key)) (k : Key) : List Int := (keysL nd ss).filter fun c => isin (L.getD ((giveN nd ss c).getD 0) []) k
theorem cand_ne {rs : List Rw} {ns : List Nd} {i : Nat} {nd : Nd} {k : Key} (wf : WfN ns) (so : SrcOk nd (srcOf rs nd)) (h : ns[i]? = some nd) (hk : k ∈ (resL rs ns).getD i []) (he : (givJ nd (srcOf rs nd)).isEmpty = false) : candL nd (srcOf rs nd) (resL rs ns) k ≠ [] := by
  have hl := (List.getElem?_eq_some_iff.mp h).1
  rw [List.getD_eq_getElem?_getD, res_at h] at hk
  have hk : k ∈ resN nd (srcOf rs nd) i (resL rs (ns.take i)) := hk
  unfold resN at hk
  rw [he, if_neg Bool.false_ne_true, mem_unit1] at hk
  obtain ⟨l, hl', hkl⟩ := List.mem_flatten.mp hk
  obtain ⟨j, hj, rfl⟩ := List.mem_map.mp hl'
  have hji := (wf i nd h).2 j (givJ_ops (wf i nd h).1 so j hj)
  rw [res_old hji (by omega)] at hkl
  obtain ⟨c, hc, hg⟩ := J_key (wf i nd h).1 j hj
  intro z
  have : c ∈ candL nd (srcOf rs nd) (resL rs ns) k := List.mem_filter.mpr ⟨hc, by rw [hg]; exact isin_iff.mpr hkl⟩
  rw [z] at this
  cases this
/-- numbers by nodes, as a dict -/
abbrev Nums := List (Nat × Int)
def numK (ps : Nums) : List (Key × V) := ps.map fun p => (Sum.inl ((p.1 : Nat) : Int), V.int p.2)
structure PathOk (rs : List Rw) (ns : List Nd) (ps : Nums) (i : Nat) (k : Key) : Prop where
  nd : (ps.map (·.1)).Nodup
  opt : ∀ p ∈ ps, ∃ nd, ns[p.1]? = some nd ∧ p.2 ∈ optL nd (srcOf rs nd)
  way : ∀ cs : List Int, (∀ p ∈ ps, cs[p.1]? = some p.2) → Way rs ns cs i k
theorem num_get {ps : Nums} {i : Nat} : valV (numK ps) (Sum.inl (i : Int)) = (ps.lookup i).map V.int := by
  induction ps with
  | nil => rfl
  | cons p t ih =>
    obtain ⟨a, c⟩ := p
    by_cases e : a = i
    · subst e
      rw [List.lookup_cons_self]
      show valV ((Sum.inl ((a : Nat) : Int), V.int c) :: numK t) _ = _
      unfold valV
      simp
    · rw [List.lookup_cons, show (i == a) = false by simpa using fun z : i = a => e z.symm]
      show valV ((Sum.inl ((a : Nat) : Int), V.int c) :: numK t) _ = _
      rw [← ih]
      unfold valV
      rw [List.find?_cons_of_neg]
      simpa using fun z : (a : Int) = (i : Int) => e (by omega)
theorem num_put {ps : Nums} {i : Nat} {c : Int} (h : ∀ p ∈ ps, p.1 ≠ i) : putK (numK ps) (Sum.inl (i : Int)) (V.int c) = numK (ps ++ [(i, c)]) := by
  rw [put_fresh]
  · unfold numK
    rw [List.map_append]
    rfl
  · intro kv hkv e
    obtain ⟨p, hp, rfl⟩ := List.mem_map.mp hkv
    have := Sum.inl.inj e
    exact h p hp (by omega)
def spNums (K : PySem.W.Frag) (X B S : Addr) : Sp := fun vs H Q E => ∃ x b i k ns ss rs, vs = [.ref x, .ref b, .int ((i : Nat) : Int), kV k] ∧ ExAt X H x ns ∧ BookAt K B S H b ss rs ∧ (∀ nd ∈ ns, WfNd nd ∧ WkNd okS nd ∧ CallOk rs nd) ∧ WfN ns ∧ ns.length ≤ 25 ∧ lackL rs ns = none ∧ i < ns.length ∧ k ∈ (resL rs ns).getD i [] ∧
  ∀ g ps H', Ex H H' → H' g = some (.dK (numK ps)) → PathOk rs ns ps i k → H g = none → Q (.ref g) H'
theorem ok_numbers_for (T : Tx0 w K mg A) : FnOk P w K mg base (L2.CX P w) 16 A.numbers_for A.d_numbers_for p_numbers_for (spNums K A.Expression A.Book A.Signature) := by
  refine T.F_numbers_for.okX sc_numbers_for (fun vs H Q E h => ?_) (fun cdv Ar outer s H vs Q E hr h => ?_)
  · obtain ⟨x, b, i, k, ns, ss, rs, rfl, _⟩ := h
    rfl
  · obtain ⟨x, b, i, k, ns, ss, rs, rfl, ex, bk, wf, wfn, lz, hl, hi, hk, kk⟩ := h
    refine ⟨_, (pss_cons (ps_set (i := 4) sc_numbers_for.nd rfl (Or.inr rfl) (pe_call (ok_results T) (hr.mono (by decide)) (by rfl) T.g_results T.F_results.kp T.b_results .nil (UL.passX (takes_of rfl rfl rfl rfl)) (pa_cons (pv 0) (pa_cons (pv 1) pa_nil))))
      (pss_cons (ps_set (i := 5) sc_numbers_for.nd rfl (Or.inr rfl) (pe_call (ok_givers T) (hr.mono (by decide)) (by rfl) T.g_givers T.F_givers.kp T.b_givers .nil (UL.passX (takes_of rfl rfl rfl rfl)) (pa_cons (pv 0) (pa_cons (pv 1) pa_nil))))
      (pss_cons (ps_set (i := 6) sc_numbers_for.nd rfl (Or.inl rfl) pe_dnewK)
      (pss_cons (ps_while PassesOwn.leaving (pt_truth (pe_ix ix_list (pv 5) (pv 2) (fun _ _ => rfl)) (fun _ => rfl)) (pss_cons (ps_dput (hu_of hr) (pv 6) (pv 2) (pe_ix ix_list (pe_lock (pe_lc (own := [("number", 7)]) (g := gName 7) rfl sc_numbers_for.nd (pi_keys (pe_ix ix_list (pv 5) (pv 2) (fun _ _ => rfl))) (blkOk_by (N := n_numbers_for) (sc := defScope s_numbers_for) (by decide +kernel)) (fun _ _ _ _ _ => pg_name (i := 7) sc_numbers_for.nd rfl (Or.inl rfl)) (fun _ _ _ _ _ => pts_one (pt_cmpR (show OpR _ _ (rIn K false) from op_in_seq) (pv 3) (pe_ix (show IxR _ (rIxL K) from ix_list) (pv 4) (pe_dget (hu_of hr) (pe_ix (show IxR _ (rIxL K) from ix_list) (pv 5) (pv 2) (fun _ _ => rfl)) (pv 7) (fun _ _ => rfl)) (fun _ _ => rfl)) (by rfl))) (fun _ _ _ _ _ => (pv 7)))) pe_int (fun _ _ => rfl)) rfl)
        (pss_one (ps_set (i := 2) sc_numbers_for.nd rfl (Or.inr rfl) (pe_dget (hu_of hr) (pe_ix ix_list (pv 5) (pv 2) (fun _ _ => rfl)) (pe_dget (hu_of hr) (pv 6) (pv 2) (fun _ _ => rfl)) (fun _ _ => rfl))))))
      (pss_one (ps_ret (pv 6))))))), ?_⟩
    refine ⟨_, rfl, _, rfl, x, b, ns, ss, rs, rfl, ex, bk, wf, wfn, by omega, fun _ F fs H1 e1 hF hfs hFn => ?_, fun w hw => by rw [hl] at hw; cases hw⟩
    refine ⟨_, rfl, _, rfl, x, b, ns, ss, rs, rfl, ex.mono e1, bk.mono e1, wf, by omega, fun _ p ds H2 e2 hp hds hpn => ?_, fun w hw => by rw [hl] at hw; cases hw⟩
    have e02 := e1.trans e2
    intro g hg
    have e3 := Ex.new (o := .dK []) hg
    have lfs : fs.length = ns.length := by rw [hfs.len, res_len]
    have lds : ds.length = ns.length := hds.len
    have hF2 := e2 _ _ hF
    refine ⟨fun m σ' H' => ∃ (j : Nat) (ps : Nums) (v7 : Option V), m = j ∧ σ' = [some (.ref x), some (.ref b), some (.int ((j : Nat) : Int)), some (kV k), some (.ref F), some (.ref p), some (.ref g), v7] ∧ Ex H2 H' ∧ H' g = some (.dK (numK ps)) ∧ j < ns.length ∧ (∀ q ∈ ps, j < q.1) ∧ (ps.map (·.1)).Nodup ∧ ps.length + j ≤ i ∧ (∀ q ∈ ps, ∃ nd, ns[q.1]? = some nd ∧ q.2 ∈ optL nd (srcOf rs nd)) ∧ (∀ cs : List Int, (∀ q ∈ ps, cs[q.1]? = some q.2) → ∀ k', Way rs ns cs j k' → Way rs ns cs i k') ∧ k ∈ (resL rs ns).getD j [], ⟨i, i, [], none, rfl, rfl, e3, upd_same, hi, (fun _ h => nomatch h), List.nodup_nil, by show 0 + i ≤ i; omega, (fun _ h => nomatch h), (fun _ _ _ h => h), hk⟩, ?_⟩
    rintro m σ' H3 ⟨j, ps, v7, rfl, rfl, e23, h3g, hj, hlt, hnd, hlen, hopt, hch, hkj⟩
    obtain ⟨nd, hnj⟩ : ∃ nd, ns[m]? = some nd := ⟨_, List.getElem?_eq_getElem hj⟩
    obtain ⟨d, hd⟩ : ∃ d, ds[m]? = some d := ⟨_, List.getElem?_eq_getElem (by omega)⟩
    obtain ⟨nd', hnj', hdd⟩ := hds.get m d hd
    rw [hnj] at hnj'
    obtain rfl := Option.some.inj hnj'
    obtain ⟨wf1, _, wf3⟩ := wf nd (List.mem_of_getElem? hnj)
    have so1 := src_ok bk.gd bk.nd wf3 (List.findSome?_eq_none_iff.mp hl nd (List.mem_of_getElem? hnj))
    have hd3 : H3 d = some (.dK (givK nd (srcOf rs nd))) := e23 _ _ hdd
    have atd : atI (ds.map V.ref) ((m : Nat) : Int) = some (.ref d) := atI_nat (by rw [List.getElem?_map, hd]; rfl)
    have emp : (givK nd (srcOf rs nd)).isEmpty = (givJ nd (srcOf rs nd)).isEmpty := by
      have q := congrArg List.isEmpty (giv_vals nd (srcOf rs nd))
      rwa [List.isEmpty_map, List.isEmpty_map] at q
    refine ⟨_, rfl, _, rfl, p, _, (m : Int), .ref d, rfl, rfl, SqL.of (e23 _ _ hp), atd, _, .inr (.inr ⟨_, hd3, rfl⟩), ?_⟩
    rw [emp]
    cases hb : (givJ nd (srcOf rs nd)).isEmpty with
    | true =>
      refine iteF ⟨_, rfl, kk g ps H3 (e02.trans e23) h3g ⟨hnd, hopt, fun cs hcs => hch cs hcs k ?_⟩ (e02.free' hg)⟩
      have e := hkj
      rw [List.getD_eq_getElem?_getD, res_at hnj] at e
      have e : k ∈ resN nd (srcOf rs nd) m (resL rs (ns.take m)) := e
      unfold resN at e
      rw [hb, if_pos rfl, List.mem_singleton] at e
      rw [e]
      exact .own hnj hb
    | false =>
      refine iteT ⟨fun σ' H' => ∃ m', m' < m ∧ ∃ (j : Nat) (ps : Nums) (v7 : Option V), m' = j ∧ σ' = [some (.ref x), some (.ref b), some (.int ((j : Nat) : Int)), some (kV k), some (.ref F), some (.ref p), some (.ref g), v7] ∧ Ex H2 H' ∧ H' g = some (.dK (numK ps)) ∧ j < ns.length ∧ (∀ q ∈ ps, j < q.1) ∧ (ps.map (·.1)).Nodup ∧ ps.length + j ≤ i ∧ (∀ q ∈ ps, ∃ nd, ns[q.1]? = some nd ∧ q.2 ∈ optL nd (srcOf rs nd)) ∧ (∀ cs : List Int, (∀ q ∈ ps, cs[q.1]? = some q.2) → ∀ k', Way rs ns cs j k' → Way rs ns cs i k') ∧ k ∈ (resL rs ns).getD j [], fun _ _ h => h, ?_⟩
      obtain ⟨kvs, hkvs⟩ : ∃ kvs, kvs = givK nd (srcOf rs nd) := ⟨_, rfl⟩
      have kvk : kvs.map (fun kv => kV kv.1) = (keysL nd (srcOf rs nd)).map V.int := by rw [hkvs]; exact giv_keys _ _
      have lkv : kvs.length = (keysL nd (srcOf rs nd)).length := by have := congrArg List.length kvk; rwa [List.length_map, List.length_map] at this
      rw [← hkvs] at hd3
      have find : ∀ c ∈ keysL nd (srcOf rs nd), ∃ j', giveN nd (srcOf rs nd) c = some j' ∧ j' < m ∧ valV kvs (Sum.inl c) = some (V.int ((j' : Nat) : Int)) := fun c hc => by
        obtain ⟨h1, j', h2, h3⟩ := key_give wf1 so1 c hc
        exact ⟨j', h2, (wfn m nd hnj).2 j' h3, by rw [hkvs]; exact giv_find wf1 h1 h2⟩
      have lk4 : (keysL nd (srcOf rs nd)).length ≤ 4 := by
        cases nd with
        | name w => exact Nat.zero_le _
        | op w os =>
          show (if w = "pick" then ([1, 2] : List Int) else [0]).length ≤ 4
          split
          · show 2 ≤ 4; omega
          · show 1 ≤ 4; omega
        | call w os => exact asc_len (n := os.length) (by have : os.length ≤ 4 := wf1; omega) _ so1
      refine ⟨d, _, hd3, trivial, fun od => ?_⟩
      have ndp : d ≠ p := ne_of hd3 (e23 _ _ hp) (fun z => nomatch z)
      have old5 : ∀ {c : Addr} {o : HO}, H3 c = some o → c ≠ d → upd H3 d (.frz od (.dK kvs)) c = some o := fun h n => by rw [upd_ne n]; exact h
      have h5d : upd H3 d (.frz od (.dK kvs)) d = some (.frz od (.dK kvs)) := upd_same
      have h5F := old5 (e23 _ _ hF2) (ne_of (e23 _ _ hF2) hd3 (fun z => nomatch z))
      have h5p := old5 (e23 _ _ hp) ndp.symm
      have h5f : Al2 (fun a ks => KsAt (upd H3 d (.frz od (.dK kvs))) a ks) fs (resL rs ns) := hfs.imp fun a ks z => by
        have h : H3 a = some (.lst (ks.map kV)) := (e2.trans e23) _ _ z.1
        exact old5 h (ne_of h hd3 (fun z => nomatch z))
      have ngd : g ≠ d := (ne_of_none (show H2 d = some _ from hdd) hg).symm
      have h5g := old5 h3g ngd
      generalize upd H3 d (.frz od (.dK kvs)) = H5 at old5 h5d h5F h5p h5f h5g ⊢
      refine ⟨_, rfl, _, rfl, p, _, (m : Int), .ref d, rfl, rfl, SqL.of h5p, atd, d, od, rfl, .inl ⟨kvs, h5d, fun D hD => ?_⟩⟩
      refine lc_it walk_keys (fun n H' => Ex H5 H' ∧ H' D = some (.lst ((((keysL nd (srcOf rs nd)).take n).filter fun c => isin ((resL rs ns).getD ((giveN nd (srcOf rs nd) c).getD 0) []) k).map V.int))) ⟨Ex.new hD, upd_same⟩ (fun n H' _ z => z.1 _ _ h5d) ?_ ?_
      · rintro n y H6 H0 hn ⟨e6, h6D⟩ ⟨e0', key, v, hy, rfl⟩
        subst e0'
        have hy2 : (kvs.map fun kv => kV kv.1)[n]? = some (kV key) := by rw [List.getElem?_map, hy]; rfl
        rw [kvk, List.getElem?_map] at hy2
        obtain ⟨c, hc, ec⟩ := Option.map_eq_some_iff.mp hy2
        obtain rfl : key = .inl c := UL.kV_inj (by rw [← ec]; rfl)
        obtain ⟨j', g1, g2, g3⟩ := find c (List.mem_of_getElem? hc)
        obtain ⟨a, ha⟩ : ∃ a, fs[j']? = some a := ⟨_, List.getElem?_eq_getElem (by omega)⟩
        obtain ⟨ks, hks, hka⟩ := h5f.get j' a ha
        have eks : (resL rs ns).getD ((giveN nd (srcOf rs nd) c).getD 0) [] = ks := by rw [g1, List.getD_eq_getElem?_getD]; show (resL rs ns)[j']?.getD [] = ks; rw [hks]; rfl
        refine ⟨rfl, _, rfl, _, rfl, _, rfl, _, rfl, p, _, (m : Int), .ref d, rfl, rfl, SqL.of (e6 _ _ h5p), atd, _, rfl, d, _, rfl, .inl ⟨kvs, .inl c, .inr ⟨od, e6 _ _ h5d⟩, rfl, g3.symm⟩, F, _, _, .ref a, rfl, rfl, SqL.of (e6 _ _ h5F), atI_nat (by rw [List.getElem?_map, ha]; rfl), a, _, rfl, .inl (SqL.of (e6 _ _ hka)), flat_kV k, flat_kVs ks, _, rfl, ?_⟩
        rw [if_neg Bool.false_ne_true, inV_kV]
        have ll := (List.getElem?_eq_some_iff.mp hc).1
        cases hi2 : isin ks k with
        | true =>
          refine iteT ⟨_, rfl, _, h6D, sz_lt ?_, e6.mut hD, ?_⟩
          · rw [List.length_map]
            refine Nat.lt_of_le_of_lt (List.length_filter_le _ _) ?_
            rw [List.length_take]
            omega
          · rw [upd_same, List.take_add_one, hc]
            show _ = some (HO.lst ((List.filter _ (_ ++ [c])).map V.int))
            rw [List.filter_append, List.filter_cons, eks, hi2, if_pos rfl, List.filter_nil, List.map_append]
            rfl
        | false =>
          refine iteF ⟨e6, ?_⟩
          rw [h6D, List.take_add_one, hc]
          show _ = some (HO.lst ((List.filter _ (_ ++ [c])).map V.int))
          rw [List.filter_append, List.filter_cons, eks, hi2, if_neg Bool.false_ne_true, List.filter_nil, List.append_nil]
      · rintro H6 ⟨e6, h6D⟩
        rw [lkv, List.take_length] at h6D
        have h6D : H6 D = some (.lst ((candL nd (srcOf rs nd) (resL rs ns) k).map V.int)) := h6D
        refine ⟨e6 _ _ h5d, ?_⟩
        have nD : D ≠ d := (ne_of_none h5d hD).symm
        have e7 : Ex H3 (upd H6 d (.dK kvs)) := fun c o h => by
          by_cases z : c = d
          · subst z
            rw [hd3] at h
            rw [upd_same]
            exact h
          · rw [upd_ne z]
            exact e6 _ _ (old5 h z)
        have h7D : upd H6 d (.dK kvs) D = some (.lst ((candL nd (srcOf rs nd) (resL rs ns) k).map V.int)) := by rw [upd_ne nD]; exact h6D
        generalize upd H6 d (.dK kvs) = H7 at e7 h7D ⊢
        have cn := cand_ne wfn so1 hnj hkj hb
        obtain ⟨c0, ct, hc0⟩ : ∃ c0 ct, candL nd (srcOf rs nd) (resL rs ns) k = c0 :: ct := by
          cases hq : candL nd (srcOf rs nd) (resL rs ns) k with
          | nil => exact absurd hq cn
          | cons a t => exact ⟨a, t, rfl⟩
        have hcm : c0 ∈ candL nd (srcOf rs nd) (resL rs ns) k := by rw [hc0]; exact List.mem_cons_self
        obtain ⟨hck, hcr⟩ := List.mem_filter.mp hcm
        obtain ⟨j', g1, g2, g3⟩ := find c0 hck
        rw [g1] at hcr
        have hcr : k ∈ (resL rs ns).getD j' [] := isin_iff.mp hcr
        have h7g := e7 _ _ h3g
        have new : ∀ q ∈ ps, q.1 ≠ m := fun q hq => by have := hlt q hq; omega
        have lps : ps.length ≤ 25 := by omega
        refine ⟨D, _, 0, .int c0, rfl, rfl, SqL.of h7D, atI_nat (j := 0) (by rw [hc0]; rfl), _, rfl, _, rfl, g, _, rfl, .inl ⟨numK ps, .inl ((m : Nat) : Int), h7g, rfl, sz_lt (by unfold numK; rw [List.length_map]; omega), rfl⟩, ?_⟩
        rw [num_put new]
        have e8 : Ex H2 (upd H7 g (.dK (numK (ps ++ [(m, c0)])))) := (e23.trans e7).mut hg
        have h8g : upd H7 g (.dK (numK (ps ++ [(m, c0)]))) g = some (.dK (numK (ps ++ [(m, c0)]))) := upd_same
        generalize upd H7 g (.dK (numK (ps ++ [(m, c0)]))) = H8 at e8 h8g ⊢
        have lkp : (ps ++ [(m, c0)]).lookup m = some c0 := by
          have : ps.lookup m = none := List.lookup_eq_none_iff.mpr fun q hq => by simpa using (new q hq).symm
          rw [List.lookup_append, this]
          show (none : Option Int).or (List.lookup m [(m, c0)]) = _
          rw [List.lookup_cons_self]
          rfl
        have h8d : H8 d = some (.dK kvs) := by rw [hkvs]; exact e8 _ _ hdd
        refine ⟨_, rfl, _, rfl, p, _, (m : Int), .ref d, rfl, rfl, SqL.of (e8 _ _ hp), atd, _, rfl, _, rfl, g, .int c0, rfl, .inl ⟨_, .inl ((m : Nat) : Int), .inl h8g, rfl, by rw [num_get, lkp]; rfl⟩, d, _, rfl, .inl ⟨kvs, .inl c0, .inl h8d, rfl, g3.symm⟩, ?_⟩
        refine ⟨j', g2, j', ps ++ [(m, c0)], _, rfl, rfl, e8, h8g, by omega, fun q hq => ?_, ?_, ?_, fun q hq => ?_, fun cs hcs k' w' => ?_, hcr⟩
        · rcases List.mem_append.mp hq with hq | hq
          · have := hlt q hq; omega
          · rw [List.mem_singleton.mp hq]; exact g2
        · rw [List.map_append, List.nodup_append]
          refine ⟨hnd, List.pairwise_singleton _ _, fun a ha b' hb' e => ?_⟩
          obtain ⟨q, hq, rfl⟩ := List.mem_map.mp ha
          rw [show b' = m from List.mem_singleton.mp hb'] at e
          exact new q hq e
        · rw [List.length_append]
          show ps.length + 1 + j' ≤ i
          omega
        · rcases List.mem_append.mp hq with hq | hq
          · exact hopt q hq
          · rw [List.mem_singleton.mp hq]
            exact ⟨nd, hnj, (key_give wf1 so1 c0 hck).1⟩
        · refine hch cs (fun q hq => hcs q (List.mem_append_left _ hq)) k' ?_
          exact .give hnj (hcs (m, c0) (List.mem_append_right _ (List.mem_singleton.mpr rfl))) g1 w'
/-! ### a whole choice -/
def compN (rs : List Rw) (ps : Nums) (i : Nat) (nd : Nd) : Int := (ps.lookup i).getD ((optL nd (srcOf rs nd)).headD 0)
def compL (rs : List Rw) (ns : List Nd) (ps : Nums) : List Int := ns.mapIdx (compN rs ps)
theorem comp_at {rs : List Rw} {ns : List Nd} {ps : Nums} {i : Nat} {nd : Nd} (h : ns[i]? = some nd) : (compL rs ns ps)[i]? = some (compN rs ps i nd) := by
  unfold compL
  rw [List.getElem?_mapIdx, h]
  rfl
theorem look_mem {ps : Nums} (h : (ps.map (·.1)).Nodup) : ∀ q ∈ ps, ps.lookup q.1 = some q.2 := by
  induction ps with
  | nil => exact fun _ h => (nomatch h)
  | cons a t ih =>
    intro q hq
    rw [List.map_cons, List.nodup_cons] at h
    obtain ⟨a1, a2⟩ := a
    rcases List.mem_cons.mp hq with rfl | hq
    · exact List.lookup_cons_self
    · rw [List.lookup_cons, show (q.1 == a1) = false by simpa using fun z : q.1 = a1 => h.1 (by show a1 ∈ t.map (·.1); rw [← z]; exact List.mem_map_of_mem hq)]
      exact ih h.2 q hq
theorem comp_ok {rs : List Rw} {ns : List Nd} {ps : Nums} {i : Nat} {k : Key} (h : PathOk rs ns ps i k) : Al2 (ChOk rs) ns (compL rs ns ps) ∧ Way rs ns (compL rs ns ps) i k := by
  have at' : ∀ j nd, ns[j]? = some nd → compN rs ps j nd ∈ optL nd (srcOf rs nd) := fun j nd hj => by
    unfold compN
    cases hq : ps.lookup j with
    | none =>
      show (optL nd (srcOf rs nd)).headD 0 ∈ _
      cases ho : optL nd (srcOf rs nd) with
      | nil =>
        exfalso
        unfold optL at ho
        split at ho
        · cases ho
        · rename_i z; exact z (by rw [ho]; rfl)
      | cons a t => exact List.mem_cons_self
    | some c =>
      have hm : (j, c) ∈ ps := by
        clear h
        induction ps with
        | nil => cases hq
        | cons a t ih =>
          obtain ⟨a1, a2⟩ := a
          by_cases e : j = a1
          · subst e
            rw [List.lookup_cons_self] at hq
            cases hq
            exact List.mem_cons_self
          · rw [List.lookup_cons, show (j == a1) = false by simpa using e] at hq
            exact List.mem_cons_of_mem _ (ih hq)
      obtain ⟨nd', h1, h2⟩ := h.opt _ hm
      rw [hj] at h1
      cases h1
      exact h2
  refine ⟨?_, h.way _ fun q hq => ?_⟩
  · have go : ∀ (l : List Nd) (f : Nat → Nd → Int), (∀ j nd, l[j]? = some nd → f j nd ∈ optL nd (srcOf rs nd)) → Al2 (ChOk rs) l (l.mapIdx f) := by
      intro l
      induction l with
      | nil => exact fun _ _ => .nil
      | cons a t ih =>
        intro f hf
        rw [List.mapIdx_cons]
        exact .cons (hf 0 a rfl) (ih _ fun j nd hj => hf (j + 1) nd hj)
    exact go ns _ at'
  · obtain ⟨nd, h1, _⟩ := h.opt q hq
    rw [comp_at h1]
    unfold compN
    rw [look_mem h.nd q hq]
    rfl
def spComp (K : PySem.W.Frag) (X B S : Addr) : Sp := fun vs H Q E => ∃ x b g ps ns ss rs, vs = [.ref x, .ref b, .ref g] ∧ ExAt X H x ns ∧ BookAt K B S H b ss rs ∧ (∀ nd ∈ ns, WfNd nd ∧ WkNd okS nd ∧ CallOk rs nd) ∧ ns.length ≤ 25 ∧ lackL rs ns = none ∧ H g = some (.dK (numK ps)) ∧
  ∀ p H', Ex H H' → H' p = some (.lst ((compL rs ns ps).map V.int)) → H p = none → Q (.ref p) H'
theorem ok_completed (T : Tx0 w K mg A) : FnOk P w K mg base (L2.CX P w) 16 A.completed A.d_completed p_completed (spComp K A.Expression A.Book A.Signature) := by
  refine T.F_completed.okX sc_completed (fun vs H Q E h => ?_) (fun cdv Ar outer s H vs Q E hr h => ?_)
  · obtain ⟨x, b, g, ps, ns, ss, rs, rfl, _⟩ := h
    rfl
  · obtain ⟨x, b, g, ps, ns, ss, rs, rfl, ex, bk, wf, lz, hl, hg, k⟩ := h
    refine ⟨_, (pss_one (ps_ret (UL.pe_lcE (own := [("at", 3), ("allowed", 4)]) (tt := tYes) rfl rfl rfl sc_completed.nd (UL.PIe.of (pi_enum (by rfl) T.m_enumerate (pa_cons (pe_call (ok_options T) (hr.mono (by decide)) (by rfl) T.g_options T.F_options.kp T.b_options .nil (UL.passX (takes_of rfl rfl rfl rfl)) (pa_cons (pv 0) (pa_cons (pv 1) pa_nil))) pa_nil))) (blkOk_by (N := n_completed) (sc := defScope s_completed) (by decide +kernel)) (fun _ _ _ _ _ => (show PG _ _ (gTup K 2 _) from pg_tup (n := 2) rfl (pgs_cons (pg_name (i := 3) sc_completed.nd rfl (Or.inl rfl)) (pgs_cons (pg_name (i := 4) sc_completed.nd rfl (Or.inl rfl)) pgs_nil)))) (fun _ _ _ _ _ => pts_nil) (fun _ _ _ _ _ _ hx => (pe_dget2 (hu_of hr) (pv 2) (pv 3) (pe_ix (show IxR _ (rIxT K) from ix_tup) (pv 4) pe_int (fun _ _ => rfl)) ⟨rfl, rfl, rfl, rfl⟩))))), ?_⟩
    refine ⟨_, rfl, _, rfl, x, b, ns, ss, rs, rfl, ex, bk, wf, by omega, fun _ p ts H1 e1 hp hts hpn => ⟨p, _, rfl, SqL.of hp, fun D hD => ?_⟩, fun w hw => by rw [hl] at hw; cases hw⟩
    have lts : ts.length = ns.length := hts.len
    have lcL : (compL rs ns ps).length = ns.length := by unfold compL; rw [List.length_mapIdx]
    refine lc_it (walk_enum (xs := ts.map V.ref)) (fun i H' => Ex H1 H' ∧ H' D = some (.lst (((compL rs ns ps).take i).map V.int))) ⟨Ex.new hD, upd_same⟩ (fun i H' _ z => SqL.of (z.1 _ _ hp)) ?_ ?_
    · rintro i y H2 H3 hi ⟨e2, h2D⟩ ⟨Tt, y1, y2, rfl, hT, rfl, h1, h2⟩
      rw [List.length_map] at hi
      cases h1
      obtain ⟨t, ht, rfl⟩ : ∃ t, ts[i]? = some t ∧ V.ref t = y2 := by
        have h3 : (ts.map V.ref)[i]? = some y2 := h2
        rw [List.getElem?_map] at h3
        exact Option.map_eq_some_iff.mp h3
      obtain ⟨nd, hnd, hat⟩ := hts.get i t ht
      have eT := Ex.new (o := .tup [.int (i : Nat), .ref t]) hT
      have e3 := e2.trans eT
      have hat3 : upd H2 Tt (.tup [.int (i : Nat), .ref t]) t = some (.tup ((optL nd (srcOf rs nd)).map V.int)) := e3 _ _ hat
      have hg3 := e3 _ _ (e1 _ _ hg)
      obtain ⟨o0, ot, ho⟩ : ∃ o0 ot, optL nd (srcOf rs nd) = o0 :: ot := by
        cases hq : optL nd (srcOf rs nd) with
        | nil =>
          exfalso
          unfold optL at hq
          split at hq
          · cases hq
          · rename_i z; exact z (by rw [hq]; rfl)
        | cons a t => exact ⟨a, t, rfl⟩
      have ec : (((ps.lookup i).map V.int).getD (V.int o0)) = V.int (compN rs ps i nd) := by
        unfold compN
        rw [ho]
        cases ps.lookup i <;> rfl
      refine ⟨Tt, _, rfl, SqT.of upd_same, rfl, _, _, rfl, _, _, rfl, rfl, rfl, ?_⟩
      refine ⟨_, rfl, g, rfl, .inl ⟨_, .inl hg3⟩, _, rfl, _, rfl, t, _, 0, .int o0, rfl, rfl, SqT.of hat3, atI_nat (j := 0) (by rw [ho]; rfl), _, .inl ⟨_, .inl ((i : Nat) : Int), .inl hg3, rfl, rfl⟩, ?_⟩
      rw [num_get, ec]
      refine ⟨_, eT _ _ h2D, sz_lt (by rw [List.length_map, List.length_take]; omega), e3.mut hD, ?_⟩
      rw [upd_same, List.take_add_one, comp_at hnd, List.map_append]
      rfl
    · rintro H2 ⟨e2, h2D⟩
      rw [List.length_map, lts, ← lcL, List.take_length] at h2D
      exact k D H2 (e1.trans e2) h2D (e1.free' hD)
/-! ### the choice for a result -/
def isKey (v : V) : Option Key := match v with | .int i => some (.inl i) | .str z => some (.inr z) | _ => none
/-- what is wanted -/
def Wtd (v : V) : Prop := (∃ k : Key, v = kV k ∧ ∀ z, k = .inr z → z.length ≤ 2000) ∨ (∃ b, v = .bl b) ∨ v = .non
theorem Wtd.flat {v : V} (h : Wtd v) : flatV v = true := by
  rcases h with ⟨k, rfl, _⟩ | ⟨b, rfl⟩ | rfl
  · exact flat_kV k
  · rfl
  · rfl
theorem Wtd.th {H : Hp} {v : V} (h : Wtd v) : Th H v := by
  rcases h with ⟨k, rfl, hk⟩ | ⟨b, rfl⟩ | rfl
  · cases k with
    | inl i => exact .inr (.inr (.inr (.inl ⟨i, rfl⟩)))
    | inr z => exact .inl ⟨z, rfl, hk z rfl⟩
  · exact .inr (.inr (.inl ⟨b, rfl⟩))
  · exact .inr (.inl rfl)
def spChoose (K : PySem.W.Frag) (X B S UF NW : Addr) : Sp := fun vs H Q E => ∃ x b v ns ss rs, vs = [.ref x, .ref b, v] ∧ ExAt X H x ns ∧ BookAt K B S H b ss rs ∧ (∀ nd ∈ ns, WfNd nd ∧ WkNd okS nd ∧ CallOk rs nd) ∧ WfN ns ∧ ns ≠ [] ∧ ns.length ≤ 25 ∧ Wtd v ∧
  (lackL rs ns = none → (∀ k, v = kV k → k ∉ (resL rs ns).getD (ns.length - 1) []) → ∀ d H', Ex H H' → H' d = some (.xd [("what", v)]) → E (.ref NW) (some d) H') ∧
  (lackL rs ns = none → ∀ k, v = kV k → k ∈ (resL rs ns).getD (ns.length - 1) [] → ∀ p cs H', Ex H H' → H' p = some (.lst (cs.map V.int)) → Al2 (ChOk rs) ns cs → Way rs ns cs (ns.length - 1) k → H p = none → Q (.ref p) H') ∧
  (∀ w, lackL rs ns = some w → ∀ d H', Ex H H' → H' d = some (.xd [("what", .str w)]) → E (.ref UF) (some d) H')
theorem ok_choice_for_result (T : Tx0 w K mg A) : FnOk P w K mg base (L2.CX P w) 19 A.choice_for_result A.d_choice_for_result p_choice_for_result (spChoose K A.Expression A.Book A.Signature A.UnknownFunction A.NoWay) := by
  refine T.F_choice_for_result.okX sc_choice_for_result (fun vs H Q E h => ?_) (fun cdv Ar outer s H vs Q E hr h => ?_)
  · obtain ⟨x, b, v, ns, ss, rs, rfl, _⟩ := h
    rfl
  · obtain ⟨x, b, v, ns, ss, rs, rfl, ex, bk, wf, wfn, nO, lz, wd, k1, k2, k3⟩ := h
    refine ⟨_, (pss_cons (ps_set (i := 3) sc_choice_for_result.nd rfl (Or.inl rfl) (pe_op op_sub (pe_callB (UL.call_lenOwn (ok_ex_len T) (hr.mono (by decide)) T.e_ex_len.at_ T.e_ex_len.fn T.b_ex_len pass0) (by rfl) T.m_len PySem.boot_len (pa_cons (pv 0) pa_nil)) pe_int))
      (pss_cons (ps_set (i := 4) sc_choice_for_result.nd rfl (Or.inl rfl) (pe_ix ix_list (pe_call (ok_results T) (hr.mono (by decide)) (by rfl) T.g_results T.F_results.kp T.b_results .nil (UL.passX (takes_of rfl rfl rfl rfl)) (pa_cons (pv 0) (pa_cons (pv 1) pa_nil))) (pv 3) (fun _ _ => rfl)))
      (pss_cons (ps_if (PW.pt (pw_or (PW.pt (pw_and (pt_not (pt_val (pe_callB call_isi (by rfl) T.m_isinstance (by decide +kernel) (pa_cons (pv 2) (pa_cons (pe_bltn (v := .ty "str") (u := .type "str") (by rfl) T.m_str (by decide +kernel) rfl) pa_nil))))) (pw_and1 (pt_not (pt_val (pe_call (ok_is_whole T) (hr.mono (by decide)) (by rfl) T.g_is_whole T.F_is_whole.kp T.b_is_whole .nil pass0 (pa_cons (pv 2) pa_nil))))))) (pw_or1 (pt_cmpR op_notIn_seq (pv 2) (pv 4) (by rfl))))) (pss_one (ps_raise rfl (takes_of rfl rfl rfl rfl) (pmk_oex T.ex_NoWay.ox T.ex_NoWay.ii T.ti_lives_init (ok_lives_init T) (hr.mono (by decide)) T.b_lives_init .nil pass0 (by rfl) T.g_NoWay (pa_cons (pv 2) pa_nil)))) pss_nil)
      (pss_one (ps_ret (pe_call (ok_completed T) (hr.mono (by decide)) (by rfl) T.g_completed T.F_completed.kp T.b_completed .nil (UL.passX (takes_of rfl rfl rfl rfl)) (pa_cons (pv 0) (pa_cons (pv 1) (pa_cons (pe_call (ok_numbers_for T) (hr.mono (by decide)) (by rfl) T.g_numbers_for T.F_numbers_for.kp T.b_numbers_for .nil (UL.passX (takes_of rfl rfl rfl rfl)) (pa_cons (pv 0) (pa_cons (pv 1) (pa_cons (pv 3) (pa_cons (pv 2) pa_nil))))) pa_nil))))))))), ?_⟩
    have hnp : 0 < ns.length := List.length_pos_iff.mpr nO
    have eN : ((ns.length : Nat) : Int) - 1 = ((ns.length - 1 : Nat) : Int) := by omega
    obtain ⟨dx, t0, f0, as0, hx, _⟩ := id ex
    refine ⟨_, rfl, x, dx, _, rfl, hx, x, ns, rfl, ex, _, rfl, by omega, by omega, _, 1, rfl, rfl, ?_⟩
    refine ⟨_, rfl, _, rfl, x, b, ns, ss, rs, rfl, ex, bk, wf, wfn, by omega, fun hl F fs H1 e1 hF hfs hFn => ?_, k3⟩
    have lfs : fs.length = ns.length := by rw [hfs.len, res_len]
    obtain ⟨r, hr0⟩ : ∃ r, fs[ns.length - 1]? = some r := ⟨_, List.getElem?_eq_getElem (by omega)⟩
    obtain ⟨ks, hks, hkr⟩ := hfs.get _ r hr0
    have hr1 : H1 r = some (.lst (ks.map kV)) := hkr.1
    have eks : (resL rs ns).getD (ns.length - 1) [] = ks := by rw [List.getD_eq_getElem?_getD, hks]; rfl
    rw [eks] at k1 k2
    have atr : atI (fs.map V.ref) (((ns.length : Nat) : Int) - 1) = some (.ref r) := by
      rw [eN]
      exact atI_nat (by rw [List.getElem?_map, hr0]; rfl)
    refine ⟨_, rfl, F, _, _, .ref r, rfl, rfl, SqL.of hF, atr, ?_⟩
    -- what follows where it is there, and where not
    have no : (∀ k, v = kV k → k ∉ ks) → ∀ {tQ : VK}, tMkO A.NoWay (spWhat K) [] (tCons (tVar 2) tNil) [some (.ref x), some (.ref b), some v, some (.int (((ns.length : Nat) : Int) - 1)), some (.ref r)] H1 fun cls d H' => E cls d H' := fun h _ => ⟨_, rfl, (by show 1 ≤ 1000; decide), raise_what T.ex_NoWay wd.flat fun d H' e' hd => k1 hl h d H' (e1.trans e') hd⟩
    have yes : ∀ k, v = kV k → k ∈ ks → tRet (tCall (spComp K A.Expression A.Book A.Signature) [] E (tCons (tVar 0) (tCons (tVar 1) (tCons (tCall (spNums K A.Expression A.Book A.Signature) [] E (tCons (tVar 0) (tCons (tVar 1) (tCons (tVar 3) (tCons (tVar 2) tNil))))) tNil)))) { nx := fun x H' => Q V.non H', rt := Q } [some (.ref x), some (.ref b), some v, some (.int (((ns.length : Nat) : Int) - 1)), some (.ref r)] H1 := fun k hk hm => by
      refine ⟨_, rfl, _, rfl, _, rfl, _, rfl, _, rfl, _, rfl, x, b, ns.length - 1, k, ns, ss, rs, by rw [eN, hk]; rfl, ex.mono e1, bk.mono e1, wf, wfn, lz, hl, by omega, by rw [eks]; exact hm, fun g ps H2 e2 hg hp hgn => ?_⟩
      obtain ⟨c1, c2⟩ := comp_ok hp
      exact ⟨x, b, g, ps, ns, ss, rs, rfl, ex.mono (e1.trans e2), bk.mono (e1.trans e2), wf, lz, hl, hg, fun p H3 e3 hp3 hpn => k2 hl k hk hm p _ H3 ((e1.trans e2).trans e3) hp3 c1 c2 ((e1.trans e2).free' hpn)⟩
    have both : ∀ k, v = kV k → tTest (tOp (rIn K true) (tVar 2) (tVar 4)) [some (.ref x), some (.ref b), some v, some (.int (((ns.length : Nat) : Int) - 1)), some (.ref r)] H1 fun c H' => if c = true then tMkO A.NoWay (spWhat K) [] (tCons (tVar 2) tNil) [some (.ref x), some (.ref b), some v, some (.int (((ns.length : Nat) : Int) - 1)), some (.ref r)] H' (fun cls d H' => E cls d H') else tRet (tCall (spComp K A.Expression A.Book A.Signature) [] E (tCons (tVar 0) (tCons (tVar 1) (tCons (tCall (spNums K A.Expression A.Book A.Signature) [] E (tCons (tVar 0) (tCons (tVar 1) (tCons (tVar 3) (tCons (tVar 2) tNil))))) tNil)))) { nx := fun x H' => Q V.non H', rt := Q } [some (.ref x), some (.ref b), some v, some (.int (((ns.length : Nat) : Int) - 1)), some (.ref r)] H' := fun k hk => by
      subst hk
      refine ⟨_, rfl, _, rfl, r, _, rfl, .inl (SqL.of hr1), flat_kV k, flat_kVs ks, _, rfl, ?_⟩
      rw [if_pos rfl, inV_kV]
      cases hi : isin ks k with
      | true => exact iteF (yes k rfl (isin_iff.mp hi))
      | false => exact iteT (no (fun k' e hm => by rw [← UL.kV_inj e] at hm; rw [isin_iff.mpr hm] at hi; cases hi) (tQ := Q))
    rcases wd with ⟨k, rfl, hkl⟩ | ⟨c, rfl⟩ | rfl
    · cases k with
      | inr z => exact ⟨_, rfl, .str z, _, _, _, true, rfl, .ty "str", .base (.str z), kit_ty (r := true) (by decide +kernel), _, rfl, iteF (iteF (both (.inr z) rfl))⟩
      | inl i => exact ⟨_, rfl, .int i, _, _, _, false, rfl, .ty "str", .base (.int i), kit_ty (r := false) (by decide +kernel), _, rfl, iteT ⟨_, rfl, .int i, rfl, .inr (.inr (.inr (.inl ⟨i, rfl⟩))), _, rfl, iteF (both (.inl i) rfl)⟩⟩
    · exact ⟨_, rfl, .bl c, _, _, _, false, rfl, .ty "str", .base (.bl c), kit_ty (r := false) (by decide +kernel), _, rfl, iteT ⟨_, rfl, .bl c, rfl, .inr (.inr (.inl ⟨c, rfl⟩)), _, rfl, iteT (iteT (no (fun k e => by cases k <;> cases e) (tQ := Q)))⟩⟩
    · exact ⟨_, rfl, .non, _, _, _, false, rfl, .ty "str", .base .non, kit_ty (r := false) (by decide +kernel), _, rfl, iteT ⟨_, rfl, .non, rfl, .inr (.inl rfl), _, rfl, iteT (iteT (no (fun k e => by cases k <;> cases e) (tQ := Q)))⟩⟩
end
end K18

set_option Elab.async false
set_option linter.all false
set_option maxRecDepth 100000
namespace K18
open PySem PySem.Spec PyProof.Rows L2 Evl TL UL StX
section
variable {P : Program} {w : World} {K : PySem.W.Frag} {mg : Str → Option Value} {base : Heap} {A : Adr}
/-! ### the law's sources -/
def lkS (rs : List Rw) (w : Str) : List Int := ((rs.lookup w).map (·.2)).getD []
def spSourcesL : Sp := fun vs H Q _ => ∃ fn as rs w, vs = [.ref fn, .str w] ∧ RowsAt H fn as rs ∧ ∀ q H', Ex H H' → H' q = some (.lst ((lkS rs w).map V.int)) → Q (.ref q) H'
theorem ok_sources (T : Tx0 w K mg A) : FnOk P w K mg base CX0 1 A.sources A.d_sources p_sources spSourcesL := by
  refine T.F_sources.ok sc_sources (fun vs H Q E h => ?_) (fun cdv Ar outer s H vs Q E hr h => ?_)
  · obtain ⟨fn, as, rs, w, rfl, _⟩ := h
    rfl
  · obtain ⟨fn, as, rs, w1, rfl, ⟨hfn, hrs⟩, k⟩ := h
    refine ⟨_, (pss_cons (ps_for PassesOwn.never rfl (pi_list (pv 0)) (pg_name (i := 2) sc_sources.nd rfl (Or.inl rfl)) (pss_one (ps_if (pt_cmpR op_eq (pe_ix ix_list (pv 2) pe_int (fun _ _ => rfl)) (pv 1) (nomark _)) (pss_one (ps_ret (pe_ix ix_list (pv 2) pe_int (fun _ _ => rfl)))) pss_nil)))
      (pss_one (ps_ret (pe_lst pa_nil)))), ?_⟩
    have ll : as.length = rs.length := hrs.len
    refine ⟨_, rfl, fn, rfl, ⟨_, SqL.of hfn⟩, ?_⟩
    refine for_it (walk_list (xs := as.map V.ref)) (fun i σ' H' => ∃ v2, σ' = [some (.ref fn), some (.str w1), v2] ∧ H' = H ∧ (rs.take i).lookup w1 = none) ⟨_, rfl, rfl, rfl⟩ (fun i σ' H' _ ⟨_, _, e, _⟩ => by rw [e]; exact SqL.of hfn) ?_ ?_
    · rintro i x σ' H1 H2 hi ⟨v2, rfl, rfl, hl⟩ ⟨rfl, hx⟩
      obtain ⟨a, ha, rfl⟩ : ∃ a, as[i]? = some a ∧ V.ref a = x := by
        rw [List.getElem?_map] at hx
        exact Option.map_eq_some_iff.mp hx
      obtain ⟨r, hr, m, h1, h2⟩ := hrs.at' ha
      have htk : rs.take (i + 1) = rs.take i ++ [r] := by rw [List.take_add_one, hr]; rfl
      refine ⟨_, rfl, a, _, 0, .str r.1, rfl, rfl, SqL.of h1, atI_nat (j := 0) rfl, _, rfl, rfl, _, rfl, ?_⟩
      rw [str_eqb]
      by_cases e : r.1 = w1
      · rw [decide_eq_true e]
        refine iteT ⟨_, rfl, a, _, 2, .ref m, rfl, rfl, SqL.of h1, atI_nat (j := 2) rfl, k m _ (Ex.refl _) ?_⟩
        have hlk : rs.lookup w1 = some r.2 := by
          have e2 : rs = rs.take (i + 1) ++ rs.drop (i + 1) := (List.take_append_drop _ _).symm
          rw [e2, htk, List.append_assoc, List.lookup_append, hl, Option.none_or]
          show ((r.1, r.2) :: rs.drop (i + 1)).lookup w1 = some r.2
          rw [e, List.lookup_cons_self]
        rw [lkS, hlk]
        exact h2
      · rw [decide_eq_false e]
        refine iteF ⟨_, rfl, rfl, ?_⟩
        rw [htk, List.lookup_append, hl, Option.none_or]
        show (match w1 == r.1 with | true => some r.2 | false => none) = none
        rw [show (w1 == r.1) = false by simpa using fun z : w1 = r.1 => e z.symm]
    · rintro σ' H' ⟨v2, rfl, rfl, hl⟩
      rw [List.length_map, ll, List.take_length] at hl
      refine ⟨sz_of (by show 0 ≤ 100000; decide), fun q hq => k q _ (Ex.new (o := .lst []) hq) ?_⟩
      rw [lkS, hl]
      exact upd_same
/-! ### other sources -/
def cntL (m : Nat) : List Int := (List.range m).map fun j : Nat => (j : Int) + 1
def compl (n : Int) (ss : List Int) : List Int := (cntL n.toNat).filter fun s => !decide (s ∈ ss)
theorem cnt_succ (m : Nat) : cntL (m + 1) = cntL m ++ [(m : Int) + 1] := by
  unfold cntL
  rw [List.range_succ, List.map_append]
  rfl
theorem inV_is (s : Int) (ss : List Int) : inV (.int s) (ss.map V.int) = decide (s ∈ ss) := by
  unfold inV
  rw [List.any_map]
  by_cases h : s ∈ ss
  · rw [decide_eq_true h, List.any_eq_true]
    exact ⟨s, h, by show (s == s) = true; exact beq_self_eq_true s⟩
  · rw [decide_eq_false h, List.any_eq_false]
    intro y hy e
    have e1 : (y == s) = true := e
    exact h (by rw [← (beq_iff_eq.mp e1)]; exact hy)
theorem flat_is (ss : List Int) : (ss.map V.int).all flatV = true := by
  rw [List.all_map]
  exact List.all_eq_true.mpr fun _ _ => rfl
def othR (g : Int) (k : Nat) (r : Rw) : Rw := if (k : Int) = g then (r.1, r.2.1, compl r.2.1 r.2.2) else r
def othersL (g : Int) (rs : List Rw) : List Rw := rs.mapIdx (othR g)
def spOthers : Sp := fun vs H Q _ => ∃ fn as rs g, vs = [.ref fn, .int g] ∧ RowsAt H fn as rs ∧ (∀ r ∈ rs, 0 ≤ r.2.1 ∧ r.2.1 ≤ 4) ∧ rs.length ≤ 20 ∧ ∀ p as' H', Ex H H' → RowsAt H' p as' (othersL g rs) → H p = none → Q (.ref p) H'
theorem ok_others (T : Tx0 w K mg A) : FnOk P w K mg base CX0 1 A.others A.d_others p_others spOthers := by
  refine T.F_others.ok sc_others (fun vs H Q E h => ?_) (fun cdv Ar outer s H vs Q E hr h => ?_)
  · obtain ⟨fn, as, rs, g, rfl, _⟩ := h
    rfl
  · obtain ⟨fn, as, rs, g, rfl, ⟨hfn, hrs⟩, hc, hl, k⟩ := h
    refine ⟨_, (pss_cons (ps_set (i := 2) sc_others.nd rfl (Or.inl rfl) (pe_lst pa_nil))
      (pss_cons (ps_for PassesOwn.never rfl (pi_range1 (by rfl) T.m_range (pa_cons (pe_callB call_len_seq (by rfl) T.m_len PySem.boot_len (pa_cons (pv 0) pa_nil)) pa_nil)) (pg_name (i := 3) sc_others.nd rfl (Or.inl rfl)) (pss_cons (ps_set (i := 4) sc_others.nd rfl (Or.inr rfl) (pe_ix ix_list (pv 0) (pv 3) (fun _ _ => rfl)))
        (pss_cons (ps_if (pt_cmpR op_eq (pv 3) (pv 1) (nomark _)) (pss_one (ps_set (i := 4) sc_others.nd rfl (Or.inr rfl) (pe_lst (pa_cons (pe_ix ix_list (pv 4) pe_int (fun _ _ => rfl)) (pa_cons (pe_ix ix_list (pv 4) pe_int (fun _ _ => rfl)) (pa_cons (pe_lc (own := [("_law_j", 5)]) (g := gName 5) rfl sc_others.nd (pi_range1 (by rfl) T.m_range (pa_cons (pe_ix ix_list (pv 4) pe_int (fun _ _ => rfl)) pa_nil)) (blkOk_by (N := n_others) (sc := defScope s_others) (by decide +kernel)) (fun _ _ _ _ _ => pg_name (i := 5) sc_others.nd rfl (Or.inl rfl)) (fun _ _ _ _ _ => pts_one (pt_cmpR (show OpR _ _ (rIn K true) from op_notIn_seq) (pe_op op_add (pv 5) pe_int) (pe_ix (show IxR _ (rIxL K) from ix_list) (pv 4) pe_int (fun _ _ => rfl)) (by rfl))) (fun _ _ _ _ _ => (pe_op op_add (pv 5) pe_int))) pa_nil)))))) pss_nil)
        (pss_one (ps_expr (pe_bm PySem.F.plainAttrs_list PySem.F.slot_list_append PySem.F.type_list_append mt_append (pv 2) (pa_cons (pv 4) pa_nil)))))))
      (pss_one (ps_ret (pv 2))))), ?_⟩
    have ll : as.length = rs.length := hrs.len
    refine ⟨Nat.zero_le _, fun p hp => ?_⟩
    have e1 := Ex.new (o := .lst []) hp
    refine ⟨_, rfl, fn, _, rfl, .inl (SqL.of (e1 _ _ hfn)), _, rfl, ?_⟩
    refine forR1 ⟨by rw [List.length_map]; omega, by rw [List.length_map]; omega⟩ (fun i σ' H' => ∃ v3 v4 v5 as', σ' = [some (.ref fn), some (.int g), some (.ref p), v3, v4, v5] ∧ Ex H H' ∧ RowsAt H' p as' ((othersL g rs).take i)) ⟨none, none, none, [], rfl, e1, ⟨upd_same, .nil⟩⟩ ?_ ?_
    · rintro i σ' H1 hi ⟨v3, v4, v5, as', rfl, e2, ⟨hp2, hr2⟩⟩
      have hi' : i < rs.length := by rw [List.length_map] at hi; omega
      obtain ⟨a, ha, m, h1, h2⟩ := hrs.at (List.getElem?_eq_getElem hi')
      obtain ⟨r, hr⟩ : ∃ r, r = rs[i] := ⟨_, rfl⟩
      rw [← hr] at h1 h2
      have hri : rs[i]? = some r := by rw [hr]; exact List.getElem?_eq_getElem hi'
      have h1' := e2 _ _ h1
      have h2' := e2 _ _ h2
      obtain ⟨c0, c4⟩ := hc r (List.mem_of_getElem? hri)
      have oi : (othersL g rs).take (i + 1) = (othersL g rs).take i ++ [othR g i r] := by
        rw [List.take_add_one, othersL, List.getElem?_mapIdx, hri]
        rfl
      have len : as'.length < 100000 := by
        rw [hr2.len, List.length_take]
        omega
      have fin : ∀ (b : Addr) (v5' : Option V) (H3 : Hp), Ex H1 H3 → H3 p = some (.lst (as'.map V.ref)) → RowAt (upd H3 p (.lst (as'.map V.ref ++ [.ref b]))) b (othR g i r) → ∃ v3 v4 v5 as'', [some (.ref fn), some (.int g), some (.ref p), some (.int (i : Int)), some (.ref b), v5'] = [some (.ref fn), some (.int g), some (.ref p), v3, v4, v5] ∧ Ex H (upd H3 p (.lst (as'.map V.ref ++ [.ref b]))) ∧ RowsAt (upd H3 p (.lst (as'.map V.ref ++ [.ref b]))) p as'' ((othersL g rs).take (i + 1)) := fun b v5' H3 e3 hp3 hb => by
        refine ⟨_, _, _, as' ++ [b], rfl, (e2.trans e3).mut hp, by rw [upd_same, List.map_append]; rfl, ?_⟩
        rw [oi]
        exact (rows_upd hp3 (rows_mono e3 hr2)).snoc hb
      refine ⟨_, rfl, _, rfl, fn, _, (i : Int), .ref a, rfl, rfl, SqL.of (e2 _ _ hfn), atI_nat (by rw [List.getElem?_map, ha]; rfl), ?_⟩
      refine ⟨_, rfl, _, rfl, rfl, _, rfl, ite2 (fun hg => ?_) (fun hg => ?_)⟩
      · have hg : (i : Int) = g := V.int.inj (of_decide_eq_true hg)
        refine ⟨_, rfl, a, _, 0, .str r.1, rfl, rfl, SqL.of h1', atI_nat (j := 0) rfl, _, rfl, a, _, 1, .int r.2.1, rfl, rfl, SqL.of h1', atI_nat (j := 1) rfl, ?_⟩
        refine ⟨_, rfl, a, _, 1, .int r.2.1, rfl, rfl, SqL.of h1', atI_nat (j := 1) rfl, r.2.1, rfl, by omega, by omega, fun D hD => ?_⟩
        refine lc_range (lo := 0) (n := r.2.1.toNat) (fun j H' => Ex H1 H' ∧ H' D = some (.lst (((cntL j).filter fun s => !decide (s ∈ r.2.2)).map V.int))) ⟨Ex.new hD, upd_same⟩ ?_ ?_
        · rintro j H4 hj ⟨e3, hD4⟩
          have z0 : (0 : Int) + (j : Int) = (j : Int) := Int.zero_add _
          refine ⟨rfl, ?_⟩
          rw [z0]
          refine ⟨_, rfl, (j : Int), 1, rfl, rfl, _, rfl, a, _, 2, .ref m, rfl, rfl, SqL.of (e3 _ _ h1'), atI_nat (j := 2) rfl, m, _, rfl, .inl (SqL.of (e3 _ _ h2')), rfl, flat_is _, _, rfl, ?_⟩
          rw [show (if true = true then !inV (V.int ((j : Int) + 1)) (r.2.2.map V.int) else inV (V.int ((j : Int) + 1)) (r.2.2.map V.int)) = !decide ((j : Int) + 1 ∈ r.2.2) by rw [if_pos rfl, inV_is]]
          cases hb : !decide ((j : Int) + 1 ∈ r.2.2) with
          | true =>
            refine iteT ⟨_, rfl, (j : Int), 1, rfl, rfl, _, hD4, ?_, e3.mut hD, ?_⟩
            · refine sz_lt ?_
              rw [List.length_map]
              refine Nat.lt_of_le_of_lt (List.length_filter_le _ _) ?_
              unfold cntL
              rw [List.length_map, List.length_range]
              omega
            · rw [upd_same, cnt_succ, List.filter_append, List.map_append, List.filter_cons, hb, if_pos rfl]
              rfl
          | false =>
            refine iteF ⟨e3, ?_⟩
            rw [hD4, cnt_succ, List.filter_append, List.filter_cons, hb, if_neg Bool.false_ne_true, List.filter_nil, List.append_nil]
        · rintro H4 ⟨e3, hD4⟩
          have hD4 : H4 D = some (.lst ((compl r.2.1 r.2.2).map V.int)) := hD4
          refine ⟨sz_of (by show 3 ≤ 100000; decide), fun q hq => ?_⟩
          have e4 := Ex.new (o := .lst [.str r.1, .int r.2.1, .ref D]) hq
          have hp4 := e4 _ _ (e3 _ _ hp2)
          have nq : q ≠ p := (ne_of_none (e3 _ _ hp2) hq).symm
          have nD : D ≠ p := (ne_of_none hp2 hD).symm
          refine ⟨_, rfl, .inl ⟨rfl, _, SqL.of hp4⟩, _, rfl, p, _, _, rfl, rfl, hp4, sz_lt (by rw [List.length_map]; exact len), ?_⟩
          refine fin q _ _ (e3.trans e4) hp4 ?_
          rw [show othR g i r = (r.1, r.2.1, compl r.2.1 r.2.2) from if_pos hg]
          exact ⟨D, by rw [upd_ne nq]; exact upd_same, by rw [upd_ne nD]; exact e4 _ _ hD4⟩
      · have hg : ¬ (i : Int) = g := fun z => hg (decide_eq_true (congrArg V.int z))
        refine ⟨_, rfl, .inl ⟨rfl, _, SqL.of hp2⟩, _, rfl, p, _, _, rfl, rfl, hp2, sz_lt (by rw [List.length_map]; exact len), ?_⟩
        refine fin a _ _ (Ex.refl _) hp2 ?_
        rw [show othR g i r = r from if_neg hg]
        exact ⟨m, by rw [upd_ne (ne_of_none h1 hp)]; exact h1', by rw [upd_ne (ne_of_none h2 hp)]; exact h2'⟩
    · rintro σ' H1 ⟨v3, v4, v5, as', rfl, e2, hr2⟩
      rw [Int.toNat_natCast, List.length_map, ll, show rs.length = (othersL g rs).length from List.length_mapIdx.symm, List.take_length] at hr2
      exact ⟨_, rfl, k p as' H1 e2 hr2 hp⟩
/-! ### rows without one, rows with other sources -/
theorem al2_map {α β γ : Type} {R : α → γ → Prop} {f : β → γ} {as : List α} {bs : List β} (h : Al2 (fun a b => R a (f b)) as bs) : Al2 R as (bs.map f) := by
  induction h with
  | nil => exact .nil
  | cons h _ ih => exact .cons h ih
theorem all2_erase {α β : Type} {R : α → β → Prop} : ∀ {as : List α} {bs : List β}, All2 R as bs → ∀ i, All2 R (as.eraseIdx i) (bs.eraseIdx i)
  | _, _, .nil, _ => .nil
  | _, _, .cons _ t, 0 => t
  | _, _, .cons h t, i + 1 => .cons h (all2_erase t i)
theorem erase_step {α : Type} {l : List α} {x : α} {i g : Nat} (hx : l[i]? = some x) : (l.take (i + 1)).eraseIdx g = if i = g then (l.take i).eraseIdx g else (l.take i).eraseIdx g ++ [x] := by
  have hlt := (List.getElem?_eq_some_iff.mp hx).1
  have ln : (l.take i).length = i := by rw [List.length_take]; omega
  rw [List.take_add_one, hx]
  show (l.take i ++ [x]).eraseIdx g = _
  by_cases h : i = g
  · rw [if_pos h, List.eraseIdx_append_of_length_le (by omega), ln, h, Nat.sub_self, List.eraseIdx_of_length_le (l := l.take g) (by rw [List.length_take]; omega)]
    simp
  · rw [if_neg h]
    by_cases h2 : g < i
    · rw [List.eraseIdx_append_of_lt_length (by omega)]
    · rw [List.eraseIdx_append_of_length_le (by omega), List.eraseIdx_of_length_le (l := [x]) (by rw [ln]; show 1 ≤ _; omega), List.eraseIdx_of_length_le (l := l.take i) (by omega)]
theorem fit_erase {rs : List Rw} (f : Fit rs) (g : Nat) : Fit (rs.eraseIdx g) := by
  have sub : (rs.eraseIdx g).Sublist rs := List.eraseIdx_sublist rs g
  exact ⟨fun r hr => f.gd r (sub.subset hr), fun r hr => f.nn r (sub.subset hr), f.nd.sublist (sub.map _), Nat.le_trans sub.length_le f.ln⟩
theorem oth_name (g : Int) (k : Nat) (r : Rw) : (othR g k r).1 = r.1 ∧ (othR g k r).2.1 = r.2.1 := by
  unfold othR
  by_cases h : (k : Int) = g
  · rw [if_pos h]
    exact ⟨rfl, rfl⟩
  · rw [if_neg h]
    exact ⟨rfl, rfl⟩
theorem compl_asc (n : Int) (ss : List Int) (h0 : 0 ≤ n) : Asc n (compl n ss) := by
  have a : ∀ m : Nat, (cntL m).Pairwise (· < ·) ∧ ∀ x ∈ cntL m, 1 ≤ x ∧ x ≤ (m : Int) := by
    intro m
    induction m with
    | zero => exact ⟨List.Pairwise.nil, fun x hx => (nomatch hx)⟩
    | succ m ih =>
      rw [cnt_succ]
      refine ⟨?_, fun x hx => ?_⟩
      · rw [List.pairwise_append]
        refine ⟨ih.1, List.pairwise_singleton _ _, fun x hx y hy => ?_⟩
        rw [List.mem_singleton.mp hy]
        have := (ih.2 x hx).2
        omega
      · rcases List.mem_append.mp hx with h | h
        · have := ih.2 x h
          omega
        · rw [List.mem_singleton.mp h]
          omega
  refine ⟨(a n.toNat).1.sublist List.filter_sublist, fun x hx => ?_⟩
  have := (a n.toNat).2 x ((List.mem_filter.mp hx).1)
  omega
theorem oth_good {g : Int} {k : Nat} {r : Rw} (h : good r) : good (othR g k r) := by
  unfold othR
  by_cases e : (k : Int) = g
  · rw [if_pos e]
    exact ⟨h.1, h.2.1, compl_asc _ _ h.2.1.1⟩
  · rw [if_neg e]
    exact h
theorem oth_names (g : Int) (rs : List Rw) : (othersL g rs).map (·.1) = rs.map (·.1) := by
  refine List.ext_getElem? fun i => ?_
  rw [List.getElem?_map, List.getElem?_map, othersL, List.getElem?_mapIdx]
  cases rs[i]? with
  | none => rfl
  | some r => exact congrArg some (oth_name g i r).1
theorem oth_two {g : Int} {rs : List Rw} (h : 2 ≤ g) : ∃ rs', othersL g (newR :: copyR :: rs) = newR :: copyR :: rs' ∧ rs' = rs.mapIdx fun k r => othR g (k + 2) r := by
  refine ⟨_, ?_, rfl⟩
  unfold othersL
  rw [List.mapIdx_cons, List.mapIdx_cons, show othR g 0 newR = newR from if_neg (by omega), show othR g (0 + 1) copyR = copyR from if_neg (by omega)]
theorem fit_oth {g : Int} {rs : List Rw} (f : Fit rs) : Fit (rs.mapIdx fun k r => othR g (k + 2) r) := by
  have nm : (rs.mapIdx fun k r => othR g (k + 2) r).map (·.1) = rs.map (·.1) := by
    refine List.ext_getElem? fun i => ?_
    rw [List.getElem?_map, List.getElem?_map, List.getElem?_mapIdx]
    cases rs[i]? with
    | none => rfl
    | some r => exact congrArg some (oth_name g (i + 2) r).1
  have at' : ∀ r' ∈ rs.mapIdx fun k r => othR g (k + 2) r, ∃ k r, r ∈ rs ∧ r' = othR g k r := fun r' hr => by
    obtain ⟨i, hi, e⟩ := List.mem_mapIdx.mp hr
    exact ⟨_, _, List.getElem_mem hi, e.symm⟩
  refine ⟨fun r hr => ?_, fun r hr => ?_, by rw [nm]; exact f.nd, by rw [List.length_mapIdx]; exact f.ln⟩
  · obtain ⟨k, r0, hm, rfl⟩ := at' r hr
    exact oth_good (f.gd r0 hm)
  · obtain ⟨k, r0, hm, rfl⟩ := at' r hr
    rw [(oth_name g k r0).1]
    exact f.nn r0 hm
/-! ### nodes and rows -/
theorem call_ok {RS : List Rw} {nd : Nd} (nn : (RS.map (·.1)).Nodup) (h : CallIn RS nd) : CallOk RS nd ∧ lacks RS nd = none := by
  cases nd with
  | name w => exact ⟨trivial, rfl⟩
  | op w os => exact ⟨trivial, rfl⟩
  | call w os =>
    obtain ⟨r, hr, h1, h2⟩ := h
    refine ⟨fun r' hr' e => ?_, if_pos (List.mem_map.mpr ⟨r, hr, h1⟩)⟩
    rw [one_name nn hr' hr (e.trans h1.symm)]
    exact h2
theorem call_sub {RS RS' : List Rw} {nd : Nd} (h : CallOk RS nd) (sub : ∀ r ∈ RS', ∃ r0 ∈ RS, r0.1 = r.1 ∧ r0.2.1 = r.2.1) : CallOk RS' nd := by
  cases nd with
  | name w => trivial
  | op w os => trivial
  | call w os =>
    intro r hr e
    obtain ⟨r0, h0, h1, h2⟩ := sub r hr
    rw [← h2]
    exact h r0 h0 (h1.trans e)
theorem src_same {RS RS' : List Rw} {nd : Nd} (n1 : (RS.map (·.1)).Nodup) (n2 : (RS'.map (·.1)).Nodup) (sub : ∀ r ∈ RS', r ∈ RS) (h : lacks RS' nd = none) : srcOf RS' nd = srcOf RS nd := by
  cases nd with
  | name w => rfl
  | op w os => rfl
  | call w os =>
    have h : (if w ∈ RS'.map (·.1) then none else some w) = none := h
    by_cases hm : w ∈ RS'.map (·.1)
    · obtain ⟨r, hr, rfl⟩ := List.mem_map.mp hm
      show ((RS'.lookup r.1).map (·.2)).getD [] = ((RS.lookup r.1).map (·.2)).getD []
      rw [lookup_row n2 hr, lookup_row n1 (sub r hr)]
    · rw [if_neg hm] at h
      cases h
theorem lack_all {RS : List Rw} {ns : List Nd} (h : ∀ nd ∈ ns, lacks RS nd = none) : lackL RS ns = none := List.findSome?_eq_none_iff.mpr h
theorem lack_none {RS : List Rw} {ns : List Nd} (h : lackL RS ns = none) : ∀ nd ∈ ns, lacks RS nd = none := List.findSome?_eq_none_iff.mp h
theorem lacks_names {RS RS' : List Rw} {nd : Nd} (h : RS.map (·.1) = RS'.map (·.1)) : lacks RS nd = lacks RS' nd := by
  cases nd with
  | name w => rfl
  | op w os => rfl
  | call w os =>
    show (if w ∈ RS.map (·.1) then none else some w) = (if w ∈ RS'.map (·.1) then none else some w)
    rw [h]
theorem opt_ne (nd : Nd) (ss : List Int) : optL nd ss ≠ [] := by
  unfold optL
  cases h : (keysL nd ss).isEmpty with
  | true => rw [if_pos rfl]; simp
  | false =>
    rw [if_neg Bool.false_ne_true]
    intro e
    rw [e] at h
    cases h
theorem opt_len {nd : Nd} {ss : List Int} (h : ss.length ≤ 900) : (optL nd ss).length ≤ 1000 := by
  unfold optL
  cases (keysL nd ss).isEmpty with
  | true => rw [if_pos rfl]; simp
  | false =>
    rw [if_neg Bool.false_ne_true]
    cases nd with
    | name w => show 0 ≤ 1000; omega
    | call w os => show ss.length ≤ 1000; omega
    | op w os =>
      show (if w = "pick" then ([1, 2] : List Int) else [0]).length ≤ 1000
      by_cases e : w = "pick"
      · rw [if_pos e]; decide
      · rw [if_neg e]; decide
end
end K18

set_option Elab.async false
set_option linter.all false
set_option maxRecDepth 100000
namespace K18
open PySem PySem.Spec PyProof.Rows L2 Evl TL UL StX
section
variable {P : Program} {w : World} {K : PySem.W.Frag} {mg : Str → Option Value} {base : Heap} {A : Adr}
/-! ### the law's own results -/
def partsL (nd : Nd) (ss : List Int) (i : Nat) (ls : List (List Key)) : List (List Key) := if (givJ nd ss).isEmpty = true then [[ownK nd i]] else (givJ nd ss).map fun j => ls.getD j []
structure Same (L R : List (List Key)) : Prop where
  len : L.length = R.length
  nd : ∀ ks ∈ L, ks.Nodup
  mem : ∀ (i : Nat) (k : Key), k ∈ L.getD i [] ↔ k ∈ R.getD i []
theorem getD_app {L : List (List Key)} {x : List Key} {i : Nat} : (L ++ [x]).getD i [] = if i < L.length then L.getD i [] else if i = L.length then x else [] := by
  rw [List.getD_eq_getElem?_getD, List.getD_eq_getElem?_getD]
  by_cases h : i < L.length
  · rw [if_pos h, List.getElem?_append_left h]
  · rw [if_neg h, List.getElem?_append_right (by omega)]
    by_cases e : i = L.length
    · rw [if_pos e, e, Nat.sub_self]
      rfl
    · rw [if_neg e, List.getElem?_eq_none (by rw [List.length_singleton]; omega)]
      rfl
theorem Same.snoc {L R : List (List Key)} {x y : List Key} (h : Same L R) (n : x.Nodup) (m : ∀ k, k ∈ x ↔ k ∈ y) : Same (L ++ [x]) (R ++ [y]) := by
  refine ⟨by rw [List.length_append, List.length_append, h.len]; rfl, fun ks hk => ?_, fun i k => ?_⟩
  · rcases List.mem_append.mp hk with hk | hk
    · exact h.nd ks hk
    · rw [List.mem_singleton.mp hk]; exact n
  · rw [getD_app, getD_app, h.len]
    by_cases e : i < R.length
    · rw [if_pos e, if_pos e]; exact h.mem i k
    · rw [if_neg e, if_neg e]
      by_cases e2 : i = R.length
      · rw [if_pos e2, if_pos e2]; exact m k
      · rw [if_neg e2, if_neg e2]
theorem giv_lt {rs : List Rw} {ns : List Nd} {i : Nat} {nd : Nd} (wf : WfN ns) (so : SrcOk nd (srcOf rs nd)) (h : ns[i]? = some nd) : ∀ j ∈ givJ nd (srcOf rs nd), j < i := fun j hj => (wf i nd h).2 j (givJ_ops (wf i nd h).1 so j hj)
theorem parts_same {L R : List (List Key)} {nd : Nd} {ss : List Int} {i : Nat} (h : Same L R) (k : Key) : k ∈ (partsL nd ss i L).flatten ↔ k ∈ resN nd ss i R := by
  unfold partsL resN
  cases hb : (givJ nd ss).isEmpty with
  | true =>
    rw [if_pos rfl, if_pos rfl]
    exact Iff.rfl
  | false =>
    rw [if_neg Bool.false_ne_true, if_neg Bool.false_ne_true, mem_unit1, List.mem_flatten, List.mem_flatten]
    constructor
    · rintro ⟨l, hl, hk⟩
      obtain ⟨j, hj, rfl⟩ := List.mem_map.mp hl
      exact ⟨_, List.mem_map.mpr ⟨j, hj, rfl⟩, (h.mem j k).mp hk⟩
    · rintro ⟨l, hl, hk⟩
      obtain ⟨j, hj, rfl⟩ := List.mem_map.mp hl
      exact ⟨_, List.mem_map.mpr ⟨j, hj, rfl⟩, (h.mem j k).mpr hk⟩
theorem Same.small {L : List (List Key)} {rs : List Rw} {ns : List Nd} (h : Same L (resL rs ns)) : ∀ ks ∈ L, ks.length ≤ ns.length := fun ks hk => by
  obtain ⟨i, hi⟩ := List.getElem?_of_mem hk
  have e : L.getD i [] = ks := by rw [List.getD_eq_getElem?_getD, hi]; rfl
  refine Nat.le_trans (nd_lenD (h.nd ks hk) (U := (resL rs ns).getD i []) fun z hz => (h.mem i z).mp (by rw [e]; exact hz)) (getD_small (fun ks hk => res_small ks hk) i)
theorem flat_take {L : List (List Key)} (n : Nat) : (L.take n).flatten.length ≤ L.flatten.length := by
  conv => rhs; rw [← List.take_append_drop n L, List.flatten_append, List.length_append]
  omega
theorem parts_len {nd : Nd} {ss : List Int} {i : Nat} {ls : List (List Key)} (wf : WfNd nd) (so : SrcOk nd ss) (h : ∀ ks ∈ ls, ks.length ≤ 100) : (partsL nd ss i ls).flatten.length ≤ 400 := by
  have hs : ∀ ks ∈ partsL nd ss i ls, ks.length ≤ 100 := fun ks hk => by
    unfold partsL at hk
    cases hb : (givJ nd ss).isEmpty with
    | true =>
      rw [hb, if_pos rfl] at hk
      rw [List.mem_singleton.mp hk]
      show 1 ≤ 100
      omega
    | false =>
      rw [hb, if_neg Bool.false_ne_true] at hk
      obtain ⟨j, _, rfl⟩ := List.mem_map.mp hk
      exact getD_small h j
  have l4 := givJ_len wf so
  have lp : (partsL nd ss i ls).length ≤ 4 := by
    unfold partsL
    split
    · show 1 ≤ 4; omega
    · rw [List.length_map]; exact l4
  have := flat_small hs
  omega
/-- the first word of a node -/
def wordN : Nd → Str
  | .name _ => "name"
  | .call _ _ => "call"
  | .op w _ => w
theorem word_at {H : Hp} {a : Addr} {nd : Nd} (h : NdAt H a nd) : ∃ xs, H a = some (.tup (.str (wordN nd) :: xs)) := by
  cases nd with
  | name w => exact ⟨_, h⟩
  | call w os => obtain ⟨t, h1, _⟩ := h; exact ⟨_, h1⟩
  | op w os => exact ⟨_, h⟩
/-- the parts as far as these words were looked for -/
def stg (seen : List Str) (nd : Nd) (ss : List Int) (i : Nat) (L : List (List Key)) : List (List Key) := if wordN nd ∈ seen then partsL nd ss i L else [[.inl (i : Int)]]
theorem stg_no {seen : List Str} {w : Str} {nd : Nd} {ss : List Int} {i : Nat} {L : List (List Key)} (h : wordN nd ≠ w) : stg (w :: seen) nd ss i L = stg seen nd ss i L := by
  unfold stg
  by_cases e : wordN nd ∈ seen
  · rw [if_pos e, if_pos (List.mem_cons_of_mem _ e)]
  · rw [if_neg e, if_neg (fun z => (List.mem_cons.mp z).elim h e)]
theorem stg_yes {seen : List Str} {w : Str} {nd : Nd} {ss : List Int} {i : Nat} {L : List (List Key)} (h : wordN nd = w) : stg (w :: seen) nd ss i L = partsL nd ss i L := if_pos (by rw [h]; exact List.mem_cons_self)
theorem word_all {nd : Nd} (wf : WfNd nd) : wordN nd ∈ (["call", "then", "pick", "part", "name"] : List Str) := by
  cases nd with
  | name w => exact List.mem_cons_of_mem _ (List.mem_cons_of_mem _ (List.mem_cons_of_mem _ (List.mem_cons_of_mem _ List.mem_cons_self)))
  | call w os => exact List.mem_cons_self
  | op w os =>
    rcases op_cases wf with ⟨rfl, _⟩ | ⟨rfl, _⟩ | ⟨rfl, _⟩
    · exact List.mem_cons_of_mem _ (List.mem_cons_of_mem _ (List.mem_cons_of_mem _ List.mem_cons_self))
    · exact List.mem_cons_of_mem _ (List.mem_cons_of_mem _ List.mem_cons_self)
    · exact List.mem_cons_of_mem _ List.mem_cons_self
theorem al_one {H : Hp} {q : Addr} {x : Key} (h : H q = some (.lst [kV x])) : Al2 (KsAt H) [q] [[x]] := .cons h .nil
def spLRes : Sp := fun vs H Q _ => ∃ N fn bs cs ns rs, vs = [.ref N, .ref fn] ∧ H N = some (.lst (bs.map V.ref)) ∧ Al2 (NdAt H) bs ns ∧ WfN ns ∧ (∀ nd ∈ ns, SrcOk nd (srcOf rs nd)) ∧ RowsAt H fn cs rs ∧ ns.length ≤ 100 ∧
  ∀ p as L H', Ex H H' → H' p = some (.lst (as.map V.ref)) → Al2 (KsAt H') as L → Same L (resL rs ns) → H p = none → Q (.ref p) H'
theorem ok_lresults (T : Tx0 w K mg A) : FnOk P w K mg base CX0 2 A.lresults A.d_lresults p_lresults spLRes := by
  refine T.F_lresults.ok sc_lresults (fun vs H Q E h => ?_) (fun cdv Ar outer s H vs Q E hr h => ?_)
  · obtain ⟨N, fn, bs, cs, ns, rs, rfl, _⟩ := h
    rfl
  · obtain ⟨N, fn, bs, cs, ns, rs, rfl, hN, hA, wfn, so, hR, hz, k⟩ := h
    refine ⟨_, (pss_cons (ps_set (i := 2) sc_lresults.nd rfl (Or.inr rfl) (pe_lst pa_nil))
      (pss_cons (ps_for PassesOwn.never rfl (pi_range1 (by rfl) T.m_range (pa_cons (pe_callB call_len_seq (by rfl) T.m_len PySem.boot_len (pa_cons (pv 0) pa_nil)) pa_nil)) (pg_name (i := 3) sc_lresults.nd rfl (Or.inl rfl)) (pss_cons (ps_set (i := 4) sc_lresults.nd rfl (Or.inr rfl) (pe_ix ix_list (pv 0) (pv 3) (fun _ _ => rfl)))
        (pss_cons (ps_set (i := 5) sc_lresults.nd rfl (Or.inl rfl) (pe_lst (pa_cons (pe_lst (pa_cons (pv 3) pa_nil)) pa_nil)))
        (Evl.pss_cut (ps_if (pt_cmpR op_eq (pe_ix ix_tup (pv 4) pe_int (fun _ _ => rfl)) pe_str (nomark _)) (pss_one (ps_set (i := 5) sc_lresults.nd rfl (Or.inl rfl) (pe_lst (pa_cons (pe_lst (pa_cons (pe_ix ix_tup (pv 4) pe_int (fun _ _ => rfl)) pa_nil)) pa_nil)))) pss_nil)
        (Evl.pss_cut (ps_if (pt_cmpR op_eq (pe_ix ix_tup (pv 4) pe_int (fun _ _ => rfl)) pe_str (nomark _)) (pss_one (ps_set (i := 5) sc_lresults.nd rfl (Or.inl rfl) (pe_lst (pa_cons (pe_ix ix_list (pv 2) (pe_ix ix_tup (pv 4) pe_int (fun _ _ => rfl)) (fun _ _ => rfl)) pa_nil)))) pss_nil)
        (Evl.pss_cut (ps_if (pt_cmpR op_eq (pe_ix ix_tup (pv 4) pe_int (fun _ _ => rfl)) pe_str (nomark _)) (pss_one (ps_set (i := 5) sc_lresults.nd rfl (Or.inl rfl) (pe_lst (pa_cons (pe_ix ix_list (pv 2) (pe_ix ix_tup (pv 4) pe_int (fun _ _ => rfl)) (fun _ _ => rfl)) (pa_cons (pe_ix ix_list (pv 2) (pe_ix ix_tup (pv 4) pe_int (fun _ _ => rfl)) (fun _ _ => rfl)) pa_nil))))) pss_nil)
        (Evl.pss_cut (ps_if (pt_cmpR op_eq (pe_ix ix_tup (pv 4) pe_int (fun _ _ => rfl)) pe_str (nomark _)) (pss_one (ps_set (i := 5) sc_lresults.nd rfl (Or.inl rfl) (pe_lst (pa_cons (pe_ix ix_list (pv 2) (pe_ix ix_tup (pv 4) pe_int (fun _ _ => rfl)) (fun _ _ => rfl)) pa_nil)))) pss_nil)
        (Evl.pss_cut (ps_if (PW.pt (pw_and (pt_cmpR op_eq (pe_ix ix_tup (pv 4) pe_int (fun _ _ => rfl)) pe_str (nomark _)) (pw_and1 (pt_cmpR op_gt (pe_callB call_len_seq (by rfl) T.m_len PySem.boot_len (pa_cons (pe_call (ok_sources T) (hr.mono (by decide)) (by rfl) T.g_sources T.F_sources.kp T.b_sources .nil pass0 (pa_cons (pv 1) (pa_cons (pe_ix ix_tup (pv 4) pe_int (fun _ _ => rfl)) pa_nil))) pa_nil)) pe_int (nomark _))))) (pss_one (ps_setLc (i := 5) (own := [("_law_j", 9)]) (g := gName 9) (tt := tYes) rfl sc_lresults.nd rfl rfl (sw_true rfl rfl rfl (by decide +kernel)) (pi_list (pe_call (ok_sources T) (hr.mono (by decide)) (by rfl) T.g_sources T.F_sources.kp T.b_sources .nil pass0 (pa_cons (pv 1) (pa_cons (pe_ix ix_tup (pv 4) pe_int (fun _ _ => rfl)) pa_nil)))) (blkOk_by (N := n_lresults) (sc := defScope s_lresults) (by decide +kernel)) (fun _ _ _ _ _ => pg_name (i := 9) sc_lresults.nd rfl (Or.inl rfl)) (fun _ _ _ _ _ => pts_nil) (fun _ _ _ _ _ => (pe_ix (show IxR _ (rIxL K) from ix_list) (pv 2) (pe_ix (show IxR _ (rIxT K) from ix_tup) (pe_ix (show IxR _ (rIxT K) from ix_tup) (pv 4) pe_int (fun _ _ => rfl)) (pe_op op_sub (pv 9) pe_int) (fun _ _ => rfl)) (fun _ _ => rfl))))) pss_nil)
        (pss_cons (ps_set (i := 6) sc_lresults.nd rfl (Or.inl rfl) (pe_lst pa_nil))
        (pss_cons (ps_for PassesOwn.never rfl (pi_list (pv 5)) (pg_name (i := 7) sc_lresults.nd rfl (Or.inl rfl)) (pss_one (ps_for PassesOwn.never rfl (pi_list (pv 7)) (pg_name (i := 8) sc_lresults.nd rfl (Or.inl rfl)) (pss_one (ps_if (pt_cmpR op_notIn_seq (pv 8) (pv 6) (by rfl)) (pss_one (ps_expr (pe_bm PySem.F.plainAttrs_list PySem.F.slot_list_append PySem.F.type_list_append mt_append (pv 6) (pa_cons (pv 8) pa_nil)))) pss_nil)))))
        (pss_one (ps_expr (pe_bm PySem.F.plainAttrs_list PySem.F.slot_list_append PySem.F.type_list_append mt_append (pv 2) (pa_cons (pv 6) pa_nil))))))))))))))
      (pss_one (ps_ret (pv 2))))), ?_⟩
    have lbs : bs.length = ns.length := hA.len
    refine ⟨Nat.zero_le _, fun F hF => ?_⟩
    have e0 := Ex.new (o := .lst []) hF
    refine ⟨_, rfl, N, _, rfl, .inl (SqL.of (e0 _ _ hN)), _, rfl, ?_⟩
    refine forR1 ⟨by rw [List.length_map]; omega, by rw [List.length_map]; omega⟩ (fun i σ' H' => ∃ v3 v4 v5 v6 v7 v8 v9 fs L, σ' = [some (.ref N), some (.ref fn), some (.ref F), v3, v4, v5, v6, v7, v8, v9] ∧ Ex H H' ∧ H' F = some (.lst (fs.map V.ref)) ∧ Al2 (fun a ks => KsAt H' a ks ∧ a ≠ F) fs L ∧ Same L (resL rs (ns.take i))) ⟨_, _, _, _, _, _, _, [], [], rfl, e0, upd_same, .nil, ⟨rfl, (fun _ h => by cases h), (fun _ _ => Iff.rfl)⟩⟩ ?_ ?_
    · rintro i σ' H1 hi ⟨v3, v4, v5, v6, v7, v8, v9, fs, L, rfl, e1, h1F, hfs, sm⟩
      have hi' : i < ns.length := by rw [List.length_map] at hi; omega
      obtain ⟨nd, hnd⟩ : ∃ nd, ns[i]? = some nd := ⟨_, List.getElem?_eq_getElem hi'⟩
      obtain ⟨b, hb⟩ : ∃ b, bs[i]? = some b := ⟨_, List.getElem?_eq_getElem (by omega)⟩
      obtain ⟨nd', hnd', hnb⟩ := hA.get i b hb
      rw [hnd] at hnd'
      obtain rfl := Option.some.inj hnd'
      have so1 := so nd (List.mem_of_getElem? hnd)
      have lt := giv_lt wfn so1 hnd
      have wf1 := (wfn i nd hnd).1
      have atB : atI (bs.map V.ref) ((i : Nat) : Int) = some (.ref b) := atI_nat (by rw [List.getElem?_map, hb]; rfl)
      have lL : L.length = i := by rw [sm.len, res_len, List.length_take]; omega
      have lfs : fs.length = i := by rw [hfs.len, lL]
      have jl : ∀ j ∈ givJ nd (srcOf rs nd), j < fs.length := fun j hj => by rw [lfs]; exact lt j hj
      refine ⟨_, rfl, _, rfl, N, _, (i : Int), .ref b, rfl, rfl, SqL.of (e1 _ _ hN), atB, ?_⟩
      refine ⟨_, rfl, sz_of (by show 1 ≤ 100000; decide), fun q0 hq0 => ⟨sz_of (by show 1 ≤ 100000; decide), fun P0 hP0 => ?_⟩⟩
      have eq0 := Ex.new (o := .lst [.int (i : Int)]) hq0
      have e2 := eq0.trans (Ex.new (o := .lst [.ref q0]) hP0)
      obtain ⟨J, hJ⟩ : ∃ J : List Str → L2.St → Hp → Prop, J = fun seen σ' H' => ∃ P ps v6 v7 v8 v9, σ' = [some (.ref N), some (.ref fn), some (.ref F), some (.int (i : Int)), some (.ref b), some (.ref P), v6, v7, v8, v9] ∧ Ex H1 H' ∧ H' P = some (.lst (ps.map V.ref)) ∧ Al2 (KsAt H') ps (stg seen nd (srcOf rs nd) i L) := ⟨_, rfl⟩
      have J0 : J [] [some (.ref N), some (.ref fn), some (.ref F), some (.int (i : Int)), some (.ref b), some (.ref P0), v6, v7, v8, v9] (upd (upd H1 q0 (.lst [.int (i : Int)])) P0 (.lst [.ref q0])) := by
        rw [hJ]
        refine ⟨P0, [q0], _, _, _, _, rfl, e2, upd_same, ?_⟩
        exact al_one (x := .inl (i : Int)) ((Ex.new hP0) _ _ upd_same)
      generalize upd (upd H1 q0 (.lst [.int (i : Int)])) P0 (.lst [.ref q0]) = H2 at J0 ⊢
      clear e2 eq0 hq0 hP0
      -- the lists of operands
      have ats : ∀ {H' : Hp}, Ex H1 H' → ∀ j, j ∈ givJ nd (srcOf rs nd) → H' F = some (.lst (fs.map V.ref)) ∧ atI (fs.map V.ref) ((j : Nat) : Int) = some (.ref (fs.getD j 0)) := fun {H'} e j hj => by
        have hl := jl j hj
        exact ⟨e _ _ h1F, atI_nat (by rw [List.getElem?_map, List.getElem?_eq_getElem hl, List.getD_eq_getElem?_getD, List.getElem?_eq_getElem hl]; rfl)⟩
      have lists : ∀ {H' : Hp} (seen : List Str) (p : Addr) (v6 v7 v8 v9 : Option V), Ex H1 H' → H' p = some (.lst (((givJ nd (srcOf rs nd)).map fun j => fs.getD j 0).map V.ref)) → (givJ nd (srcOf rs nd)).isEmpty = false → J (wordN nd :: seen) [some (.ref N), some (.ref fn), some (.ref F), some (.int (i : Int)), some (.ref b), some (.ref p), v6, v7, v8, v9] H' := fun {H'} seen p v6 v7 v8 v9 e hp hb => by
        rw [hJ]
        refine ⟨p, _, _, _, _, _, rfl, e, hp, ?_⟩
        rw [stg_yes rfl]
        unfold partsL
        rw [hb, if_neg Bool.false_ne_true]
        exact al2_getD (hfs.imp fun _ _ z => (show KsAt H' _ _ from e _ _ z.1)) _ jl
      have keep : ∀ {seen : List Str} {w : Str} {σ' : L2.St} {H' : Hp}, J seen σ' H' → wordN nd ≠ w → J (w :: seen) σ' H' := fun {seen w σ' H'} h hw => by
        rw [hJ] at h ⊢
        obtain ⟨P, ps, v6, v7, v8, v9, e, h1, h2, h3⟩ := h
        exact ⟨P, ps, v6, v7, v8, v9, e, h1, h2, by rw [stg_no hw]; exact h3⟩
      have first : ∀ {H' : Hp}, Ex H1 H' → ∃ xs, H' b = some (.tup (.str (wordN nd) :: xs)) := fun e => word_at (NdAt.mono (e1.trans e) hnb)
      refine ⟨J ["name"], ?_, ?_⟩
      · have jj := J0
        rw [hJ] at jj
        obtain ⟨P, ps, w6, w7, w8, w9, e, eJ, _, _⟩ := jj
        try subst e
        obtain ⟨xs, hx⟩ := first eJ
        refine ⟨_, rfl, b, _, 0, .str (wordN nd), rfl, rfl, SqT.of hx, atI_nat (j := 0) rfl, rfl, _, rfl, ite2 (fun z => ?_) (fun z => keep J0 fun y => z (decide_eq_true (congrArg V.str y)))⟩
        have hw : wordN nd = "name" := V.str.inj (of_decide_eq_true z)
        have hnb' := NdAt.mono (e1.trans eJ) hnb
        cases nd with
        | call w os => exact absurd (show ("call" : Str) = "name" from hw) (by decide +kernel)
        | op w os =>
          have hw : w = "name" := hw
          subst hw
          rcases op_cases wf1 with ⟨e, _⟩ | ⟨e, _⟩ | ⟨e, _⟩ <;> exact absurd e (by decide +kernel)
        | name w =>
          have hn : _ = some (HO.tup [.str "name", .str w]) := hnb'
          refine ⟨_, rfl, b, _, 1, .str w, rfl, rfl, SqT.of hn, atI_nat (j := 1) rfl, sz_of (by show 1 ≤ 100000; decide), fun q hq => ⟨sz_of (by show 1 ≤ 100000; decide), fun p hp => ?_⟩⟩
          rw [hJ]
          refine ⟨p, [q], _, _, _, _, rfl, (eJ.trans (Ex.new hq)).trans (Ex.new hp), upd_same, ?_⟩
          rw [stg_yes hw]
          exact al_one (x := .inr w) ((Ex.new hp) _ _ upd_same)
      intro σ1 H3 j1
      refine ⟨J ["part", "name"], ?_, ?_⟩
      · have jj := j1
        rw [hJ] at jj
        obtain ⟨P, ps, w6, w7, w8, w9, e, eJ, _, _⟩ := jj
        try subst e
        obtain ⟨xs, hx⟩ := first eJ
        refine ⟨_, rfl, b, _, 0, .str (wordN nd), rfl, rfl, SqT.of hx, atI_nat (j := 0) rfl, rfl, _, rfl, ite2 (fun z => ?_) (fun z => keep j1 fun y => z (decide_eq_true (congrArg V.str y)))⟩
        have hw : wordN nd = "part" := V.str.inj (of_decide_eq_true z)
        have hnb' := NdAt.mono (e1.trans eJ) hnb
        obtain ⟨m, rfl⟩ : ∃ m, nd = .op "part" [m] := by
          cases nd with
          | call w os => exact absurd (show ("call" : Str) = "part" from hw) (by decide +kernel)
          | name w => exact absurd (show ("name" : Str) = "part" from hw) (by decide +kernel)
          | op w os =>
            have hw : w = "part" := hw
            subst hw
            rcases op_cases wf1 with ⟨_, m, rfl⟩ | ⟨e, _⟩ | ⟨e, _⟩
            · exact ⟨m, rfl⟩
            · exact absurd e (by decide +kernel)
            · exact absurd e (by decide +kernel)
        have hn : _ = some (HO.tup (.str "part" :: ni [m])) := hnb'
        have hg : givJ (.op "part" [m]) (srcOf rs (.op "part" [m])) = [m] := rfl
        obtain ⟨a1, a2⟩ := ats eJ m (by rw [hg]; exact List.mem_cons_self)
        exact ⟨_, rfl, _, rfl, b, _, 1, .int (m : Nat), rfl, rfl, SqT.of hn, atI_nat (j := 1) rfl, F, _, (m : Nat), _, rfl, rfl, SqL.of a1, a2, sz_of (by show 1 ≤ 100000; decide), fun p hp => lists _ p _ _ _ _ (eJ.trans (Ex.new hp)) (by rw [hg]; exact upd_same) (by rw [hg]; rfl)⟩
      intro σ2 H4 j2
      refine ⟨J ["pick", "part", "name"], ?_, ?_⟩
      · have jj := j2
        rw [hJ] at jj
        obtain ⟨P, ps, w6, w7, w8, w9, e, eJ, _, _⟩ := jj
        try subst e
        obtain ⟨xs, hx⟩ := first eJ
        refine ⟨_, rfl, b, _, 0, .str (wordN nd), rfl, rfl, SqT.of hx, atI_nat (j := 0) rfl, rfl, _, rfl, ite2 (fun z => ?_) (fun z => keep j2 fun y => z (decide_eq_true (congrArg V.str y)))⟩
        have hw : wordN nd = "pick" := V.str.inj (of_decide_eq_true z)
        have hnb' := NdAt.mono (e1.trans eJ) hnb
        obtain ⟨m, n, rfl⟩ : ∃ m n, nd = .op "pick" [m, n] := by
          cases nd with
          | call w os => exact absurd (show ("call" : Str) = "pick" from hw) (by decide +kernel)
          | name w => exact absurd (show ("name" : Str) = "pick" from hw) (by decide +kernel)
          | op w os =>
            have hw : w = "pick" := hw
            subst hw
            rcases op_cases wf1 with ⟨e, _⟩ | ⟨_, m, n, rfl⟩ | ⟨e, _⟩
            · exact absurd e (by decide +kernel)
            · exact ⟨m, n, rfl⟩
            · exact absurd e (by decide +kernel)
        have hn : _ = some (HO.tup (.str "pick" :: ni [m, n])) := hnb'
        have hg : givJ (.op "pick" [m, n]) (srcOf rs (.op "pick" [m, n])) = [m, n] := by
          show (if ("pick" : Str) = "part" then [m] else if ("pick" : Str) = "pick" then [m, n] else [n]) = [m, n]
          rw [if_neg (by decide +kernel), if_pos rfl]
        obtain ⟨a1, a2⟩ := ats eJ m (by rw [hg]; exact List.mem_cons_self)
        obtain ⟨b1, b2⟩ := ats eJ n (by rw [hg]; exact List.mem_cons_of_mem _ List.mem_cons_self)
        exact ⟨_, rfl, _, rfl, b, _, 1, .int (m : Nat), rfl, rfl, SqT.of hn, atI_nat (j := 1) rfl, F, _, (m : Nat), _, rfl, rfl, SqL.of a1, a2, _, rfl, _, rfl, b, _, 2, .int (n : Nat), rfl, rfl, SqT.of hn, atI_nat (j := 2) rfl, F, _, (n : Nat), _, rfl, rfl, SqL.of b1, b2, sz_of (by show 2 ≤ 100000; decide), fun p hp => lists _ p _ _ _ _ (eJ.trans (Ex.new hp)) (by rw [hg]; exact upd_same) (by rw [hg]; rfl)⟩
      intro σ3 H5 j3
      refine ⟨J ["then", "pick", "part", "name"], ?_, ?_⟩
      · have jj := j3
        rw [hJ] at jj
        obtain ⟨P, ps, w6, w7, w8, w9, e, eJ, _, _⟩ := jj
        try subst e
        obtain ⟨xs, hx⟩ := first eJ
        refine ⟨_, rfl, b, _, 0, .str (wordN nd), rfl, rfl, SqT.of hx, atI_nat (j := 0) rfl, rfl, _, rfl, ite2 (fun z => ?_) (fun z => keep j3 fun y => z (decide_eq_true (congrArg V.str y)))⟩
        have hw : wordN nd = "then" := V.str.inj (of_decide_eq_true z)
        have hnb' := NdAt.mono (e1.trans eJ) hnb
        obtain ⟨m, n, rfl⟩ : ∃ m n, nd = .op "then" [m, n] := by
          cases nd with
          | call w os => exact absurd (show ("call" : Str) = "then" from hw) (by decide +kernel)
          | name w => exact absurd (show ("name" : Str) = "then" from hw) (by decide +kernel)
          | op w os =>
            have hw : w = "then" := hw
            subst hw
            rcases op_cases wf1 with ⟨e, _⟩ | ⟨e, _⟩ | ⟨_, m, n, rfl⟩
            · exact absurd e (by decide +kernel)
            · exact absurd e (by decide +kernel)
            · exact ⟨m, n, rfl⟩
        have hn : _ = some (HO.tup (.str "then" :: ni [m, n])) := hnb'
        have hg : givJ (.op "then" [m, n]) (srcOf rs (.op "then" [m, n])) = [n] := by
          show (if ("then" : Str) = "part" then [m] else if ("then" : Str) = "pick" then [m, n] else [n]) = [n]
          rw [if_neg (by decide +kernel), if_neg (by decide +kernel)]
        obtain ⟨a1, a2⟩ := ats eJ n (by rw [hg]; exact List.mem_cons_self)
        exact ⟨_, rfl, _, rfl, b, _, 2, .int (n : Nat), rfl, rfl, SqT.of hn, atI_nat (j := 2) rfl, F, _, (n : Nat), _, rfl, rfl, SqL.of a1, a2, sz_of (by show 1 ≤ 100000; decide), fun p hp => lists _ p _ _ _ _ (eJ.trans (Ex.new hp)) (by rw [hg]; exact upd_same) (by rw [hg]; rfl)⟩
      intro σ4 H6 j4
      refine ⟨J ["call", "then", "pick", "part", "name"], ?_, ?_⟩
      · have jj := j4
        rw [hJ] at jj
        obtain ⟨P, ps, w6, w7, w8, w9, e, eJ, hP, hps⟩ := jj
        subst e
        obtain ⟨xs, hx⟩ := first eJ
        refine ⟨_, rfl, b, _, 0, .str (wordN nd), rfl, rfl, SqT.of hx, atI_nat (j := 0) rfl, rfl, _, rfl, ite2 (fun z => ?_) (fun z => iteF (keep j4 fun y => z (decide_eq_true (congrArg V.str y))))⟩
        have hw : wordN nd = "call" := V.str.inj (of_decide_eq_true z)
        have hnb' := NdAt.mono (e1.trans eJ) hnb
        obtain ⟨w, os, rfl⟩ : ∃ w os, nd = .call w os := by
          cases nd with
          | call w os => exact ⟨w, os, rfl⟩
          | name w => exact absurd (show ("name" : Str) = "call" from hw) (by decide +kernel)
          | op w os =>
            have hw : w = "call" := hw
            subst hw
            rcases op_cases wf1 with ⟨e, _⟩ | ⟨e, _⟩ | ⟨e, _⟩ <;> exact absurd e (by decide +kernel)
        obtain ⟨u, hn, hu⟩ := hnb'
        have so2 : Asc os.length (lkS rs w) := so1
        have lg : (givJ (.call w os) (srcOf rs (.call w os))) = (lkS rs w).map fun s => os.getD (s - 1).toNat 0 := rfl
        have eHJ := e1.trans eJ
        refine ⟨_, rfl, _, rfl, b, _, 1, .str w, rfl, rfl, SqT.of hn, atI_nat (j := 1) rfl, fn, cs, rs, w, rfl, ⟨eHJ _ _ hR.1, rows_mono eHJ hR.2⟩, fun q H7 e7 hq => ?_⟩
        refine ⟨q, _, rfl, .inl (SqL.of hq), _, 0, rfl, rfl, _, rfl, ?_⟩
        rw [List.length_map]
        cases hs : lkS rs w with
        | nil =>
          refine ite2 (fun z => absurd (of_decide_eq_true z) (by show ¬ (0 : Int) < ((0 : Nat) : Int); omega)) (fun _ => ?_)
          rw [hJ]
          refine ⟨P, ps, _, _, _, _, rfl, eJ.trans e7, e7 _ _ hP, ?_⟩
          have e4 : stg ["call", "then", "pick", "part", "name"] (.call w os) (srcOf rs (.call w os)) i L = stg ["then", "pick", "part", "name"] (.call w os) (srcOf rs (.call w os)) i L := by
            rw [stg_yes hw]
            unfold stg partsL
            rw [lg, hs, if_neg (show ¬ wordN (.call w os) ∈ (["then", "pick", "part", "name"] : List Str) by show ¬ ("call" : Str) ∈ (["then", "pick", "part", "name"] : List Str); decide +kernel)]
            rfl
          rw [e4]
          exact hps.imp fun _ _ z => (show _ = _ from e7 _ _ z)
        | cons s0 t0 =>
          rw [← hs]
          refine ite2 (fun _ => ?_) (fun z => absurd (decide_eq_true (by rw [hs, List.length_cons]; omega)) z)
          have e17 := eHJ.trans e7
          refine ⟨_, rfl, _, rfl, b, _, 1, .str w, rfl, rfl, SqT.of (e7 _ _ hn), atI_nat (j := 1) rfl, fn, cs, rs, w, rfl, ⟨e17 _ _ hR.1, rows_mono e17 hR.2⟩, fun q2 H8 e8 hq2 => ?_⟩
          have eJ8 := (eJ.trans e7).trans e8
          have e78 := e7.trans e8
          refine ⟨q2, rfl, ⟨_, SqL.of hq2⟩, fun D hD => ?_⟩
          refine lc_it (walk_list (xs := (lkS rs w).map V.int)) (fun j H' => Ex H8 H' ∧ H' D = some (.lst (((((lkS rs w).take j).map fun s => os.getD (s - 1).toNat 0).map fun j => fs.getD j 0).map V.ref))) ⟨Ex.new hD, upd_same⟩ (fun j H' _ z => SqL.of (z.1 _ _ hq2)) ?_ ?_
          · rintro j y H9 H10 hj ⟨e9, h9D⟩ ⟨rfl, hy⟩
            rw [List.getElem?_map] at hy
            obtain ⟨s, hs', rfl⟩ := Option.map_eq_some_iff.mp hy
            obtain ⟨g1, g2⟩ := so2.2 s (List.mem_of_getElem? hs')
            have sz : (s - 1).toNat < os.length := by omega
            have at0 : atI (ni os) (s - 1) = some (.int ((os.getD (s - 1).toNat 0 : Nat) : Int)) := by
              have e2 : s - 1 = (((s - 1).toNat : Nat) : Int) := by omega
              rw [e2]
              refine atI_nat ?_
              rw [Int.toNat_natCast, ni, List.getElem?_map, List.getElem?_eq_getElem sz, List.getD_eq_getElem?_getD, List.getElem?_eq_getElem sz]
              rfl
            have hm : os.getD (s - 1).toNat 0 ∈ givJ (.call w os) (srcOf rs (.call w os)) := by
              rw [lg]
              exact List.mem_map.mpr ⟨s, List.mem_of_getElem? hs', rfl⟩
            obtain ⟨a1, a2⟩ := ats (eJ8.trans e9) _ hm
            have l4 := asc_len (n := os.length) (by have : os.length ≤ 4 := wf1; omega) _ so2
            have ll := (List.getElem?_eq_some_iff.mp hs').1
            refine ⟨rfl, _, rfl, _, rfl, b, _, 2, .ref u, rfl, rfl, SqT.of (e9 _ _ (e78 _ _ hn)), atI_nat (j := 2) rfl, _, rfl, s, 1, rfl, rfl, u, _, _, _, rfl, rfl, SqT.of (e9 _ _ (e78 _ _ hu)), at0, F, _, _, _, rfl, rfl, SqL.of a1, a2, _, h9D, sz_lt (by rw [List.length_map, List.length_map, List.length_map, List.length_take]; omega), e9.mut hD, ?_⟩
            rw [upd_same, List.take_add_one, hs', List.map_append, List.map_append, List.map_append]
            rfl
          · rintro H9 ⟨e9, h9D⟩
            rw [List.length_map, List.take_length] at h9D
            exact lists _ D _ _ _ _ (eJ8.trans e9) (by rw [lg]; exact h9D) (by rw [lg, hs]; rfl)
      intro σ5 H7 j5
      rw [hJ] at j5
      obtain ⟨P, ps, w6, w7, w8, w9, rfl, eJ, hP, hps⟩ := j5
      clear keep first lists ats J0 j1 j2 j3 j4 hJ
      obtain ⟨PL, hPL⟩ : ∃ PL, PL = partsL nd (srcOf rs nd) i L := ⟨_, rfl⟩
      rw [show stg ["call", "then", "pick", "part", "name"] nd (srcOf rs nd) i L = PL by rw [hPL]; exact if_pos (word_all wf1)] at hps
      have pm : ∀ k, k ∈ PL.flatten ↔ k ∈ resN nd (srcOf rs nd) i (resL rs (ns.take i)) := fun k => by rw [hPL]; exact parts_same sm k
      have pl : PL.flatten.length ≤ 400 := by
        rw [hPL]
        refine parts_len wf1 so1 fun ks hk => Nat.le_trans (sm.small ks hk) ?_
        rw [List.length_take]
        omega
      have lps : ps.length = PL.length := hps.len
      refine ⟨Nat.zero_le _, fun T hT => ?_⟩
      have eT := Ex.new (o := .lst []) hT
      have hT8 : upd H7 T (.lst []) T = some (.lst (([] : List Key).map kV)) := upd_same
      have nTF : T ≠ F := (ne_of_none (eJ _ _ h1F) hT).symm
      -- what was taken so far
      obtain ⟨Iv, hIv⟩ : ∃ Iv : List Key → Hp → Prop, Iv = fun X H' => Ex H7 H' ∧ ∃ tk : List Key, H' T = some (.lst (tk.map kV)) ∧ tk.Nodup ∧ ∀ k, k ∈ tk ↔ k ∈ X := ⟨_, rfl⟩
      have I0 : Iv [] (upd H7 T (.lst [])) := by
        rw [hIv]
        exact ⟨eT, [], hT8, List.nodup_nil, fun _ => Iff.rfl⟩
      generalize upd H7 T (.lst []) = H8 at I0 ⊢
      clear eT hT8
      refine ⟨_, rfl, P, rfl, ⟨_, SqL.of (by rw [hIv] at I0; exact I0.1 _ _ hP)⟩, ?_⟩
      refine for_it (walk_list (xs := ps.map V.ref)) (fun j σ' H' => ∃ v7 v8, σ' = [some (.ref N), some (.ref fn), some (.ref F), some (.int (i : Int)), some (.ref b), some (.ref P), some (.ref T), v7, v8, w9] ∧ Iv (PL.take j).flatten H') ⟨_, _, rfl, I0⟩ (fun j σ' H' _ ⟨_, _, _, z⟩ => by rw [hIv] at z; exact SqL.of (z.1 _ _ hP)) ?_ ?_
      · rintro j y σ' H9 H10 hj ⟨v7', v8', rfl, iv⟩ ⟨rfl, hy⟩
        rw [List.getElem?_map] at hy
        obtain ⟨c, hc, rfl⟩ := Option.map_eq_some_iff.mp hy
        obtain ⟨pk, hpk, hcp⟩ := hps.get j c hc
        have nx : (PL.take (j + 1)).flatten = (PL.take j).flatten ++ pk := by
          rw [List.take_add_one, hpk, List.flatten_append]
          show _ ++ [pk].flatten = _
          rw [List.flatten_singleton]
        have fl1 := flat_take (L := PL) (j + 1)
        rw [nx, List.length_append] at fl1
        have nTc : T ≠ c := (ne_of_none hcp hT).symm
        have at_c : ∀ {X : List Key} {H' : Hp}, Iv X H' → H' c = some (.lst (pk.map kV)) := fun z => by rw [hIv] at z; exact z.1 _ _ hcp
        refine ⟨_, rfl, c, rfl, ⟨_, SqL.of (at_c iv)⟩, ?_⟩
        refine for_it (walk_list (xs := pk.map kV)) (fun m σ' H' => ∃ v8, σ' = [some (.ref N), some (.ref fn), some (.ref F), some (.int (i : Int)), some (.ref b), some (.ref P), some (.ref T), some (.ref c), v8, w9] ∧ Iv ((PL.take j).flatten ++ pk.take m) H') ⟨_, rfl, by rw [List.take_zero, List.append_nil]; exact iv⟩ (fun m σ' H' _ ⟨_, _, z⟩ => SqL.of (at_c z)) ?_ ?_
        · rintro m y σ' H11 H12 hm ⟨v8'', rfl, iv'⟩ ⟨rfl, hy⟩
          rw [List.getElem?_map] at hy
          obtain ⟨x, hx, rfl⟩ := Option.map_eq_some_iff.mp hy
          have nk : (PL.take j).flatten ++ pk.take (m + 1) = ((PL.take j).flatten ++ pk.take m) ++ [x] := by rw [List.take_add_one, hx, ← List.append_assoc]; rfl
          rw [hIv] at iv'
          obtain ⟨e11, tk, htk, tnd, tm⟩ := iv'
          refine ⟨_, rfl, _, rfl, T, _, rfl, .inl (SqL.of htk), flat_kV x, flat_kVs tk, _, rfl, ?_⟩
          rw [if_pos rfl, inV_kV]
          cases hi1 : isin tk x with
          | true =>
            refine iteF ⟨_, rfl, ?_⟩
            rw [hIv, nk]
            refine ⟨e11, tk, htk, tnd, fun k => ?_⟩
            rw [List.mem_append, ← tm, List.mem_singleton]
            exact ⟨.inl, fun z => z.elim id fun e => e ▸ isin_iff.mp hi1⟩
          | false =>
            have nx' : x ∉ tk := fun z => by rw [isin_iff.mpr z] at hi1; cases hi1
            have ltk : tk.length ≤ 400 := by
              refine Nat.le_trans (nd_lenD tnd (U := (PL.take j).flatten ++ pk.take m) fun z hz => (tm z).mp hz) ?_
              rw [List.length_append, List.length_take]
              omega
            refine iteT ⟨_, rfl, .inl ⟨rfl, _, SqL.of htk⟩, _, rfl, T, _, _, rfl, rfl, htk, sz_lt (by rw [List.length_map]; omega), _, rfl, ?_⟩
            rw [hIv, nk]
            refine ⟨e11.mut hT, tk ++ [x], by rw [upd_same, List.map_append]; rfl, ?_, fun k => ?_⟩
            · rw [List.nodup_append]
              exact ⟨tnd, List.pairwise_singleton _ _, fun a ha b hb e => nx' (by rw [List.mem_singleton.mp hb] at e; exact e ▸ ha)⟩
            · rw [List.mem_append, List.mem_append, tm]
        · rintro σ' H11 ⟨v8'', rfl, iv'⟩
          rw [List.length_map, List.take_length] at iv'
          exact ⟨_, _, rfl, by rw [nx]; exact iv'⟩
      rintro σ' H9 ⟨v7', v8', rfl, iv⟩
      rw [List.length_map, lps, List.take_length, hIv] at iv
      obtain ⟨e9, tk, htk, tnd, tm⟩ := iv
      have e19 := eJ.trans e9
      have h9F := e19 _ _ h1F
      refine ⟨_, rfl, .inl ⟨rfl, _, SqL.of h9F⟩, _, rfl, F, _, _, rfl, rfl, h9F, sz_lt (by rw [List.length_map]; omega), ?_⟩
      have kp : ∀ {c : Addr} {ks : List Key}, c ≠ F → KsAt H9 c ks → KsAt (upd H9 F (.lst (fs.map V.ref ++ [.ref T]))) c ks := fun n h => by
        show upd H9 F _ _ = _
        rw [upd_ne n]
        exact h
      refine ⟨_, _, _, _, _, _, _, fs ++ [T], L ++ [tk], rfl, (e1.trans e19).mut hF, by rw [upd_same, List.map_append]; rfl, (hfs.imp fun _ _ z => ⟨kp z.2 (e19 _ _ z.1), z.2⟩).snoc ⟨kp nTF htk, nTF⟩, ?_⟩
      rw [res_take hnd]
      exact sm.snoc tnd fun k => (tm k).trans (pm k)
    · rintro σ' H1 ⟨v3, v4, v5, v6, v7, v8, v9, fs, L, rfl, e1, h1F, hfs, sm⟩
      rw [Int.toNat_natCast, List.length_map, lbs, List.take_length] at sm
      exact ⟨_, rfl, k F fs L H1 e1 h1F (hfs.imp fun _ _ z => z.1) sm hF⟩
end
end K18

set_option Elab.async false
set_option linter.all false
set_option maxRecDepth 100000
namespace K18
open PySem PySem.Spec PyProof.Rows L2 Evl TL UL StX
section
variable {P : Program} {w : World} {K : PySem.W.Frag} {mg : Str → Option Value} {base : Heap} {A : Adr}
def spInteger : Sp := fun vs H Q _ => ∃ v, vs = [v] ∧ Th H v ∧ Q (.bl (intB v)) H
theorem ok_integer (T : Tx0 w K mg A) : FnOk P w K mg base CX0 1 A.integer A.d_integer p_integer spInteger := by
  refine T.F_integer.ok sc_integer (fun vs H Q E h => ?_) (fun cdv Ar outer s H vs Q E hr h => ?_)
  · obtain ⟨v, rfl, _⟩ := h
    rfl
  · obtain ⟨v, rfl, hv, k⟩ := h
    refine ⟨_, (pss_one (ps_ret (pe_and (pe_callB call_isi (by rfl) T.m_isinstance (by decide +kernel) (pa_cons (pv 0) (pa_cons (pe_bltn (v := .ty "int") (u := .type "int") (by rfl) T.m_int (by decide +kernel) rfl) pa_nil))) (pe_one (pe_not (pe_callB call_isi (by rfl) T.m_isinstance (by decide +kernel) (pa_cons (pv 0) (pa_cons (pe_bltn (v := .ty "bool") (u := .type "bool") (by rfl) T.m_bool (by decide +kernel) rfl) pa_nil)))))))), ?_⟩
    obtain ⟨t, ht, h1, h2⟩ := hv.int (K := K)
    refine ⟨_, rfl, v, _, t, _, _, rfl, .ty "int", ht, h1, _, rfl, ?_⟩
    cases v with
    | int i => exact iteT ⟨_, rfl, .int i, _, t, _, _, rfl, .ty "bool", ht, h2, _, rfl, k⟩
    | bl b => exact iteT ⟨_, rfl, .bl b, _, t, _, _, rfl, .ty "bool", ht, h2, _, rfl, k⟩
    | _ => exact iteF k
/-! ### the law's own: a choice, its origin -/
def spLChoice : Sp := fun vs H Q _ => ∃ N fn ch bs cs ns rs is, vs = [.ref N, .ref fn, .ref ch] ∧ H N = some (.lst (bs.map V.ref)) ∧ Al2 (NdAt H) bs ns ∧ (∀ nd ∈ ns, WfNd nd) ∧ RowsAt H fn cs rs ∧ H ch = some (.lst (is.map V.int)) ∧ Al2 (ChOk rs) ns is ∧ ns.length ≤ 100 ∧ ∀ H', Ex H H' → Q (.bl true) H'
theorem ok_lchoice (T : Tx0 w K mg A) : FnOk P w K mg base CX0 2 A.lchoice A.d_lchoice p_lchoice spLChoice := by
  refine T.F_lchoice.ok sc_lchoice (fun vs H Q E h => ?_) (fun cdv Ar outer s H vs Q E hr h => ?_)
  · obtain ⟨N, fn, ch, bs, cs, ns, rs, is, rfl, _⟩ := h
    rfl
  · obtain ⟨N, fn, ch, bs, cs, ns, rs, is, rfl, hN, hA, wf, hR, hch, hk, hz, k⟩ := h
    refine ⟨_, (pss_cons (ps_if (PW.pt (pw_or (pt_not (pt_val (pe_callB call_isi (by rfl) T.m_isinstance (by decide +kernel) (pa_cons (pv 2) (pa_cons (pe_bltn (v := .ty "list") (u := .type "list") (by rfl) T.m_list (by decide +kernel) rfl) pa_nil))))) (pw_or1 (pt_cmpR op_ne (pe_callB call_len_seq (by rfl) T.m_len PySem.boot_len (pa_cons (pv 2) pa_nil)) (pe_callB call_len_seq (by rfl) T.m_len PySem.boot_len (pa_cons (pv 0) pa_nil)) (nomark _))))) (pss_one (ps_ret pe_bl)) pss_nil)
      (pss_cons (ps_for PassesOwn.never rfl (pi_range1 (by rfl) T.m_range (pa_cons (pe_callB call_len_seq (by rfl) T.m_len PySem.boot_len (pa_cons (pv 0) pa_nil)) pa_nil)) (pg_name (i := 3) sc_lchoice.nd rfl (Or.inl rfl)) (pss_cons (ps_set (i := 4) sc_lchoice.nd rfl (Or.inl rfl) (pe_ix ix_list (pv 0) (pv 3) (fun _ _ => rfl)))
        (pss_cons (ps_set (i := 5) sc_lchoice.nd rfl (Or.inl rfl) (pe_lst (pa_cons pe_int pa_nil)))
        (Evl.pss_cut (ps_if (pt_cmpR op_eq (pe_ix ix_tup (pv 4) pe_int (fun _ _ => rfl)) pe_str (nomark _)) (pss_one (ps_set (i := 5) sc_lchoice.nd rfl (Or.inl rfl) (pe_lst (pa_cons pe_int (pa_cons pe_int pa_nil))))) pss_nil)
        (Evl.pss_cut (ps_if (PW.pt (pw_and (pt_cmpR op_eq (pe_ix ix_tup (pv 4) pe_int (fun _ _ => rfl)) pe_str (nomark _)) (pw_and1 (pt_cmpR op_gt (pe_callB call_len_seq (by rfl) T.m_len PySem.boot_len (pa_cons (pe_call (ok_sources T) (hr.mono (by decide)) (by rfl) T.g_sources T.F_sources.kp T.b_sources .nil pass0 (pa_cons (pv 1) (pa_cons (pe_ix ix_tup (pv 4) pe_int (fun _ _ => rfl)) pa_nil))) pa_nil)) pe_int (nomark _))))) (pss_one (ps_set (i := 5) sc_lchoice.nd rfl (Or.inl rfl) (pe_call (ok_sources T) (hr.mono (by decide)) (by rfl) T.g_sources T.F_sources.kp T.b_sources .nil pass0 (pa_cons (pv 1) (pa_cons (pe_ix ix_tup (pv 4) pe_int (fun _ _ => rfl)) pa_nil))))) pss_nil)
        (pss_one (ps_if (PW.pt (pw_or (pt_not (pt_val (pe_call (ok_integer T) (hr.mono (by decide)) (by rfl) T.g_integer T.F_integer.kp T.b_integer .nil pass0 (pa_cons (pe_ix ix_list (pv 2) (pv 3) (fun _ _ => rfl)) pa_nil)))) (pw_or1 (pt_cmpR op_notIn_seq (pe_ix ix_list (pv 2) (pv 3) (fun _ _ => rfl)) (pv 5) (by rfl))))) (pss_one (ps_ret pe_bl)) pss_nil)))))))
      (pss_one (ps_ret pe_bl)))), ?_⟩
    have lbs : bs.length = ns.length := hA.len
    have lis : ns.length = is.length := hk.len
    refine ⟨_, rfl, .ref ch, _, _, _, true, rfl, .ty "list", .base (.lst hch), kit_ty (r := true) (by decide +kernel), _, rfl, iteF ?_⟩
    refine ⟨_, rfl, ch, _, rfl, .inl (SqL.of hch), _, rfl, N, _, rfl, .inl (SqL.of hN), rfl, _, rfl, ?_⟩
    rw [List.length_map, List.length_map, lbs, ← lis, show (!decide (V.int ((ns.length : Nat) : Int) = V.int ((ns.length : Nat) : Int))) = false by simp]
    refine iteF ⟨_, rfl, N, _, rfl, .inl (SqL.of hN), _, rfl, ?_⟩
    refine forR1 ⟨by rw [List.length_map]; omega, by rw [List.length_map]; omega⟩ (fun i σ' H' => ∃ v3 v4 v5, σ' = [some (.ref N), some (.ref fn), some (.ref ch), v3, v4, v5] ∧ Ex H H') ⟨_, _, _, rfl, Ex.refl _⟩ ?_ ?_
    · rintro i σ' H1 hi ⟨v3, v4, v5, rfl, e1⟩
      have hi' : i < ns.length := by rw [List.length_map] at hi; omega
      obtain ⟨nd, hnd⟩ : ∃ nd, ns[i]? = some nd := ⟨_, List.getElem?_eq_getElem hi'⟩
      obtain ⟨b, hb⟩ : ∃ b, bs[i]? = some b := ⟨_, List.getElem?_eq_getElem (by omega)⟩
      obtain ⟨nd', hnd', hnb⟩ := hA.get i b hb
      rw [hnd] at hnd'
      obtain rfl := Option.some.inj hnd'
      obtain ⟨c, hc, hco⟩ := hk.get i nd hnd
      have wf1 := wf nd (List.mem_of_getElem? hnd)
      have atB : atI (bs.map V.ref) ((i : Nat) : Int) = some (.ref b) := atI_nat (by rw [List.getElem?_map, hb]; rfl)
      have atC : atI (is.map V.int) ((i : Nat) : Int) = some (.int c) := atI_nat (by rw [List.getElem?_map, hc]; rfl)
      refine ⟨_, rfl, _, rfl, N, _, (i : Int), .ref b, rfl, rfl, SqL.of (e1 _ _ hN), atB, ?_⟩
      refine ⟨sz_of (by show 1 ≤ 100000; decide), fun l0 hl0 => ?_⟩
      have e2 := e1.trans (Ex.new (o := .lst [.int 0]) hl0)
      have hl2 : upd H1 l0 (.lst [.int 0]) l0 = some (.lst (([0] : List Int).map V.int)) := upd_same
      generalize upd H1 l0 (.lst [.int 0]) = H2 at e2 hl2 ⊢
      obtain ⟨xs, hx⟩ := word_at (NdAt.mono e2 hnb)
      refine ⟨fun σ' H' => ∃ l, σ' = [some (.ref N), some (.ref fn), some (.ref ch), some (.int (i : Int)), some (.ref b), some (.ref l)] ∧ Ex H H' ∧ H' l = some (.lst ((if wordN nd = "pick" then ([1, 2] : List Int) else [0]).map V.int)), ?_, ?_⟩
      · refine ⟨_, rfl, b, _, 0, .str (wordN nd), rfl, rfl, SqT.of hx, atI_nat (j := 0) rfl, rfl, _, rfl, ite2 (fun z => ?_) (fun z => ?_)⟩
        · rw [if_pos (V.str.inj (of_decide_eq_true z))]
          exact ⟨sz_of (by show 2 ≤ 100000; decide), fun l1 hl1 => ⟨l1, rfl, e2.trans (Ex.new hl1), upd_same⟩⟩
        · rw [if_neg (fun y => z (decide_eq_true (congrArg V.str y)))]
          exact ⟨l0, rfl, e2, hl2⟩
      rintro σ3 H3 ⟨l, rfl, e3, hl3⟩
      obtain ⟨xs3, hx3⟩ := word_at (NdAt.mono e3 hnb)
      refine ⟨fun σ' H' => ∃ l, σ' = [some (.ref N), some (.ref fn), some (.ref ch), some (.int (i : Int)), some (.ref b), some (.ref l)] ∧ Ex H H' ∧ H' l = some (.lst ((optL nd (srcOf rs nd)).map V.int)), ?_, ?_⟩
      · refine ⟨_, rfl, b, _, 0, .str (wordN nd), rfl, rfl, SqT.of hx3, atI_nat (j := 0) rfl, rfl, _, rfl, ite2 (fun z => ?_) (fun z => iteF ⟨l, rfl, e3, ?_⟩)⟩
        · have hw : wordN nd = "call" := V.str.inj (of_decide_eq_true z)
          rw [hw, if_neg (by decide +kernel)] at hl3
          obtain ⟨w1, os, rfl⟩ : ∃ w os, nd = .call w os := by
            cases nd with
            | call w os => exact ⟨w, os, rfl⟩
            | name w => exact absurd (show ("name" : Str) = "call" from hw) (by decide +kernel)
            | op w os =>
              have hw : w = "call" := hw
              subst hw
              rcases op_cases wf1 with ⟨e, _⟩ | ⟨e, _⟩ | ⟨e, _⟩ <;> exact absurd e (by decide +kernel)
          obtain ⟨u, hn, hu⟩ := NdAt.mono e3 hnb
          refine ⟨_, rfl, _, rfl, b, _, 1, .str w1, rfl, rfl, SqT.of hn, atI_nat (j := 1) rfl, fn, cs, rs, w1, rfl, ⟨e3 _ _ hR.1, rows_mono e3 hR.2⟩, fun q H4 e4 hq => ?_⟩
          refine ⟨q, _, rfl, .inl (SqL.of hq), _, 0, rfl, rfl, _, rfl, ?_⟩
          rw [List.length_map]
          have e34 := e3.trans e4
          cases hs : lkS rs w1 with
          | nil =>
            refine ite2 (fun z => absurd (of_decide_eq_true z) (by show ¬ (0 : Int) < ((0 : Nat) : Int); omega)) (fun _ => ⟨l, rfl, e34, ?_⟩)
            rw [e4 _ _ hl3]
            show _ = some (HO.lst ((if (lkS rs w1).isEmpty = true then [0] else lkS rs w1).map V.int))
            rw [hs]
            rfl
          | cons s0 t0 =>
            rw [← hs]
            refine ite2 (fun _ => ?_) (fun z => absurd (decide_eq_true (by rw [hs, List.length_cons]; omega)) z)
            refine ⟨_, rfl, _, rfl, b, _, 1, .str w1, rfl, rfl, SqT.of (e4 _ _ hn), atI_nat (j := 1) rfl, fn, cs, rs, w1, rfl, ⟨e34 _ _ hR.1, rows_mono e34 hR.2⟩, fun q2 H5 e5 hq2 => ⟨q2, rfl, e34.trans e5, ?_⟩⟩
            rw [hq2]
            show _ = some (HO.lst ((if (lkS rs w1).isEmpty = true then [0] else lkS rs w1).map V.int))
            rw [hs]
            rfl
        · rw [hl3]
          cases nd with
          | name w1 => rw [if_neg (show ¬ wordN (.name w1) = "pick" by show ¬ ("name" : Str) = "pick"; decide +kernel)]; rfl
          | call w1 os => exact absurd (decide_eq_true rfl) z
          | op w1 os =>
            show some (HO.lst ((if w1 = "pick" then ([1, 2] : List Int) else [0]).map V.int)) = some (HO.lst ((if (if w1 = "pick" then ([1, 2] : List Int) else [0]).isEmpty = true then [0] else (if w1 = "pick" then ([1, 2] : List Int) else [0])).map V.int))
            by_cases e : w1 = "pick"
            · rw [if_pos e]; rfl
            · rw [if_neg e]; rfl
      rintro σ4 H4 ⟨l4, rfl, e4, hl4⟩
      refine ⟨_, rfl, _, rfl, ch, _, (i : Int), .int c, rfl, rfl, SqL.of (e4 _ _ hch), atC, .int c, rfl, .inr (.inr (.inr (.inl ⟨c, rfl⟩))), _, rfl, iteF ?_⟩
      refine ⟨_, rfl, _, rfl, ch, _, (i : Int), .int c, rfl, rfl, SqL.of (e4 _ _ hch), atC, _, rfl, l4, _, rfl, .inl (SqL.of hl4), rfl, flat_is _, _, rfl, ?_⟩
      rw [if_pos rfl, inV_is, decide_eq_true (show c ∈ optL nd (srcOf rs nd) from hco)]
      exact iteF ⟨_, _, _, rfl, e4⟩
    · rintro σ' H1 ⟨v3, v4, v5, rfl, e1⟩
      exact k H1 e1
def spOrigin : Sp := fun vs H Q _ => ∃ N fn ch bs cs ns rs is w, vs = [.ref N, .ref fn, .ref ch] ∧ H N = some (.lst (bs.map V.ref)) ∧ Al2 (NdAt H) bs ns ∧ WfN ns ∧ (∀ nd ∈ ns, SrcOk nd (srcOf rs nd)) ∧ RowsAt H fn cs rs ∧ H ch = some (.lst (is.map V.int)) ∧ Al2 (ChOk rs) ns is ∧ ns ≠ [] ∧ ns.length ≤ 100 ∧ Way rs ns is (ns.length - 1) w ∧ ∀ H', Ex H H' → Q (kV w) H'
theorem ok_origin (T : Tx0 w K mg A) : FnOk P w K mg base CX0 2 A.origin A.d_origin p_origin spOrigin := by
  refine T.F_origin.ok sc_origin (fun vs H Q E h => ?_) (fun cdv Ar outer s H vs Q E hr h => ?_)
  · obtain ⟨N, fn, ch, bs, cs, ns, rs, is, kw, rfl, _⟩ := h
    rfl
  · obtain ⟨N, fn, ch, bs, cs, ns, rs, is, kw, rfl, hN, hA, wfn, so, hR, hch, hk, nO, hz, hw, k⟩ := h
    refine ⟨_, (pss_cons (ps_set (i := 3) sc_origin.nd rfl (Or.inl rfl) (pe_op op_sub (pe_callB call_len_seq (by rfl) T.m_len PySem.boot_len (pa_cons (pv 0) pa_nil)) pe_int))
      (pss_cons (ps_for PassesOwn.never rfl (pi_range1 (by rfl) T.m_range (pa_cons (pe_callB call_len_seq (by rfl) T.m_len PySem.boot_len (pa_cons (pv 0) pa_nil)) pa_nil)) (pg_name (i := 4) sc_origin.nd rfl (Or.inl rfl)) (pss_cons (ps_set (i := 5) sc_origin.nd rfl (Or.inl rfl) (pe_ix ix_list (pv 0) (pv 3) (fun _ _ => rfl)))
        (pss_cons (ps_if (pt_cmpR op_eq (pe_ix ix_tup (pv 5) pe_int (fun _ _ => rfl)) pe_str (nomark _)) (pss_one (ps_ret (pe_ix ix_tup (pv 5) pe_int (fun _ _ => rfl)))) pss_nil)
        (pss_cons (ps_if (PW.pt (pw_and (pt_cmpR op_eq (pe_ix ix_tup (pv 5) pe_int (fun _ _ => rfl)) pe_str (nomark _)) (pw_and1 (pt_cmpR op_eq (pe_callB call_len_seq (by rfl) T.m_len PySem.boot_len (pa_cons (pe_call (ok_sources T) (hr.mono (by decide)) (by rfl) T.g_sources T.F_sources.kp T.b_sources .nil pass0 (pa_cons (pv 1) (pa_cons (pe_ix ix_tup (pv 5) pe_int (fun _ _ => rfl)) pa_nil))) pa_nil)) pe_int (nomark _))))) (pss_one (ps_ret (pv 3))) pss_nil)
        (pss_one (ps_if (pt_cmpR op_eq (pe_ix ix_tup (pv 5) pe_int (fun _ _ => rfl)) pe_str (nomark _)) (pss_one (ps_set (i := 3) sc_origin.nd rfl (Or.inl rfl) (pe_ix ix_tup (pe_ix ix_tup (pv 5) pe_int (fun _ _ => rfl)) (pe_op op_sub (pe_ix ix_list (pv 2) (pv 3) (fun _ _ => rfl)) pe_int) (fun _ _ => rfl)))) (pss_one (ps_if (pt_cmpR op_eq (pe_ix ix_tup (pv 5) pe_int (fun _ _ => rfl)) pe_str (nomark _)) (pss_one (ps_set (i := 3) sc_origin.nd rfl (Or.inl rfl) (pe_ix ix_tup (pv 5) (pe_ix ix_list (pv 2) (pv 3) (fun _ _ => rfl)) (fun _ _ => rfl)))) (pss_one (ps_set (i := 3) sc_origin.nd rfl (Or.inl rfl) (pe_ix ix_tup (pv 5) (pe_op op_sub (pe_callB call_len_seq (by rfl) T.m_len PySem.boot_len (pa_cons (pv 5) pa_nil)) pe_int) (fun _ _ => rfl))))))))))))
      (pss_one (ps_ret pe_non)))), ?_⟩
    have lbs : bs.length = ns.length := hA.len
    have hnp : 0 < ns.length := List.length_pos_iff.mpr nO
    refine ⟨_, rfl, N, _, rfl, .inl (SqL.of hN), _, 1, rfl, rfl, ?_⟩
    refine ⟨_, rfl, N, _, rfl, .inl (SqL.of hN), _, rfl, ?_⟩
    refine forR1 ⟨by rw [List.length_map]; omega, by rw [List.length_map]; omega⟩ (fun s σ' H' => ∃ (a : Nat) (v4 v5 : Option V), σ' = [some (.ref N), some (.ref fn), some (.ref ch), some (.int (a : Int)), v4, v5] ∧ Ex H H' ∧ Way rs ns is a kw ∧ a + s + 1 ≤ ns.length) ⟨ns.length - 1, none, none, ?_, Ex.refl _, hw, by omega⟩ ?_ ?_
    · show [some (.ref N), some (.ref fn), some (.ref ch), some (V.int ((((bs.map V.ref).length : Nat) : Int) - 1)), none, none] = _
      rw [show (((bs.map V.ref).length : Nat) : Int) - 1 = ((ns.length - 1 : Nat) : Int) by rw [List.length_map, lbs]; omega]
    · rintro s σ' H1 hs ⟨a, v4, v5, rfl, e1, way, hle⟩
      obtain ⟨nd, hnd⟩ : ∃ nd, ns[a]? = some nd := ⟨_, List.getElem?_eq_getElem (by omega)⟩
      obtain ⟨b, hb⟩ : ∃ b, bs[a]? = some b := ⟨_, List.getElem?_eq_getElem (by omega)⟩
      obtain ⟨nd', hnd', hnb⟩ := hA.get a b hb
      rw [hnd] at hnd'
      obtain rfl := Option.some.inj hnd'
      obtain ⟨c, hc, hco⟩ := hk.get a nd hnd
      obtain ⟨wf1, hops⟩ := wfn a nd hnd
      have so1 := so nd (List.mem_of_getElem? hnd)
      have had := NdAt.mono e1 hnb
      have atB : atI (bs.map V.ref) ((a : Nat) : Int) = some (.ref b) := atI_nat (by rw [List.getElem?_map, hb]; rfl)
      have atC : atI (is.map V.int) ((a : Nat) : Int) = some (.int c) := atI_nat (by rw [List.getElem?_map, hc]; rfl)
      have inv : ((givJ nd (srcOf rs nd)).isEmpty = true ∧ kw = ownK nd a) ∨ ∃ j, giveN nd (srcOf rs nd) c = some j ∧ Way rs ns is j kw := by
        cases way with
        | own h hg => rw [hnd] at h; cases h; exact .inl ⟨hg, rfl⟩
        | give h h2 hg w2 => rw [hnd] at h; cases h; rw [hc] at h2; cases h2; exact .inr ⟨_, hg, w2⟩
      refine ⟨_, rfl, _, rfl, N, _, (a : Int), .ref b, rfl, rfl, SqL.of (e1 _ _ hN), atB, ?_⟩
      have next : ∀ {j : Nat} {x : V}, x = .int (j : Int) → giveN nd (srcOf rs nd) c = some j → Way rs ns is j kw → ∃ (a' : Nat) (v4' v5' : Option V), [some (.ref N), some (.ref fn), some (.ref ch), some x, some (.int (s : Int)), some (.ref b)] = [some (.ref N), some (.ref fn), some (.ref ch), some (.int (a' : Int)), v4', v5'] ∧ Ex H H1 ∧ Way rs ns is a' kw ∧ a' + (s + 1) + 1 ≤ ns.length := fun {j x} hx hg w2 => by
        subst hx
        have := hops j (give_ops wf1 so1 hco hg)
        exact ⟨j, _, _, rfl, e1, w2, by omega⟩
      cases nd with
      | name w1 =>
        have hn : H1 b = some (.tup [.str "name", .str w1]) := had
        refine ⟨_, rfl, b, _, 0, .str "name", rfl, rfl, SqT.of hn, atI_nat (j := 0) rfl, rfl, _, rfl, ite2 (fun _ => ?_) (fun z => absurd (by decide +kernel) z)⟩
        refine ⟨_, rfl, b, _, 1, .str w1, rfl, rfl, SqT.of hn, atI_nat (j := 1) rfl, ?_⟩
        rcases inv with ⟨_, hk0⟩ | ⟨j, hg, _⟩
        · rw [hk0] at k
          exact k H1 e1
        · cases hg
      | op w1 os =>
        have hn : H1 b = some (.tup (.str w1 :: ni os)) := had
        obtain ⟨j, hg, w2⟩ : ∃ j, giveN (.op w1 os) (srcOf rs (.op w1 os)) c = some j ∧ Way rs ns is j kw := by
          rcases inv with ⟨he, _⟩ | h
          · exfalso
            have he : (if w1 = "part" then [os.getD 0 0] else if w1 = "pick" then [os.getD 0 0, os.getD 1 0] else [os.getD 1 0]).isEmpty = true := he
            split at he
            · cases he
            · split at he <;> cases he
          · exact h
        have hj := Option.some.inj (show some (if w1 = "part" then os.getD 0 0 else if w1 = "pick" then os.getD (c - 1).toNat 0 else os.getD 1 0) = some j from hg)
        rcases op_cases wf1 with ⟨rfl, m, rfl⟩ | ⟨rfl, m, n, rfl⟩ | ⟨rfl, m, n, rfl⟩
        · refine ⟨_, rfl, b, _, 0, .str "part", rfl, rfl, SqT.of hn, atI_nat (j := 0) rfl, rfl, _, rfl, ite2 (fun z => absurd z (by decide +kernel)) (fun _ => ?_)⟩
          refine ⟨_, rfl, b, _, 0, .str "part", rfl, rfl, SqT.of hn, atI_nat (j := 0) rfl, rfl, _, rfl, ite2 (fun z => absurd z (by decide +kernel)) (fun _ => iteF ?_)⟩
          refine ⟨_, rfl, b, _, 0, .str "part", rfl, rfl, SqT.of hn, atI_nat (j := 0) rfl, rfl, _, rfl, ite2 (fun z => absurd z (by decide +kernel)) (fun _ => ?_)⟩
          refine ⟨_, rfl, b, _, 0, .str "part", rfl, rfl, SqT.of hn, atI_nat (j := 0) rfl, rfl, _, rfl, ite2 (fun z => absurd z (by decide +kernel)) (fun _ => ?_)⟩
          refine ⟨_, rfl, _, rfl, b, _, rfl, .inr (SqT.of hn), _, 1, rfl, rfl, b, _, _, .int ((m : Nat) : Int), rfl, rfl, SqT.of hn, atI_nat (j := 1) rfl, ?_⟩
          rw [if_pos rfl] at hj
          exact next (j := j) (by rw [← hj]; rfl) hg w2
        · refine ⟨_, rfl, b, _, 0, .str "pick", rfl, rfl, SqT.of hn, atI_nat (j := 0) rfl, rfl, _, rfl, ite2 (fun z => absurd z (by decide +kernel)) (fun _ => ?_)⟩
          refine ⟨_, rfl, b, _, 0, .str "pick", rfl, rfl, SqT.of hn, atI_nat (j := 0) rfl, rfl, _, rfl, ite2 (fun z => absurd z (by decide +kernel)) (fun _ => iteF ?_)⟩
          refine ⟨_, rfl, b, _, 0, .str "pick", rfl, rfl, SqT.of hn, atI_nat (j := 0) rfl, rfl, _, rfl, ite2 (fun z => absurd z (by decide +kernel)) (fun _ => ?_)⟩
          refine ⟨_, rfl, b, _, 0, .str "pick", rfl, rfl, SqT.of hn, atI_nat (j := 0) rfl, rfl, _, rfl, ite2 (fun _ => ?_) (fun z => absurd (by decide +kernel) z)⟩
          rw [if_neg (by decide +kernel), if_pos rfl] at hj
          have hc12 : c ∈ (if ([1, 2] : List Int).isEmpty = true then [0] else ([1, 2] : List Int)) := hco
          rw [if_neg (by decide)] at hc12
          refine ⟨_, rfl, _, rfl, _, rfl, ch, _, (a : Int), .int c, rfl, rfl, SqL.of (e1 _ _ hch), atC, b, _, c, .int (j : Int), rfl, rfl, SqT.of hn, ?_, next rfl hg w2⟩
          rcases (by simpa using hc12 : c = 1 ∨ c = 2) with rfl | rfl
          · rw [← hj]; exact atI_nat (j := 1) rfl
          · rw [← hj]; exact atI_nat (j := 2) rfl
        · refine ⟨_, rfl, b, _, 0, .str "then", rfl, rfl, SqT.of hn, atI_nat (j := 0) rfl, rfl, _, rfl, ite2 (fun z => absurd z (by decide +kernel)) (fun _ => ?_)⟩
          refine ⟨_, rfl, b, _, 0, .str "then", rfl, rfl, SqT.of hn, atI_nat (j := 0) rfl, rfl, _, rfl, ite2 (fun z => absurd z (by decide +kernel)) (fun _ => iteF ?_)⟩
          refine ⟨_, rfl, b, _, 0, .str "then", rfl, rfl, SqT.of hn, atI_nat (j := 0) rfl, rfl, _, rfl, ite2 (fun z => absurd z (by decide +kernel)) (fun _ => ?_)⟩
          refine ⟨_, rfl, b, _, 0, .str "then", rfl, rfl, SqT.of hn, atI_nat (j := 0) rfl, rfl, _, rfl, ite2 (fun z => absurd z (by decide +kernel)) (fun _ => ?_)⟩
          refine ⟨_, rfl, _, rfl, b, _, rfl, .inr (SqT.of hn), _, 1, rfl, rfl, b, _, _, .int ((n : Nat) : Int), rfl, rfl, SqT.of hn, atI_nat (j := 2) rfl, ?_⟩
          rw [if_neg (by decide +kernel), if_neg (by decide +kernel)] at hj
          exact next (j := j) (by rw [← hj]; rfl) hg w2
      | call w1 os =>
        obtain ⟨u, hn, hu⟩ := had
        have so2 : Asc os.length (lkS rs w1) := so1
        have hR1 : RowsAt H1 fn cs rs := ⟨e1 _ _ hR.1, rows_mono e1 hR.2⟩
        refine ⟨_, rfl, b, _, 0, .str "call", rfl, rfl, SqT.of hn, atI_nat (j := 0) rfl, rfl, _, rfl, ite2 (fun z => absurd z (by decide +kernel)) (fun _ => ?_)⟩
        refine ⟨_, rfl, b, _, 0, .str "call", rfl, rfl, SqT.of hn, atI_nat (j := 0) rfl, rfl, _, rfl, ite2 (fun _ => ?_) (fun z => absurd (by decide +kernel) z)⟩
        refine ⟨_, rfl, _, rfl, b, _, 1, .str w1, rfl, rfl, SqT.of hn, atI_nat (j := 1) rfl, fn, cs, rs, w1, rfl, hR1, fun q H2 e2 hq => ?_⟩
        have e12 := e1.trans e2
        refine ⟨q, _, rfl, .inl (SqL.of hq), rfl, _, rfl, ?_⟩
        rw [List.length_map]
        cases hs0 : lkS rs w1 with
        | nil =>
          refine iteT ⟨_, rfl, ?_⟩
          rcases inv with ⟨_, hk0⟩ | ⟨j, hg, _⟩
          · rw [hk0] at k
            exact k H2 e12
          · have hg : (if (lkS rs w1).isEmpty then none else some (os.getD (c - 1).toNat 0)) = some j := hg
            rw [hs0] at hg
            cases hg
        | cons s0 t0 =>
          rw [← hs0]
          refine ite2 (fun z => absurd (V.int.inj (of_decide_eq_true z)) (by rw [hs0, List.length_cons]; omega)) (fun _ => ?_)
          obtain ⟨j, hg, w2⟩ : ∃ j, giveN (.call w1 os) (srcOf rs (.call w1 os)) c = some j ∧ Way rs ns is j kw := by
            rcases inv with ⟨he, _⟩ | h
            · exfalso
              have he : ((lkS rs w1).map fun s => os.getD (s - 1).toNat 0).isEmpty = true := he
              rw [hs0] at he
              cases he
            · exact h
          have hj : (if (lkS rs w1).isEmpty then none else some (os.getD (c - 1).toNat 0)) = some j := hg
          rw [hs0] at hj
          have hj := Option.some.inj (show some (os.getD (c - 1).toNat 0) = some j from hj)
          have hcm : c ∈ (if (lkS rs w1).isEmpty = true then [0] else lkS rs w1) := hco
          rw [hs0] at hcm
          have hcm : c ∈ lkS rs w1 := by rw [hs0]; exact hcm
          obtain ⟨g1, g2⟩ := so2.2 c hcm
          have sz : (c - 1).toNat < os.length := by omega
          have at0 : atI (ni os) (c - 1) = some (.int ((j : Nat) : Int)) := by
            have e2 : c - 1 = (((c - 1).toNat : Nat) : Int) := by omega
            rw [e2, ← hj]
            refine atI_nat ?_
            rw [ni, List.getElem?_map, List.getElem?_eq_getElem sz, List.getD_eq_getElem?_getD, List.getElem?_eq_getElem sz]
            rfl
          have hn2 := e2 _ _ hn
          refine ⟨_, rfl, b, _, 0, .str "call", rfl, rfl, SqT.of hn2, atI_nat (j := 0) rfl, rfl, _, rfl, ite2 (fun _ => ?_) (fun z => absurd (by decide +kernel) z)⟩
          refine ⟨_, rfl, b, _, 2, .ref u, rfl, rfl, SqT.of hn2, atI_nat (j := 2) rfl, _, rfl, _, rfl, ch, _, (a : Int), .int c, rfl, rfl, SqL.of (e12 _ _ hch), atC, c, 1, rfl, rfl, u, _, _, .int (j : Int), rfl, rfl, SqT.of (e2 _ _ hu), at0, ?_⟩
          have := hops j (give_ops wf1 so1 hco hg)
          exact ⟨j, _, _, rfl, e12, w2, by omega⟩
    · rintro σ' H1 ⟨a, v4, v5, rfl, e1, way, hle⟩
      rw [List.length_map, lbs, Int.toNat_natCast] at hle
      omega
def spTold (K : PySem.W.Frag) (X B S : Addr) : Sp := fun vs H Q _ => ∃ x b v ns ss rs, vs = [.ref x, .ref b, v] ∧ ExAt X H x ns ∧ BookAt K B S H b ss rs ∧ (∀ nd ∈ ns, WfNd nd ∧ WkNd okS nd ∧ CallOk rs nd) ∧ WfN ns ∧ ns ≠ [] ∧ ns.length ≤ 25 ∧ Wtd v ∧
  (lackL rs ns = none → (∀ k, v = kV k → k ∉ (resL rs ns).getD (ns.length - 1) []) → ∀ T H', Ex H H' → H' T = some (.lst [.str "none", v, .non]) → Q (.ref T) H') ∧
  (lackL rs ns = none → ∀ k, v = kV k → k ∈ (resL rs ns).getD (ns.length - 1) [] → ∀ T p cs H', Ex H H' → H' T = some (.lst [.str "way", .non, .ref p]) → H' p = some (.lst (cs.map V.int)) → Al2 (ChOk rs) ns cs → Way rs ns cs (ns.length - 1) k → Q (.ref T) H') ∧
  (∀ w, lackL rs ns = some w → ∀ T H', Ex H H' → H' T = some (.lst [.str "unknown", .str w, .non]) → Q (.ref T) H')
theorem ok_told (T : Tx0 w K mg A) : FnOk P w K mg base CX0 20 A.told A.d_told p_told (spTold K A.Expression A.Book A.Signature) := by
  refine T.F_told.ok sc_told (fun vs H Q E h => ?_) (fun cdv Ar outer s H vs Q E hr h => ?_)
  · obtain ⟨x, b, v, ns, ss, rs, rfl, _⟩ := h
    rfl
  · obtain ⟨x, b, v, ns, ss, rs, rfl, ex, bk, wf, wfn, nO, lz, wd, k1, k2, k3⟩ := h
    refine ⟨_, (pss_cons (ps_set (i := 3) sc_told.nd rfl (Or.inl rfl) pe_non)
      (pss_cons (ps_set (i := 4) sc_told.nd rfl (Or.inl rfl) (pe_lst (pa_cons pe_str (pa_cons pe_non pa_nil))))
      (pss_cons (UL.ps_try_asMany (i := 5) rfl rfl sc_told.nd rfl rfl takes0 (fun W pn xe tk _ => (pss_one (ps_set (i := 3) sc_told.nd rfl (Or.inl rfl) (pe_callS (E := WE W) (ok_choice_for_result T) (hr.mono (by decide)) (by rfl) T.g_choice_for_result T.F_choice_for_result.kp T.b_choice_for_result (fun σ => passAt tk σ) (pa_cons (pv 0) (pa_cons (pv 1) (pa_cons (pv 2) pa_nil))))))) (.cons ⟨rfl, by decide, Or.inl T.g_NoWay⟩ (fun a oe cls d pn hz hf => (pss_one (ps_set (i := 4) sc_told.nd rfl (Or.inl rfl) (pe_lst (pa_cons pe_str (pa_cons (pe_xf T.ex_NoWay.xf T.ex_NoWay.nw hz hf (pv 5)) pa_nil)))))) (.cons ⟨rfl, by decide, Or.inl T.g_UnknownFunction⟩ (fun a oe cls d pn hz hf => (pss_one (ps_set (i := 4) sc_told.nd rfl (Or.inl rfl) (pe_lst (pa_cons pe_str (pa_cons (pe_xf T.ex_UnknownFunction.xf T.ex_UnknownFunction.nw hz hf (pv 5)) pa_nil)))))) .nil)))
      (pss_one (ps_ret (pe_op op_cat (pv 4) (pe_lst (pa_cons (pv 3) pa_nil)))))))), ?_⟩
    refine ⟨sz_of (by show 2 ≤ 100000; decide), fun L0 hL0 => ?_⟩
    have e0 := Ex.new (o := .lst [.str "way", .non]) hL0
    have h0 : upd H L0 (.lst [.str "way", .non]) L0 = some (.lst [.str "way", .non]) := upd_same
    generalize upd H L0 (.lst [.str "way", .non]) = H0 at e0 h0 ⊢
    refine ⟨_, rfl, _, rfl, _, rfl, x, b, v, ns, ss, rs, rfl, ex.mono e0, bk.mono e0, wf, wfn, nO, lz, wd, fun hl hno d H1 e1 hd => ?_, fun hl k hk hm p cs H1 e1 hp hc hw hpn => ?_, fun w1 hl d H1 e1 hd => ?_⟩
    · refine ⟨true, T.te_nn, fun _ y hy => ?_, fun q => Bool.noConfusion q⟩
      refine ⟨_, rfl, rfl, rfl, d, _, v, rfl, hd, rfl, sz_of (by show 2 ≤ 100000; decide), fun p hp => ?_⟩
      refine ⟨_, rfl, _, rfl, sz_of (by show 1 ≤ 100000; decide), fun L2 hL2 => ⟨p, L2, _, _, rfl, rfl, Ex.new hL2 _ _ upd_same, upd_same, sz_of (by show 3 ≤ 100000; decide), fun T hT => ?_⟩⟩
      exact k1 hl hno T _ ((((e0.trans e1).trans (Ex.new hp)).trans (Ex.new hL2)).trans (Ex.new hT)) upd_same
    · refine ⟨_, rfl, _, rfl, sz_of (by show 1 ≤ 100000; decide), fun L2 hL2 => ⟨L0, L2, _, _, rfl, rfl, Ex.new hL2 _ _ (e1 _ _ h0), upd_same, sz_of (by show 3 ≤ 100000; decide), fun T hT => ?_⟩⟩
      exact k2 hl k hk hm T p cs _ (((e0.trans e1).trans (Ex.new hL2)).trans (Ex.new hT)) upd_same (Ex.new hT _ _ (Ex.new hL2 _ _ hp)) hc hw
    · refine ⟨false, T.te_un, fun q => Bool.noConfusion q, fun _ => ⟨true, T.te_uu, fun _ y hy => ?_, fun q => Bool.noConfusion q⟩⟩
      refine ⟨_, rfl, rfl, rfl, d, _, .str w1, rfl, hd, rfl, sz_of (by show 2 ≤ 100000; decide), fun p hp => ?_⟩
      refine ⟨_, rfl, _, rfl, sz_of (by show 1 ≤ 100000; decide), fun L2 hL2 => ⟨p, L2, _, _, rfl, rfl, Ex.new hL2 _ _ upd_same, upd_same, sz_of (by show 3 ≤ 100000; decide), fun T hT => ?_⟩⟩
      exact k3 w1 hl T _ ((((e0.trans e1).trans (Ex.new hp)).trans (Ex.new hL2)).trans (Ex.new hT)) upd_same
def spSame : Sp := fun vs H Q _ => ∃ v, vs = [v, v] ∧ Wtd v ∧ (∀ z, v = .str z → PyData.strOk z = true) ∧ Q (.bl true) H
theorem ok_same (T : Tx0 w K mg A) : FnOk P w K mg base CX0 1 A.same A.d_same p_same spSame := by
  refine T.F_same.ok sc_same (fun vs H Q E h => ?_) (fun cdv Ar outer s H vs Q E hr h => ?_)
  · obtain ⟨v, rfl, _⟩ := h
    rfl
  · obtain ⟨v, rfl, wd, sz, k⟩ := h
    refine ⟨_, (pss_cons (ps_if (PW.pt (pw_or (pt_cmpR op_ne (pe_callB call_isi (by rfl) T.m_isinstance (by decide +kernel) (pa_cons (pv 0) (pa_cons (pe_bltn (v := .ty "bool") (u := .type "bool") (by rfl) T.m_bool (by decide +kernel) rfl) pa_nil))) (pe_callB call_isi (by rfl) T.m_isinstance (by decide +kernel) (pa_cons (pv 1) (pa_cons (pe_bltn (v := .ty "bool") (u := .type "bool") (by rfl) T.m_bool (by decide +kernel) rfl) pa_nil))) (nomark _)) (pw_or1 (pt_cmpR op_ne (pe_callB call_isi (by rfl) T.m_isinstance (by decide +kernel) (pa_cons (pv 0) (pa_cons (pe_bltn (v := .ty "str") (u := .type "str") (by rfl) T.m_str (by decide +kernel) rfl) pa_nil))) (pe_callB call_isi (by rfl) T.m_isinstance (by decide +kernel) (pa_cons (pv 1) (pa_cons (pe_bltn (v := .ty "str") (u := .type "str") (by rfl) T.m_str (by decide +kernel) rfl) pa_nil))) (nomark _))))) (pss_one (ps_ret pe_bl)) pss_nil)
      (pss_one (ps_ret (pe_cmpR (op_eqD hr.units) (pv 0) (pv 1) (nomark _))))), ?_⟩
    have nB : ∀ c : Bool, (!decide (V.bl c = V.bl c)) = false := fun c => by rw [decide_eq_true rfl]; rfl
    have fin : ∀ (c d : Bool) (t : Value), TyX K H v t → PySem.W.kitOne K t (.type "bool") = some c → PySem.W.kitOne K t (.type "str") = some d → ∀ dd, Dp K H v dd → SeqAt.shaped dd = true → True := fun _ _ _ _ _ _ _ _ _ => trivial
    obtain ⟨t, c, e, dd, h1, h2, h3, h4, h5⟩ : ∃ t c e dd, TyX K H v t ∧ PySem.W.kitOne K t (.type "bool") = some c ∧ PySem.W.kitOne K t (.type "str") = some e ∧ Dp K H v dd ∧ SeqAt.shaped dd = true := by
      rcases wd with ⟨k0, rfl, _⟩ | ⟨b, rfl⟩ | rfl
      · cases k0 with
        | inl i => exact ⟨_, false, false, .int i, .base (.int i), kit_ty (r := false) (by decide +kernel), kit_ty (r := false) (by decide +kernel), .int i, rfl⟩
        | inr z =>
          refine ⟨_, false, true, .str z, .base (.str z), kit_ty (r := false) (by decide +kernel), kit_ty (r := true) (by decide +kernel), .str z, ?_⟩
          unfold SeqAt.shaped
          rw [Bool.and_eq_true]
          refine ⟨by simp only [PyData.canLay0, sz z rfl], decide_eq_true ?_⟩
          simp only [PyData.depth]
          omega
      · exact ⟨_, true, false, .bool b, .base (.bl b), kit_ty (r := true) (by decide +kernel), kit_ty (r := false) (by decide +kernel), .bl b, by cases b <;> rfl⟩
      · exact ⟨_, false, false, .none, .base .non, kit_ty (r := false) (by decide +kernel), kit_ty (r := false) (by decide +kernel), .non, rfl⟩
    refine ⟨_, rfl, v, _, t, _, _, rfl, .ty "bool", h1, h2, _, rfl, v, _, t, _, _, rfl, .ty "bool", h1, h2, rfl, _, rfl, ?_⟩
    rw [nB]
    refine iteF ⟨_, rfl, v, _, t, _, _, rfl, .ty "str", h1, h3, _, rfl, v, _, t, _, _, rfl, .ty "str", h1, h3, rfl, _, rfl, ?_⟩
    rw [nB]
    refine iteF ⟨_, rfl, _, rfl, dd, dd, h4, h4, h5, h5, ?_⟩
    rw [SeqAt.eqv_refl _ (SeqAt.canLay_of_shaped h5)]
    exact k
def Wv (v : V) : Prop := Wtd v ∧ ∀ z, v = .str z → PyData.strOk z = true
def spHolds (K : PySem.W.Frag) (X B S : Addr) : Sp := fun vs H Q _ => ∃ x b N fn R v bs cs ns ss rs ks, vs = [.ref x, .ref b, .ref N, .ref fn, .ref R, v] ∧ ExAt X H x ns ∧ BookAt K B S H b ss rs ∧ H N = some (.lst (bs.map V.ref)) ∧ Al2 (NdAt H) bs ns ∧ RowsAt H fn cs rs ∧ KsAt H R ks ∧ (∀ k, k ∈ ks ↔ k ∈ (resL rs ns).getD (ns.length - 1) []) ∧ WfN ns ∧ (∀ nd ∈ ns, WfNd nd ∧ WkNd okS nd ∧ CallOk rs nd) ∧ (∀ nd ∈ ns, SrcOk nd (srcOf rs nd)) ∧ lackL rs ns = none ∧ ns ≠ [] ∧ ns.length ≤ 25 ∧ Wv v ∧ ∀ H', Ex H H' → Q (.bl true) H'
theorem ok_lholds (T : Tx0 w K mg A) : FnOk P w K mg base CX0 21 A.lholds A.d_lholds p_lholds (spHolds K A.Expression A.Book A.Signature) := by
  refine T.F_lholds.ok sc_lholds (fun vs H Q E h => ?_) (fun cdv Ar outer s H vs Q E hr h => ?_)
  · obtain ⟨x, b, N, fn, R, v, bs, cs, ns, ss, rs, ks, rfl, _⟩ := h
    rfl
  · obtain ⟨x, b, N, fn, R, v, bs, cs, ns, ss, rs, ks, rfl, ex, bk, hN, hA, hR, hK, same, wfn, wf, so, hl, nO, lz, ⟨wd, sz⟩, k⟩ := h
    refine ⟨_, (pss_cons (ps_set (i := 6) sc_lholds.nd rfl (Or.inl rfl) (pe_call (ok_told T) (hr.mono (by decide)) (by rfl) T.g_told T.F_told.kp T.b_told .nil pass0 (pa_cons (pv 0) (pa_cons (pv 1) (pa_cons (pv 5) pa_nil)))))
      (pss_cons (ps_if (PW.pt (pw_or (pt_val (pe_callB call_isi (by rfl) T.m_isinstance (by decide +kernel) (pa_cons (pv 5) (pa_cons (pe_bltn (v := .ty "bool") (u := .type "bool") (by rfl) T.m_bool (by decide +kernel) rfl) pa_nil)))) (pw_or1 (pt_cmpR op_notIn_seq (pv 5) (pv 4) (by rfl))))) (pss_one (ps_ret (pe_and (pe_cmpR op_eq (pe_ix ix_list (pv 6) pe_int (fun _ _ => rfl)) pe_str (nomark _)) (pe_one (pe_call (ok_same T) (hr.mono (by decide)) (by rfl) T.g_same T.F_same.kp T.b_same .nil pass0 (pa_cons (pe_ix ix_list (pv 6) pe_int (fun _ _ => rfl)) (pa_cons (pv 5) pa_nil))))))) pss_nil)
      (pss_cons (ps_if (PW.pt (pw_or (pt_cmpR op_ne (pe_ix ix_list (pv 6) pe_int (fun _ _ => rfl)) pe_str (nomark _)) (pw_or1 (pt_not (pt_val (pe_call (ok_lchoice T) (hr.mono (by decide)) (by rfl) T.g_lchoice T.F_lchoice.kp T.b_lchoice .nil pass0 (pa_cons (pv 2) (pa_cons (pv 3) (pa_cons (pe_ix ix_list (pv 6) pe_int (fun _ _ => rfl)) pa_nil))))))))) (pss_one (ps_ret pe_bl)) pss_nil)
      (pss_one (ps_ret (pe_call (ok_same T) (hr.mono (by decide)) (by rfl) T.g_same T.F_same.kp T.b_same .nil pass0 (pa_cons (pe_call (ok_origin T) (hr.mono (by decide)) (by rfl) T.g_origin T.F_origin.kp T.b_origin .nil pass0 (pa_cons (pv 2) (pa_cons (pv 3) (pa_cons (pe_ix ix_list (pv 6) pe_int (fun _ _ => rfl)) pa_nil)))) (pa_cons (pv 5) pa_nil)))))))), ?_⟩
    have hK0 : H R = some (.lst (ks.map kV)) := hK
    refine ⟨_, rfl, _, rfl, _, rfl, x, b, v, ns, ss, rs, rfl, ex, bk, wf, wfn, nO, lz, wd, fun _ hno T H1 e1 hT => ?_, fun _ k0 hk hm T p is H1 e1 hT hp hc hw => ?_, fun w hw => by rw [hl] at hw; cases hw⟩
    · have fin : tRet (tAndV (tOp rEq (tOp (rIxL K) (tVar 6) (tC (V.int 0))) (tC (V.str ("none")))) (tCall spSame [] E0 (tCons (tOp (rIxL K) (tVar 6) (tC (V.int 1))) (tCons (tVar 5) tNil)))) { nx := fun x H' => Q V.non H', rt := Q } [some (.ref x), some (.ref b), some (.ref N), some (.ref fn), some (.ref R), some v, some (.ref T)] H1 := by
        refine ⟨_, rfl, T, _, 0, .str "none", rfl, rfl, SqL.of hT, atI_nat (j := 0) rfl, rfl, true, rfl, iteT ?_⟩
        exact ⟨_, rfl, T, _, 1, v, rfl, rfl, SqL.of hT, atI_nat (j := 1) rfl, _, rfl, v, rfl, wd, sz, k H1 e1⟩
      rcases wd with ⟨k0, rfl, _⟩ | ⟨c, rfl⟩ | rfl
      · have ni : isin ks k0 = false := by
          cases hi : isin ks k0 with
          | true => exact absurd ((same k0).mp (isin_iff.mp hi)) (hno k0 rfl)
          | false => rfl
        obtain ⟨t, g1, g2⟩ : ∃ t, TyX K H1 (kV k0) t ∧ PySem.W.kitOne K t (.type "bool") = some false := by
          cases k0 with
          | inl i => exact ⟨_, .base (.int i), kit_ty (r := false) (by decide +kernel)⟩
          | inr z => exact ⟨_, .base (.str z), kit_ty (r := false) (by decide +kernel)⟩
        refine ⟨_, rfl, kV k0, _, t, _, _, rfl, .ty "bool", g1, g2, _, rfl, iteF ?_⟩
        refine ⟨_, rfl, _, rfl, R, _, rfl, .inl (SqL.of (e1 _ _ hK0)), flat_kV k0, flat_kVs ks, _, rfl, ?_⟩
        rw [if_pos rfl, inV_kV, ni]
        exact iteT fin
      · exact ⟨_, rfl, .bl c, _, _, _, true, rfl, .ty "bool", .base (.bl c), kit_ty (r := true) (by decide +kernel), _, rfl, iteT (iteT fin)⟩
      · refine ⟨_, rfl, .non, _, _, _, false, rfl, .ty "bool", .base .non, kit_ty (r := false) (by decide +kernel), _, rfl, iteF ?_⟩
        refine ⟨_, rfl, _, rfl, R, _, rfl, .inl (SqL.of (e1 _ _ hK0)), rfl, flat_kVs ks, _, rfl, ?_⟩
        have ni : inV V.non (ks.map kV) = false := by
          unfold inV
          rw [List.any_map, List.any_eq_false]
          intro k1 _ e
          cases k1 <;> cases e
        rw [if_pos rfl, ni]
        exact iteT fin
    · subst hk
      obtain ⟨t, g1, g2⟩ : ∃ t, TyX K H1 (kV k0) t ∧ PySem.W.kitOne K t (.type "bool") = some false := by
        cases k0 with
        | inl i => exact ⟨_, .base (.int i), kit_ty (r := false) (by decide +kernel)⟩
        | inr z => exact ⟨_, .base (.str z), kit_ty (r := false) (by decide +kernel)⟩
      refine ⟨_, rfl, kV k0, _, t, _, _, rfl, .ty "bool", g1, g2, _, rfl, iteF ?_⟩
      refine ⟨_, rfl, _, rfl, R, _, rfl, .inl (SqL.of (e1 _ _ hK0)), flat_kV k0, flat_kVs ks, _, rfl, ?_⟩
      rw [if_pos rfl, inV_kV, isin_iff.mpr ((same k0).mpr hm)]
      refine iteF ?_
      have al : Al2 (NdAt H1) bs ns := hA.imp fun _ _ z => NdAt.mono e1 z
      have hR1 : RowsAt H1 fn cs rs := ⟨e1 _ _ hR.1, rows_mono e1 hR.2⟩
      refine ⟨_, rfl, T, _, 0, .str "way", rfl, rfl, SqL.of hT, atI_nat (j := 0) rfl, rfl, _, rfl, ite2 (fun z => absurd z (by decide +kernel)) (fun _ => ?_)⟩
      refine ⟨_, rfl, _, rfl, _, rfl, T, _, 2, .ref p, rfl, rfl, SqL.of hT, atI_nat (j := 2) rfl, N, fn, p, bs, cs, ns, rs, is, rfl, e1 _ _ hN, al, fun nd h => (wf nd h).1, hR1, hp, hc, by omega, fun H2 e2 => ⟨_, rfl, iteF ?_⟩⟩
      have e12 := e1.trans e2
      refine ⟨_, rfl, _, rfl, _, rfl, T, _, 2, .ref p, rfl, rfl, SqL.of (e2 _ _ hT), atI_nat (j := 2) rfl, N, fn, p, bs, cs, ns, rs, is, k0, rfl, e12 _ _ hN, hA.imp fun _ _ z => NdAt.mono e12 z, wfn, so, ⟨e12 _ _ hR.1, rows_mono e12 hR.2⟩, e2 _ _ hp, hc, nO, by omega, hw, fun H3 e3 => ?_⟩
      exact ⟨_, rfl, _, rfl, wd, sz, k H3 (e12.trans e3)⟩
end
end K18

set_option Elab.async false
set_option linter.all false
set_option maxRecDepth 100000
namespace K18
open PySem PySem.Spec PyProof.Rows L2 Evl TL UL StX
section
variable {P : Program} {w : World} {K : PySem.W.Frag} {mg : Str → Option Value} {base : Heap} {A : Adr}
theorem shaped_told {w : Str} (ow : okS w = true) : SeqAt.shaped (.list [.str "unknown", .str w, .none]) = true := by
  unfold SeqAt.shaped
  rw [Bool.and_eq_true]
  refine ⟨by simp only [PyData.canLay0, PyData.canLayAll0, okS_str ow, okS_str (show okS "unknown" = true by decide +kernel), Bool.and_true], decide_eq_true ?_⟩
  simp only [PyData.depth, PyData.depthAll]
  omega
theorem src_all {rs : List Rw} {ns : List Nd} (gd : ∀ r ∈ rs, good r) (nn : (rs.map (·.1)).Nodup) (ok : ∀ nd ∈ ns, CallOk rs nd) (hl : lackL rs ns = none) : ∀ nd ∈ ns, SrcOk nd (srcOf rs nd) := fun nd h => src_ok gd nn (ok nd h) (lack_none hl nd h)
theorem lack_ok {rs : List Rw} {ns : List Nd} {w : Str} (wk : ∀ nd ∈ ns, WkNd okS nd) (hl : lackL rs ns = some w) : okS w = true := by
  obtain ⟨nd, hnd, hla⟩ := List.exists_of_findSome?_eq_some hl
  cases nd with
  | name w0 => cases hla
  | op w0 os => cases hla
  | call w0 os =>
    have hla : (if w0 ∈ rs.map (·.1) then none else some w0) = some w := hla
    by_cases hm : w0 ∈ rs.map (·.1)
    · rw [if_pos hm] at hla
      cases hla
    · rw [if_neg hm] at hla
      cases hla
      exact wk _ hnd
theorem shaped_one {w : Str} (ow : okS w = true) : SeqAt.shaped (.str w) = true := by
  unfold SeqAt.shaped
  rw [Bool.and_eq_true]
  refine ⟨by simp only [PyData.canLay0, okS_str ow], decide_eq_true ?_⟩
  simp only [PyData.depth]
  omega
theorem res_ne {rs : List Rw} {ns : List Nd} (wf : WfN ns) (so : ∀ nd ∈ ns, SrcOk nd (srcOf rs nd)) : ∀ (i : Nat) (ks : List Key), (resL rs ns)[i]? = some ks → ks ≠ [] := by
  intro i
  induction i using Nat.strongRecOn with
  | ind i ih =>
    intro ks h
    have hl := (List.getElem?_eq_some_iff.mp h).1
    rw [res_len] at hl
    obtain ⟨nd, hnd⟩ : ∃ nd, ns[i]? = some nd := ⟨_, List.getElem?_eq_getElem hl⟩
    have e := res_at (rs := rs) hnd
    rw [h] at e
    rw [Option.some.inj e]
    have lt := giv_lt wf (so nd (List.mem_of_getElem? hnd)) hnd
    unfold resN
    cases hg : givJ nd (srcOf rs nd) with
    | nil => exact List.cons_ne_nil _ _
    | cons j t =>
      rw [if_neg (by show ¬ (false = true); exact Bool.false_ne_true)]
      have hj := lt j (by rw [hg]; exact List.mem_cons_self)
      obtain ⟨l, hlj⟩ : ∃ l, (resL rs ns)[j]? = some l := ⟨_, List.getElem?_eq_getElem (by rw [res_len]; omega)⟩
      have hn := ih j hj l hlj
      obtain ⟨y, hy⟩ := List.exists_mem_of_ne_nil l hn
      intro z
      have : y ∈ unit1 ((j :: t).map fun j => (resL rs (ns.take i)).getD j []).flatten := by
        rw [mem_unit1, List.map_cons, List.flatten_cons, List.mem_append]
        left
        rw [res_old hj (by omega), List.getD_eq_getElem?_getD, hlj]
        exact hy
      rw [z] at this
      cases this
def keyOk : Key → Prop
  | .inl _ => True
  | .inr z => okS z = true
theorem res_keys {rs : List Rw} {ns : List Nd} (wk : ∀ nd ∈ ns, WkNd okS nd) : ∀ ks ∈ resL rs ns, ∀ k ∈ ks, keyOk k := fun ks hks k hk => by
  have h := (res_own rs _ ns rfl ks hks).1 k hk
  unfold ownU at h
  obtain ⟨i, hi, e⟩ := List.mem_mapIdx.mp h
  have hw := wk ns[i] (List.getElem_mem hi)
  rw [← e]
  cases hn : ns[i] with
  | name w => rw [hn] at hw; exact hw
  | call w os => trivial
  | op w os => trivial
theorem root_at {H : Hp} {as : List Addr} {L : List (List Key)} {rs : List Rw} {ns : List Nd} {m : Int} (hal : Al2 (KsAt H) as L) (sm : Same L (resL rs ns)) (nO : ns ≠ []) (hm : m = (ns.length : Int)) : ∃ (r : Addr) (ks : List Key), atI (as.map V.ref) (m - 1) = some (.ref r) ∧ H r = some (.lst (ks.map kV)) ∧ ks.length ≤ ns.length ∧ ∀ k, k ∈ ks ↔ k ∈ (resL rs ns).getD (ns.length - 1) [] := by
  have hnp : 0 < ns.length := List.length_pos_iff.mpr nO
  have lL : as.length = ns.length := by rw [hal.len, sm.len, res_len]
  obtain ⟨r, hr⟩ : ∃ r, as[ns.length - 1]? = some r := ⟨_, List.getElem?_eq_getElem (by omega)⟩
  obtain ⟨ks, hks, hkr⟩ := hal.get _ r hr
  refine ⟨r, ks, ?_, hkr, sm.small ks (List.mem_of_getElem? hks), fun k => ?_⟩
  · rw [show m - 1 = ((ns.length - 1 : Nat) : Int) by omega]
    exact atI_nat (by rw [List.getElem?_map, hr]; rfl)
  · rw [← sm.mem _ k, List.getD_eq_getElem?_getD, hks]
    rfl
theorem root_ne {rs : List Rw} {ns : List Nd} {ks : List Key} (wf : WfN ns) (so : ∀ nd ∈ ns, SrcOk nd (srcOf rs nd)) (nO : ns ≠ []) (h : ∀ k, k ∈ ks ↔ k ∈ (resL rs ns).getD (ns.length - 1) []) : ks ≠ [] := by
  have hnp : 0 < ns.length := List.length_pos_iff.mpr nO
  obtain ⟨l, hl⟩ : ∃ l, (resL rs ns)[ns.length - 1]? = some l := ⟨_, List.getElem?_eq_getElem (by rw [res_len]; omega)⟩
  obtain ⟨y, hy⟩ := List.exists_mem_of_ne_nil l (res_ne wf so _ l hl)
  intro e
  have := (h y).mpr (by rw [List.getD_eq_getElem?_getD, hl]; exact hy)
  rw [e] at this
  cases this
theorem wv_key {k : Key} (h : keyOk k) : Wv (kV k) := by
  cases k with
  | inl i => exact ⟨.inl ⟨.inl i, rfl, fun z e => by cases e⟩, fun z e => by cases e⟩
  | inr z => exact ⟨.inl ⟨.inr z, rfl, fun z' e => by cases e; have := okS_len h; omega⟩, fun z' e => by cases e; exact okS_str h⟩
theorem wv_int (i : Int) : Wv (.int i) := wv_key (k := .inl i) trivial
theorem wv_str {z : Str} (h : okS z = true) : Wv (.str z) := wv_key (k := .inr z) h
theorem root_wv {rs : List Rw} {ns : List Nd} {ks : List Key} (wk : ∀ nd ∈ ns, WkNd okS nd) (h : ∀ k, k ∈ ks ↔ k ∈ (resL rs ns).getD (ns.length - 1) []) : ∀ k ∈ ks, Wv (kV k) := fun k hk => by
  have hm := (h k).mp hk
  rw [List.getD_eq_getElem?_getD] at hm
  cases hq : (resL rs ns)[ns.length - 1]? with
  | none => rw [hq] at hm; cases hm
  | some l => rw [hq] at hm; exact wv_key (res_keys (rs := rs) wk l (List.mem_of_getElem? hq) k hm)
set_option maxHeartbeats 6400000
theorem lacking_head {rs : List Rw} {ns : List Nd} : (ns.filterMap (lacks rs)).head? = lackL rs ns := List.head?_filterMap
def spLaw (K : PySem.W.Frag) : Sp := fun vs H Q _ => ∃ (a : Addr) (ns : List Int), vs = [.ref a] ∧ SqL K H a (ns.map V.int) ∧ ns.length ≤ 63 ∧ ∀ H', Q (.bl true) H'
theorem ok_law (T : Tx0 w K mg A) : FnOk P w K mg base CX0 26 A.law A.d_law p_law (spLaw K) := by
  refine T.F_law.ok sc_law (fun vs H Q E h => ?_) (fun cdv Ar outer s H vs Q E hr h => ?_)
  · obtain ⟨a, ns, rfl, _⟩ := h
    rfl
  · obtain ⟨a, ns, rfl, hS, hlen, k⟩ := h
    refine ⟨_, (pss_cons (ps_set (i := 1) sc_law.nd rfl (Or.inr rfl) (pe_call (ok_draws T) (hr.mono (by decide)) (by rfl) T.g_draws T.F_draws.kp T.b_draws .nil pass0 (pa_cons (pv 0) pa_nil)))
      (pss_cons (ps_setLc (i := 2) (own := [("_law_k", 17)]) (g := gName 17) (tt := tYes) rfl sc_law.nd rfl rfl (sw_true rfl rfl rfl (by decide +kernel)) (pi_range1 (by rfl) T.m_range (pa_cons (pe_call (ok_take T) (hr.mono (by decide)) (by rfl) T.g_take T.F_take.kp T.b_take .nil pass0 (pa_cons (pv 1) (pa_cons pe_int pa_nil))) pa_nil)) (blkOk_by (N := n_law) (sc := defScope s_law) (by decide +kernel)) (fun _ _ _ _ _ => pg_name (i := 17) sc_law.nd rfl (Or.inl rfl)) (fun _ _ _ _ _ => pts_nil) (fun _ _ _ _ _ => (pe_call (ok_name T) (hr.mono (by decide)) (by rfl) T.g_name T.F_name.kp T.b_name .nil pass0 (pa_cons (pv 1) (pa_cons (pv 17) pa_nil)))))
      (pss_cons (ps_set (i := 3) sc_law.nd rfl (Or.inr rfl) (pe_call (ok_functions T) (hr.mono (by decide)) (by rfl) T.g_functions T.F_functions.kp T.b_functions .nil pass0 (pa_cons (pv 1) pa_nil)))
      (pss_cons (ps_set (i := 4) sc_law.nd rfl (Or.inl rfl) (pe_call (ok_expression T) (hr.mono (by decide)) (by rfl) T.g_expression T.F_expression.kp T.b_expression .nil pass0 (pa_cons (pv 1) (pa_cons (pv 2) (pa_cons (pv 3) (pa_cons (pe_op op_add pe_int (pe_call (ok_take T) (hr.mono (by decide)) (by rfl) T.g_take T.F_take.kp T.b_take .nil pass0 (pa_cons (pv 1) (pa_cons pe_int pa_nil)))) pa_nil))))))
      (pss_cons (ps_set (i := 5) sc_law.nd rfl (Or.inl rfl) (pe_ix ix_list (pv 4) pe_int (fun _ _ => rfl)))
      (pss_cons (ps_set (i := 6) sc_law.nd rfl (Or.inl rfl) (pe_ix ix_list (pe_call (ok_lresults T) (hr.mono (by decide)) (by rfl) T.g_lresults T.F_lresults.kp T.b_lresults .nil pass0 (pa_cons (pv 5) (pa_cons (pv 3) pa_nil))) (pe_op op_sub (pe_callB call_len_seq (by rfl) T.m_len PySem.boot_len (pa_cons (pv 5) pa_nil)) pe_int) (fun _ _ => rfl)))
      (pss_cons (ps_set (i := 7) sc_law.nd rfl (Or.inl rfl) (ClX.pe_cmeth (pe_glob (v := .ref A.Expression) (by rfl) T.g_Expression rfl) T.cr_Expression T.cm_ex_read ((ok_ex_read T).raw T.b_ex_read .nil) (hr.mono (by decide)) pass0 (pa_cons (pe_ix ix_list (pv 4) pe_int (fun _ _ => rfl)) pa_nil)))
      (pss_cons (ps_set (i := 8) sc_law.nd rfl (Or.inl rfl) (pe_call (ok_book_rows T) (hr.mono (by decide)) (by rfl) T.g_book_rows T.F_book_rows.kp T.b_book_rows .nil pass0 (pa_cons (pv 3) pa_nil)))
      (Evl.pss_cut (ps_set (i := 9) sc_law.nd rfl (Or.inl rfl) (pe_op op_cat (pe_op op_cat (pv 2) (pe_lc (own := [("_law_at", 20)]) (g := gName 20) (tt := tYes) rfl sc_law.nd (pi_range1 (by rfl) T.m_range (pa_cons (pe_callB call_len_seq (by rfl) T.m_len PySem.boot_len (pa_cons (pv 5) pa_nil)) pa_nil)) (blkOk_by (N := n_law) (sc := defScope s_law) (by decide +kernel)) (fun _ _ _ _ _ => pg_name (i := 20) sc_law.nd rfl (Or.inl rfl)) (fun _ _ _ _ _ => pts_nil) (fun _ _ _ _ _ => (pv 20)))) (pe_lst (pa_cons (pe_un un_neg pe_int) (pa_cons pe_int (pa_cons (pe_call (ok_name T) (hr.mono (by decide)) (by rfl) T.g_name T.F_name.kp T.b_name .nil pass0 (pa_cons (pv 1) (pa_cons (pe_op op_add pe_int (pe_call (ok_take T) (hr.mono (by decide)) (by rfl) T.g_take T.F_take.kp T.b_take .nil pass0 (pa_cons (pv 1) (pa_cons pe_int pa_nil)))) pa_nil))) pa_nil))))))
      (Evl.pss_cut (ps_set (i := 9) sc_law.nd rfl (Or.inl rfl) (pe_op op_cat (pv 9) (pe_lst (pa_cons pe_bl (pa_cons pe_bl (pa_cons pe_non (pa_cons pe_str pa_nil)))))))
      (Evl.pss_cut (ps_for PassesOwn.never rfl (pi_list (pv 9)) (pg_name (i := 10) sc_law.nd rfl (Or.inl rfl)) (pss_one (ps_if (pt_not (pt_val (pe_call (ok_lholds T) (hr.mono (by decide)) (by rfl) T.g_lholds T.F_lholds.kp T.b_lholds .nil pass0 (pa_cons (pv 7) (pa_cons (pv 8) (pa_cons (pv 5) (pa_cons (pv 3) (pa_cons (pv 6) (pa_cons (pv 10) pa_nil))))))))) (pss_one (ps_ret pe_bl)) pss_nil)))
      (Evl.pss_cut (ps_set (i := 11) sc_law.nd rfl (Or.inr rfl) (pe_op op_add pe_int (pe_call (ok_take T) (hr.mono (by decide)) (by rfl) T.g_take T.F_take.kp T.b_take .nil pass0 (pa_cons (pv 1) (pa_cons (pe_callB (call_max2 rfl) (by rfl) T.m_max (by decide +kernel) (pa_cons pe_int (pa_cons (pe_op op_sub (pe_callB call_len_seq (by rfl) T.m_len PySem.boot_len (pa_cons (pv 3) pa_nil)) pe_int) pa_nil))) pa_nil)))))
      (pss_cons (ps_set (i := 12) sc_law.nd rfl (Or.inl rfl) (pe_call (ok_others T) (hr.mono (by decide)) (by rfl) T.g_others T.F_others.kp T.b_others .nil pass0 (pa_cons (pv 3) (pa_cons (pv 11) pa_nil))))
      (Evl.pss_cut (ps_set (i := 13) sc_law.nd rfl (Or.inl rfl) (pe_ix ix_list (pe_call (ok_lresults T) (hr.mono (by decide)) (by rfl) T.g_lresults T.F_lresults.kp T.b_lresults .nil pass0 (pa_cons (pv 5) (pa_cons (pv 12) pa_nil))) (pe_op op_sub (pe_callB call_len_seq (by rfl) T.m_len PySem.boot_len (pa_cons (pv 5) pa_nil)) pe_int) (fun _ _ => rfl)))
      (Evl.pss_cut (ps_for PassesOwn.never rfl (pi_list (pv 9)) (pg_name (i := 10) sc_law.nd rfl (Or.inl rfl)) (pss_one (ps_if (pt_not (pt_val (pe_call (ok_lholds T) (hr.mono (by decide)) (by rfl) T.g_lholds T.F_lholds.kp T.b_lholds .nil pass0 (pa_cons (pv 7) (pa_cons (pe_call (ok_book_rows T) (hr.mono (by decide)) (by rfl) T.g_book_rows T.F_book_rows.kp T.b_book_rows .nil pass0 (pa_cons (pv 12) pa_nil)) (pa_cons (pv 5) (pa_cons (pv 12) (pa_cons (pv 13) (pa_cons (pv 10) pa_nil))))))))) (pss_one (ps_ret pe_bl)) pss_nil)))
      (Evl.pss_cut (ps_setLc (i := 14) (own := [("_law_k", 17)]) (g := gName 17) rfl sc_law.nd rfl rfl (sw_true rfl rfl rfl (by decide +kernel)) (pi_range1 (by rfl) T.m_range (pa_cons (pe_callB call_len_seq (by rfl) T.m_len PySem.boot_len (pa_cons (pv 3) pa_nil)) pa_nil)) (blkOk_by (N := n_law) (sc := defScope s_law) (by decide +kernel)) (fun _ _ _ _ _ => pg_name (i := 17) sc_law.nd rfl (Or.inl rfl)) (fun _ _ _ _ _ => pts_one (pt_cmpR op_ne (pv 17) (pv 11) (nomark _))) (fun _ _ _ _ _ => (pe_ix (show IxR _ (rIxL K) from ix_list) (pv 3) (pv 17) (fun _ _ => rfl))))
      (Evl.pss_cut (ps_set (i := 15) sc_law.nd rfl (Or.inr rfl) (pe_lc (own := [("_law_one", 18)]) (g := gName 18) (tt := tYes) rfl sc_law.nd (pi_list (pv 14)) (blkOk_by (N := n_law) (sc := defScope s_law) (by decide +kernel)) (fun _ _ _ _ _ => pg_name (i := 18) sc_law.nd rfl (Or.inl rfl)) (fun _ _ _ _ _ => pts_nil) (fun _ _ _ _ _ => (pe_ix (show IxR _ (rIxL K) from ix_list) (pv 18) pe_int (fun _ _ => rfl)))))
      (Evl.pss_cut (ps_setLc (i := 16) (own := [("_law_node", 19)]) (g := gName 19) rfl sc_law.nd rfl rfl (sw_true rfl rfl rfl (by decide +kernel)) (pi_list (pv 5)) (blkOk_by (N := n_law) (sc := defScope s_law) (by decide +kernel)) (fun _ _ _ _ _ => pg_name (i := 19) sc_law.nd rfl (Or.inl rfl)) (fun _ _ _ _ _ => pts_one (PW.pt (pw_and (pt_cmpR op_eq (pe_ix (show IxR _ (rIxT K) from ix_tup) (pv 19) pe_int (fun _ _ => rfl)) pe_str (nomark _)) (pw_and1 (pt_cmpR (show OpR _ _ (rIn K true) from op_notIn_seq) (pe_ix (show IxR _ (rIxT K) from ix_tup) (pv 19) pe_int (fun _ _ => rfl)) (pv 15) (by rfl)))))) (fun _ _ _ _ _ => (pe_ix (show IxR _ (rIxT K) from ix_tup) (pv 19) pe_int (fun _ _ => rfl))))
      (Evl.pss_cut (ps_if (pt_cmpR op_gt (pe_callB call_len_seq (by rfl) T.m_len PySem.boot_len (pa_cons (pv 16) pa_nil)) pe_int (nomark _)) (pss_one (ps_for PassesOwn.never rfl (pi_list (pe_lst (pa_cons (pe_ix ix_list (pv 6) pe_int (fun _ _ => rfl)) (pa_cons (pe_un un_neg pe_int) pa_nil)))) (pg_name (i := 10) sc_law.nd rfl (Or.inl rfl)) (pss_one (ps_if (pt_cmpR (op_neD hr.units) (pe_call (ok_told T) (hr.mono (by decide)) (by rfl) T.g_told T.F_told.kp T.b_told .nil pass0 (pa_cons (pv 7) (pa_cons (pe_call (ok_book_rows T) (hr.mono (by decide)) (by rfl) T.g_book_rows T.F_book_rows.kp T.b_book_rows .nil pass0 (pa_cons (pv 14) pa_nil)) (pa_cons (pv 10) pa_nil)))) (pe_lst (pa_cons pe_str (pa_cons (pe_ix ix_list (pv 16) pe_int (fun _ _ => rfl)) (pa_cons pe_non pa_nil)))) (nomark _)) (pss_one (ps_ret pe_bl)) pss_nil)))) pss_nil)
      (pss_one (ps_ret (pe_call (ok_lholds T) (hr.mono (by decide)) (by rfl) T.g_lholds T.F_lholds.kp T.b_lholds .nil pass0 (pa_cons (pv 7) (pa_cons (pv 8) (pa_cons (pv 5) (pa_cons (pv 3) (pa_cons (pv 6) (pa_cons (pe_ix ix_list (pv 6) (pe_call (ok_take T) (hr.mono (by decide)) (by rfl) T.g_take T.F_take.kp T.b_take .nil pass0 (pa_cons (pv 1) (pa_cons (pe_callB call_len_seq (by rfl) T.m_len PySem.boot_len (pa_cons (pv 6) pa_nil)) pa_nil))) (fun _ _ => rfl)) pa_nil)))))))))))))))))))))))))))), ?_⟩
    refine ⟨_, rfl, a, ns, rfl, hS, hlen, fun d hdn => ?_⟩
    have hd0 : upd H d (DrO d) d = some (DrO d) := upd_same
    generalize upd H d (DrO d) = H0 at hd0 ⊢
    refine ⟨_, rfl, d, _, rfl, hd0, by decide, fun m m0 m1 => ?_⟩
    refine ⟨m, rfl, by omega, by omega, fun D hD => ?_⟩
    refine lc_n (G := fun _ x => ∃ z : Str, x = .str z ∧ okS z = true) (n := m) ⟨m0, by omega⟩ hD (fun _ _ _ _ h => h) (fun _ _ _ _ _ h => h) (fun _ => rfl) (fun i H' hi e Q' q => ?_) (fun H1 ys e1 hD1 hn hy => ?_)
    · exact ⟨_, rfl, _, rfl, d, (i : Int), rfl, e _ _ hd0, by omega, by omega, fun z H2 hz _ e2 => q _ _ e2 ⟨z, rfl, hz⟩⟩
    obtain ⟨ws, rfl, hws⟩ : ∃ ws : List Str, ys = ws.map V.str ∧ ∀ w ∈ ws, okS w = true := by
      clear hD1 hn
      induction ys with
      | nil => exact ⟨[], rfl, fun w hw => by cases hw⟩
      | cons y r ih =>
        obtain ⟨z, rfl, hz⟩ := hy y List.mem_cons_self
        obtain ⟨ws, rfl, h2⟩ := ih fun x hx => hy x (List.mem_cons_of_mem _ hx)
        refine ⟨z :: ws, rfl, fun w hw => ?_⟩
        rcases List.mem_cons.mp hw with rfl | hw
        · exact hz
        · exact h2 w hw
    rw [List.length_map] at hn
    refine ⟨_, rfl, d, rfl, e1 _ _ hd0, fun F fs rs H2 hFn e2 hF hfit hrl => ?_⟩
    have hdA := e2 _ _ (e1 _ _ hd0)
    have hD2 := e2 _ _ hD1
    have hgr : ∀ r ∈ newR :: copyR :: rs, good r := fun r hr => by
      rcases List.mem_cons.mp hr with rfl | hr
      · exact good_new
      · rcases List.mem_cons.mp hr with rfl | hr
        · exact good_copy
        · exact hfit.gd r hr
    refine ⟨_, rfl, _, rfl, _, rfl, _, rfl, d, _, rfl, hdA, by decide, fun q q0 q1 => ?_⟩
    refine ⟨1, q, rfl, rfl, d, D, F, 1 + q, ws, fs, rs, rfl, hdA, hD2, hws, by omega, hF, hgr, by omega, by omega, fun p1 N1 as1 z1 ns1 H3 e3 hp1 hN1 hA1 hg1 hz1 hn1 hci _ _ _ => ?_⟩
    obtain ⟨wfn, wkn⟩ := good_wf hg1
    have wf1 : ∀ nd ∈ ns1, WfNd nd := fun nd hnd => by
      obtain ⟨j, hj⟩ := List.getElem?_of_mem hnd
      exact (wfn j nd hj).1
    refine ⟨_, rfl, p1, _, 0, .ref N1, rfl, rfl, SqL.of hp1, atI_nat (j := 0) rfl, ?_⟩
    have hF3 : RowsAt H3 F fs (newR :: copyR :: rs) := ⟨e3 _ _ hF.1, rows_mono e3 hF.2⟩
    obtain ⟨RS, hRS⟩ : ∃ RS, RS = newR :: copyR :: rs := ⟨_, rfl⟩
    have hF3' : RowsAt H3 F fs RS := by rw [hRS]; exact hF3
    have hnl1 : ns1.length ≤ 20 := by omega
    have nO : ns1 ≠ [] := hg1.1
    have nnd : (RS.map (·.1)).Nodup := by
      rw [hRS]
      show (("new" : Str) :: ("copy" : Str) :: rs.map (·.1)).Nodup
      rw [List.nodup_cons, List.nodup_cons]
      refine ⟨fun hm => ?_, fun hm => ?_, hfit.nd⟩
      · rcases List.mem_cons.mp hm with e | hm
        · exact absurd e (by decide +kernel)
        · obtain ⟨r0, h0, e⟩ := List.mem_map.mp hm
          exact (hfit.nn r0 h0).1 e
      · obtain ⟨r0, h0, e⟩ := List.mem_map.mp hm
        exact (hfit.nn r0 h0).2 e
    have hgr1 : ∀ r ∈ RS, good r := fun r hr => hgr r (by rw [← hRS]; exact hr)
    have ok1 : ∀ nd ∈ ns1, CallOk RS nd ∧ lacks RS nd = none := fun nd hnd => call_ok nnd (by rw [hRS]; exact hci nd hnd)
    have lk1 : lackL RS ns1 = none := lack_all fun nd hnd => (ok1 nd hnd).2
    have all1 : ∀ nd ∈ ns1, WfNd nd ∧ WkNd okS nd ∧ CallOk RS nd := fun nd hnd => ⟨wf1 nd hnd, wkn nd hnd, (ok1 nd hnd).1⟩
    have so1 := src_all hgr1 nnd (fun nd hnd => (ok1 nd hnd).1) lk1
    have nd1 := nnd
    refine ⟨_, rfl, _, rfl, N1, F, as1, fs, ns1, RS, rfl, hN1, hA1, wfn, so1, hF3', by omega, fun p0 L0s LS H4 e4 hp0 hal sm hpn => ?_⟩
    obtain ⟨r1, ks1, atr, hr1, lks1, root1⟩ := root_at (m := (((as1.map V.ref).length : Nat) : Int)) hal sm nO (by rw [List.length_map, hA1.len])
    have ne1 := root_ne wfn so1 nO root1
    have rw1 := root_wv wkn root1
    refine ⟨_, rfl, N1, _, rfl, .inl (SqL.of (e4 _ _ hN1)), _, 1, rfl, rfl, p0, _, _, .ref r1, rfl, rfl, SqL.of hp0, atr, ?_⟩
    refine ⟨rfl, _, rfl, p1, _, 1, .str z1, rfl, rfl, SqL.of (e4 _ _ hp1), atI_nat (j := 1) rfl, z1, ns1, rfl, by omega, good_run hg1, hn1, fun x1 H7 e7 hx1 => ?_⟩
    have e37 := (e4).trans e7
    refine ⟨_, rfl, F, fs, rs, rfl, ⟨e37 _ _ hF3.1, rows_mono e37 hF3.2⟩, hfit, fun H8 x2 ss _ e8 hb => ?_⟩
    rw [← hRS] at hb
    have e38 := e37.trans e8
    have hx8 := hx1.mono e8
    have nd1 := hb.nd
    have hgr1 : ∀ r ∈ RS, good r := fun r hr => hgr r (by rw [← hRS]; exact hr)
    have ok1 : ∀ nd ∈ ns1, CallOk RS nd ∧ lacks RS nd = none := fun nd hnd => call_ok nd1 (by rw [hRS]; exact hci nd hnd)
    have lk1 : lackL RS ns1 = none := lack_all fun nd hnd => (ok1 nd hnd).2
    have all1 : ∀ nd ∈ ns1, WfNd nd ∧ WkNd okS nd ∧ CallOk RS nd := fun nd hnd => ⟨wf1 nd hnd, wkn nd hnd, (ok1 nd hnd).1⟩
    have so1 := src_all hgr1 nd1 (fun nd hnd => (ok1 nd hnd).1) lk1
    have hr8 := (e7.trans e8) _ _ hr1
    have hD8 := e38 _ _ (e3 _ _ hD2)
    have hd8 := e38 _ _ (e3 _ _ hdA)
    have e88 : Ex H8 H8 := Ex.refl _
    clear hr1 hal hp0
    refine ⟨fun σ' H' => ∃ (E0 : Addr) (vs : List V), σ' = [some (V.ref a), some (V.ref d), some (V.ref D), some (V.ref F), some (V.ref p1), some (V.ref N1), some (V.ref r1), some (V.ref x1), some (V.ref x2), some (V.ref E0), none, none, none, none, none, none, none, none, none, none, none] ∧ Ex H8 H' ∧ H' E0 = some (.lst vs) ∧ (∀ v ∈ vs, Wv v) ∧ vs.length ≤ 50, ?_, ?_⟩
    · refine ⟨_, rfl, _, rfl, N1, _, rfl, .inl (SqL.of (e38 _ _ hN1)), _, rfl, by rw [List.length_map, hA1.len]; omega, by rw [List.length_map, hA1.len]; omega, fun C hC => ?_⟩
      have lN : ((((as1.map V.ref).length : Nat) : Int)).toNat = ns1.length := by rw [List.length_map, Int.toNat_natCast, hA1.len]
      refine lc_range (lo := 0) (n := _) (fun j H' => Ex H8 H' ∧ H' C = some (.lst ((List.range j).map fun i : Nat => V.int (i : Int)))) ⟨Ex.new hC, by rw [upd_same]; rfl⟩ ?_ ?_
      · rintro j HX hj ⟨ea, hCa⟩
        rw [lN] at hj
        have z0 : (0 : Int) + (j : Int) = (j : Int) := Int.zero_add _
        refine ⟨rfl, ?_⟩
        rw [z0]
        refine ⟨_, rfl, _, hCa, sz_lt (by rw [List.length_map, List.length_range]; omega), ea.mut hC, ?_⟩
        rw [upd_same, List.range_succ, List.map_append]
        rfl
      rintro HX ⟨ea, hCa⟩
      rw [lN] at hCa
      refine ⟨D, C, _, _, rfl, rfl, ea _ _ hD8, hCa, sz_of (by rw [List.length_map, List.length_map, List.length_range]; omega), fun C1 hC1 => ?_⟩
      have eb := ea.trans (Ex.new (o := .lst (ws.map V.str ++ (List.range ns1.length).map fun i : Nat => V.int (i : Int))) hC1)
      refine ⟨1, rfl, _, rfl, _, rfl, d, 30, rfl, eb _ _ hd8, by decide, fun m' m0' m1' => ⟨30, m', rfl, rfl, d, _, rfl, eb _ _ hd8, by omega, by omega, fun z HY hz _ ec => ?_⟩⟩
      refine ⟨sz_of (by show 3 ≤ 100000; decide), fun C2 hC2 => ⟨C1, C2, _, _, rfl, rfl, (Ex.new hC2) _ _ (ec _ _ upd_same), upd_same, sz_of ?_, fun E hE => ⟨E, _, rfl, ((eb.trans ec).trans (Ex.new hC2)).trans (Ex.new hE), upd_same, fun v hv => ?_, ?_⟩⟩⟩
      · rw [List.length_append, List.length_map, List.length_map, List.length_range]
        show ws.length + ns1.length + 3 ≤ 100000
        omega
      · rcases List.mem_append.mp hv with hv | hv
        · rcases List.mem_append.mp hv with hv | hv
          · obtain ⟨w, hw, rfl⟩ := List.mem_map.mp hv
            exact wv_str (hws w hw)
          · obtain ⟨i, _, rfl⟩ := List.mem_map.mp hv
            exact wv_int _
        · rcases List.mem_cons.mp hv with rfl | hv
          · exact wv_int _
          · rcases List.mem_cons.mp hv with rfl | hv
            · exact wv_int _
            · rw [List.mem_singleton.mp hv]
              exact wv_str hz
      · rw [List.length_append, List.length_append, List.length_map, List.length_map, List.length_range]
        show ws.length + ns1.length + 3 ≤ 50
        omega
    rintro _ H9 ⟨E0, vs0, rfl, e9, hE0, wv0, lv0⟩
    refine ⟨fun σ' H' => ∃ (E1 : Addr) (vs : List V), σ' = [some (V.ref a), some (V.ref d), some (V.ref D), some (V.ref F), some (V.ref p1), some (V.ref N1), some (V.ref r1), some (V.ref x1), some (V.ref x2), some (V.ref E1), none, none, none, none, none, none, none, none, none, none, none] ∧ Ex H9 H' ∧ H' E1 = some (.lst vs) ∧ (∀ v ∈ vs, Wv v) ∧ vs.length ≤ 60, ?_, ?_⟩
    · refine ⟨_, rfl, sz_of (by show 4 ≤ 100000; decide), fun C2 hC2 => ⟨E0, C2, _, _, rfl, rfl, (Ex.new hC2) _ _ hE0, upd_same, sz_of ?_, fun E hE => ⟨E, _, rfl, (Ex.new hC2).trans (Ex.new hE), upd_same, fun v hv => ?_, ?_⟩⟩⟩
      · show vs0.length + 4 ≤ 100000
        omega
      · rcases List.mem_append.mp hv with hv | hv
        · exact wv0 v hv
        · rcases List.mem_cons.mp hv with rfl | hv
          · exact ⟨.inr (.inl ⟨_, rfl⟩), fun z e => by cases e⟩
          · rcases List.mem_cons.mp hv with rfl | hv
            · exact ⟨.inr (.inl ⟨_, rfl⟩), fun z e => by cases e⟩
            · rcases List.mem_cons.mp hv with rfl | hv
              · exact ⟨.inr (.inr rfl), fun z e => by cases e⟩
              · rw [List.mem_singleton.mp hv]
                exact ⟨.inl ⟨.inr "", rfl, fun z e => by cases e; show (0 : Nat) ≤ 2000; omega⟩, fun z e => by cases e; decide +kernel⟩
      · rw [List.length_append]
        show vs0.length + 4 ≤ 60
        omega
    rintro _ H10 ⟨E1, vs1, rfl, e10, hE1, wv1, lv1⟩
    have e810 := e9.trans e10
    clear hE0 wv0 lv0
    refine ⟨fun σ' H' => ∃ v10, σ' = [some (V.ref a), some (V.ref d), some (V.ref D), some (V.ref F), some (V.ref p1), some (V.ref N1), some (V.ref r1), some (V.ref x1), some (V.ref x2), some (V.ref E1), v10, none, none, none, none, none, none, none, none, none, none] ∧ Ex H10 H', ?_, ?_⟩
    · refine ⟨_, rfl, E1, rfl, ⟨_, SqL.of hE1⟩, ?_⟩
      refine for_it (walk_list (xs := vs1)) (fun i σ' H' => ∃ v10, σ' = [some (V.ref a), some (V.ref d), some (V.ref D), some (V.ref F), some (V.ref p1), some (V.ref N1), some (V.ref r1), some (V.ref x1), some (V.ref x2), some (V.ref E1), v10, none, none, none, none, none, none, none, none, none, none] ∧ Ex H10 H') ⟨_, rfl, Ex.refl _⟩ (fun i σ' H' _ ⟨_, _, e⟩ => SqL.of (e _ _ hE1)) ?_ ?_
      · rintro i y σ' HX HY hi ⟨v10', rfl, eX⟩ ⟨rfl, hy⟩
        have hw := wv1 y (List.mem_of_getElem? hy)
        have e8X := (e810).trans eX
        refine ⟨_, rfl, _, rfl, _, rfl, _, rfl, _, rfl, _, rfl, x1, x2, N1, F, r1, y, as1, fs, ns1, ss, RS, ks1, rfl, hx8.mono e8X, hb.mono e8X, (e38.trans e8X) _ _ hN1, hA1.imp (fun _ _ z => NdAt.mono (e38.trans e8X) z), ⟨(e38.trans e8X) _ _ hF3'.1, rows_mono (e38.trans e8X) hF3'.2⟩, e8X _ _ hr8, root1, wfn, all1, so1, lk1, nO, by omega, hw, fun H' e => ⟨_, rfl, iteF ?_⟩⟩
        exact ⟨_, rfl, eX.trans e⟩
      · rintro σ' HX ⟨v10', rfl, eX⟩
        exact ⟨_, rfl, eX⟩
    rintro _ H11 ⟨v10, rfl, e11⟩
    have e811 := e810.trans e11
    have e311 := e38.trans e811
    have lfs : fs.length = rs.length + 2 := hF3.2.len
    refine ⟨fun σ' H' => ∃ gn : Nat, σ' = [some (V.ref a), some (V.ref d), some (V.ref D), some (V.ref F), some (V.ref p1), some (V.ref N1), some (V.ref r1), some (V.ref x1), some (V.ref x2), some (V.ref E1), v10, some (V.int (2 + (gn : Int))), none, none, none, none, none, none, none, none, none] ∧ H11 = H' ∧ (gn : Int) < 5, ?_, ?_⟩
    · refine ⟨_, rfl, _, rfl, F, _, rfl, .inl (SqL.of (e311 _ _ hF3.1)), _, 2, rfl, rfl, 1, _, rfl, d, _, rfl, e311 _ _ (e3 _ _ hdA), ?_, fun g0' g0 g1 => ?_⟩
      · rw [List.length_map]
        show 0 < (if _ then _ else _ : Int)
        by_cases c : ((fs.length : Nat) : Int) - 2 > 1
        · rw [if_pos c]; omega
        · rw [if_neg c]; omega
      obtain ⟨gn, rfl⟩ : ∃ gn : Nat, g0' = (gn : Int) := ⟨g0'.toNat, by omega⟩
      have gl : (gn : Int) < 5 := by
        rw [List.length_map] at g1
        by_cases c : ((fs.length : Nat) : Int) - 2 > 1
        · rw [if_pos c] at g1; omega
        · rw [if_neg c] at g1; omega
      exact ⟨2, (gn : Int), rfl, rfl, gn, rfl, rfl, gl⟩
    rintro _ _ ⟨gn, rfl, rfl, gl⟩
    have hFg := e311 _ _ hF3.1
    refine ⟨_, rfl, _, rfl, F, fs, newR :: copyR :: rs, 2 + (gn : Int), rfl, ⟨e311 _ _ hF3.1, rows_mono (e311) hF3.2⟩, fun r hr => (hgr r hr).2.1, by rw [List.length_cons, List.length_cons]; omega, fun p3 as3 H12 e12 hr3 _ => ?_⟩
    obtain ⟨rs3, hRS3, hrs3⟩ := oth_two (g := 2 + (gn : Int)) (rs := rs) (by omega)
    have fit3 : Fit rs3 := by rw [hrs3]; exact fit_oth hfit
    have nm3 := oth_names (2 + (gn : Int)) (newR :: copyR :: rs)
    obtain ⟨RS3, hR3⟩ : ∃ RS3, RS3 = newR :: copyR :: rs3 := ⟨_, rfl⟩
    have len3 : ∀ r ∈ RS3, ∃ r0 ∈ newR :: copyR :: rs, r0.1 = r.1 ∧ r0.2.1 = r.2.1 := fun r hr => by
      rw [hR3, ← hRS3] at hr
      obtain ⟨i, hi, e⟩ := List.mem_mapIdx.mp hr
      exact ⟨_, List.getElem_mem hi, by rw [← e]; exact ⟨(oth_name _ i _).1.symm, (oth_name _ i _).2.symm⟩⟩
    rw [hRS3, ← hR3] at hr3 nm3
    have ok3 : ∀ nd ∈ ns1, WfNd nd ∧ WkNd okS nd ∧ CallOk RS3 nd := fun nd hnd => ⟨wf1 nd hnd, wkn nd hnd, call_sub (ok1 nd hnd).1 (by rw [hRS]; exact len3)⟩
    have lk3 : lackL RS3 ns1 = none := lack_all fun nd hnd => by rw [lacks_names nm3, ← hRS]; exact (ok1 nd hnd).2
    have nd3 : (RS3.map (·.1)).Nodup := by rw [nm3, ← hRS]; exact nd1
    have gr3 : ∀ r ∈ RS3, good r := fun r hr => by
      rw [hR3] at hr
      rcases List.mem_cons.mp hr with rfl | hr
      · exact good_new
      · rcases List.mem_cons.mp hr with rfl | hr
        · exact good_copy
        · exact fit3.gd r hr
    have so3 := src_all gr3 nd3 (fun nd hnd => (ok3 nd hnd).2.2) lk3
    have e312 := e311.trans e12
    have e812 := e811.trans e12
    refine ⟨fun σ' H' => ∃ (r3 : Addr) (ks3 : List Key), σ' = [some (V.ref a), some (V.ref d), some (V.ref D), some (V.ref F), some (V.ref p1), some (V.ref N1), some (V.ref r1), some (V.ref x1), some (V.ref x2), some (V.ref E1), v10, some (V.int (2 + (gn : Int))), some (V.ref p3), some (V.ref r3), none, none, none, none, none, none, none] ∧ Ex H12 H' ∧ H' r3 = some (.lst (ks3.map kV)) ∧ ∀ k, k ∈ ks3 ↔ k ∈ (resL RS3 ns1).getD (ns1.length - 1) [], ?_, ?_⟩
    · refine ⟨_, rfl, _, rfl, N1, p3, as1, as3, ns1, RS3, rfl, e312 _ _ hN1, hA1.imp (fun _ _ z => NdAt.mono e312 z), wfn, so3, hr3, by omega, fun p4 L4 LS4 HX eX hp4 hal4 sm4 _ => ?_⟩
      obtain ⟨r3, ks3, at3, hr3', _, root3⟩ := root_at (m := (((as1.map V.ref).length : Nat) : Int)) hal4 sm4 nO (by rw [List.length_map, hA1.len])
      exact ⟨_, rfl, N1, _, rfl, .inl (SqL.of ((e312.trans eX) _ _ hN1)), _, 1, rfl, rfl, p4, _, _, .ref r3, rfl, rfl, SqL.of hp4, at3, r3, ks3, rfl, eX, hr3', root3⟩
    rintro _ H13 ⟨r3, ks3, rfl, e13, hr13, root3⟩
    have e813 := e812.trans e13
    have hE13 := ((e11.trans e12).trans e13) _ _ hE1
    refine ⟨fun σ' H' => ∃ v10 : Option V, σ' = [some (V.ref a), some (V.ref d), some (V.ref D), some (V.ref F), some (V.ref p1), some (V.ref N1), some (V.ref r1), some (V.ref x1), some (V.ref x2), some (V.ref E1), v10, some (V.int (2 + (gn : Int))), some (V.ref p3), some (V.ref r3), none, none, none, none, none, none, none] ∧ Ex H13 H', ?_, ?_⟩
    · refine ⟨_, rfl, E1, rfl, ⟨_, SqL.of hE13⟩, ?_⟩
      refine for_it (walk_list (xs := vs1)) (fun i σ' H' => ∃ v10 : Option V, σ' = [some (V.ref a), some (V.ref d), some (V.ref D), some (V.ref F), some (V.ref p1), some (V.ref N1), some (V.ref r1), some (V.ref x1), some (V.ref x2), some (V.ref E1), v10, some (V.int (2 + (gn : Int))), some (V.ref p3), some (V.ref r3), none, none, none, none, none, none, none] ∧ Ex H13 H') ⟨_, rfl, Ex.refl _⟩ (fun i σ' H' _ ⟨_, _, e⟩ => SqL.of (e _ _ hE13)) ?_ ?_
      · rintro i y σ' HX HY hi ⟨v10', rfl, eX⟩ ⟨rfl, hy⟩
        have hw := wv1 y (List.mem_of_getElem? hy)
        have e8X := (e813).trans eX
        refine ⟨_, rfl, _, rfl, p3, as3, rs3, rfl, by rw [← hR3]; exact ⟨(e13.trans eX) _ _ hr3.1, rows_mono (e13.trans eX) hr3.2⟩, fit3, fun H18 x4 ss4 _ e18 hb4 => ?_⟩
        rw [← hR3] at hb4
        have e8Y := e8X.trans e18
        have e3Y := e38.trans e8Y
        have eXY := (e13.trans eX).trans e18
        refine ⟨_, rfl, _, rfl, _, rfl, _, rfl, x1, x4, N1, p3, r3, y, as1, as3, ns1, ss4, RS3, ks3, rfl, hx8.mono e8Y, hb4, e3Y _ _ hN1, hA1.imp (fun _ _ z => NdAt.mono e3Y z), ⟨eXY _ _ hr3.1, rows_mono eXY hr3.2⟩, (eX.trans e18) _ _ hr13, root3, wfn, ok3, so3, lk3, nO, by omega, hw, fun H' e => ⟨_, rfl, iteF ?_⟩⟩
        exact ⟨_, rfl, eX.trans (e18.trans e)⟩
      · rintro σ' HX ⟨v10', rfl, eX⟩
        exact ⟨_, rfl, eX⟩
    rintro _ H14 ⟨v10, rfl, e14⟩
    have e814 := e813.trans e14
    have e314 := e38.trans e814
    refine ⟨fun σ' H' => ∃ D2, σ' = [some (V.ref a), some (V.ref d), some (V.ref D), some (V.ref F), some (V.ref p1), some (V.ref N1), some (V.ref r1), some (V.ref x1), some (V.ref x2), some (V.ref E1), v10, some (V.int (2 + (gn : Int))), some (V.ref p3), some (V.ref r3), some (V.ref D2), none, none, none, none, none, none] ∧ Ex H14 H' ∧ H' D2 = some (.lst ((fs.eraseIdx (gn + 2)).map V.ref)), ?_, ?_⟩
    · refine ⟨_, rfl, F, _, rfl, .inl (SqL.of (e314 _ _ hF3.1)), _, rfl, by rw [List.length_map]; omega, by rw [List.length_map]; omega, fun D2 hD2n => ?_⟩
      have lF : ((((fs.map V.ref).length : Nat) : Int)).toNat = fs.length := by rw [List.length_map, Int.toNat_natCast]
      refine lc_range (lo := 0) (n := _) (fun j H' => Ex H14 H' ∧ H' D2 = some (.lst (((fs.take j).eraseIdx (gn + 2)).map V.ref))) ⟨Ex.new hD2n, by rw [upd_same]; rfl⟩ ?_ ?_
      · rintro j H4' hj ⟨ea, hDa⟩
        rw [lF] at hj
        have z0 : (0 : Int) + (j : Int) = (j : Int) := Int.zero_add _
        have hfj : fs[j]? = some fs[j] := List.getElem?_eq_getElem hj
        refine ⟨rfl, ?_⟩
        rw [z0]
        refine ⟨_, rfl, _, rfl, rfl, _, rfl, ?_⟩
        by_cases hjg : j = gn + 2
        · rw [show (!decide (V.int (j : Int) = V.int (2 + (gn : Int)))) = false by
            rw [decide_eq_true (show V.int (j : Int) = V.int (2 + (gn : Int)) from congrArg V.int (by omega))]
            rfl]
          exact iteF ⟨ea, by rw [hDa, erase_step hfj, if_pos hjg]⟩
        · rw [show (!decide (V.int (j : Int) = V.int (2 + (gn : Int)))) = true by
            rw [decide_eq_false fun z : V.int (j : Int) = V.int (2 + (gn : Int)) => hjg (by have := V.int.inj z; omega)]
            rfl]
          refine iteT ⟨_, rfl, _, rfl, F, _, (j : Int), .ref fs[j], rfl, rfl, SqL.of (ea _ _ (e314 _ _ hF3.1)), atI_nat (by rw [List.getElem?_map, hfj]; rfl), _, hDa, sz_lt ?_, ea.mut hD2n, ?_⟩
          · rw [List.length_map]
            refine Nat.lt_of_le_of_lt ((List.eraseIdx_sublist _ _).length_le) ?_
            rw [List.length_take]
            omega
          · rw [upd_same, erase_step hfj, if_neg hjg, List.map_append]
            rfl
      rintro H15 ⟨ea, hDa⟩
      rw [lF, List.take_length] at hDa
      exact ⟨D2, rfl, ea, hDa⟩
    rintro _ H15 ⟨D2, rfl, ea, hDa⟩
    obtain ⟨RS', hRS'⟩ : ∃ RS', RS' = newR :: copyR :: rs.eraseIdx gn := ⟨_, rfl⟩
    have hFe : All2 (RowAt H15) (fs.eraseIdx (gn + 2)) RS' := by
      rw [hRS']
      exact all2_erase (rows_mono ((e314).trans ea) hF3.2) (gn + 2)
    have lf' : (fs.eraseIdx (gn + 2)).length = RS'.length := hFe.len
    have fit' : Fit (rs.eraseIdx gn) := fit_erase hfit gn
    have lRS' : RS'.length ≤ 10 := by
      rw [hRS', List.length_cons, List.length_cons]
      have := fit'.ln
      omega
    have sub' : ∀ r ∈ RS', r ∈ RS := fun r hr => by
      rw [hRS'] at hr
      rw [hRS]
      exact (List.eraseIdx_sublist (newR :: copyR :: rs) (gn + 2)).subset hr
    have all' : ∀ nd ∈ ns1, WfNd nd ∧ WkNd okS nd ∧ CallOk RS' nd := fun nd hnd => ⟨wf1 nd hnd, wkn nd hnd, call_sub (ok1 nd hnd).1 fun r hr => ⟨r, sub' r hr, rfl, rfl⟩⟩
    refine ⟨fun σ' H' => ∃ D3, σ' = [some (V.ref a), some (V.ref d), some (V.ref D), some (V.ref F), some (V.ref p1), some (V.ref N1), some (V.ref r1), some (V.ref x1), some (V.ref x2), some (V.ref E1), v10, some (V.int (2 + (gn : Int))), some (V.ref p3), some (V.ref r3), some (V.ref D2), some (V.ref D3), none, none, none, none, none] ∧ Ex H15 H' ∧ H' D3 = some (.lst (RS'.map fun r => V.str r.1)), ?_, ?_⟩
    · refine ⟨_, rfl, D2, rfl, ⟨_, SqL.of hDa⟩, fun D3 hD3n => ?_⟩
      refine lc_it (walk_list (xs := (fs.eraseIdx (gn + 2)).map V.ref)) (fun i H' => Ex H15 H' ∧ H' D3 = some (.lst ((RS'.take i).map fun r => V.str r.1))) ⟨Ex.new hD3n, upd_same⟩ (fun i H' _ z => SqL.of (z.1 _ _ hDa)) ?_ ?_
      · rintro i y H0' H4' hi ⟨eb, hDb⟩ ⟨e0, hy⟩
        subst e0
        rw [List.getElem?_map] at hy
        obtain ⟨c, hc, rfl⟩ := Option.map_eq_some_iff.mp hy
        obtain ⟨r, hr, m', h1, _⟩ := hFe.at' hc
        refine ⟨rfl, _, rfl, c, _, 0, .str r.1, rfl, rfl, SqL.of (eb _ _ h1), atI_nat (j := 0) rfl, _, hDb, sz_lt (by rw [List.length_map, List.length_take]; omega), eb.mut hD3n, ?_⟩
        rw [upd_same, List.take_add_one, hr, List.map_append]
        rfl
      rintro HW ⟨eb, hDb⟩
      rw [List.length_map, lf', List.take_length] at hDb
      exact ⟨D3, rfl, eb, hDb⟩
    rintro _ HW ⟨D3, rfl, eb, hDb⟩
    have eA : Ex H3 HW := (e314.trans ea).trans eb
    refine ⟨fun σ' H' => ∃ D4, σ' = [some (V.ref a), some (V.ref d), some (V.ref D), some (V.ref F), some (V.ref p1), some (V.ref N1), some (V.ref r1), some (V.ref x1), some (V.ref x2), some (V.ref E1), v10, some (V.int (2 + (gn : Int))), some (V.ref p3), some (V.ref r3), some (V.ref D2), some (V.ref D3), some (V.ref D4), none, none, none, none] ∧ Ex HW H' ∧ H' D4 = some (.lst ((ns1.filterMap (lacks RS')).map V.str)), ?_, ?_⟩
    · refine ⟨_, rfl, N1, rfl, ⟨_, SqL.of (eA _ _ hN1)⟩, fun D4 hD4n => ?_⟩
      have las : as1.length = ns1.length := hA1.len
      refine lc_it (walk_list (xs := as1.map V.ref)) (fun i H' => Ex HW H' ∧ H' D4 = some (.lst (((ns1.take i).filterMap (lacks RS')).map V.str))) ⟨Ex.new hD4n, upd_same⟩ (fun i H' _ z => SqL.of (z.1 _ _ (eA _ _ hN1))) ?_ ?_
      · rintro i y HZ HY hi ⟨ec, hDc⟩ ⟨e0, hy⟩
        subst e0
        rw [List.getElem?_map] at hy
        obtain ⟨c, hc, rfl⟩ := Option.map_eq_some_iff.mp hy
        obtain ⟨nd, hnd, hat⟩ := hA1.get i c hc
        have hat := NdAt.mono (eA.trans ec) hat
        have stp : (ns1.take (i + 1)).filterMap (lacks RS') = (ns1.take i).filterMap (lacks RS') ++ (lacks RS' nd).toList := by
          rw [List.take_add_one, hnd, List.filterMap_append]
          show _ ++ [nd].filterMap _ = _
          cases hla : lacks RS' nd <;> simp [List.filterMap, hla]
        have skip : lacks RS' nd = none → Ex HW HY ∧ HY D4 = some (.lst (((ns1.take (i + 1)).filterMap (lacks RS')).map V.str)) := fun hla => ⟨ec, by rw [hDc, stp, hla]; simp⟩
        refine ⟨rfl, ?_⟩
        cases nd with
        | name w0 =>
          have hat : HY c = some (.tup [.str "name", .str w0]) := hat
          exact ⟨_, rfl, c, _, 0, .str "name", rfl, rfl, SqT.of hat, atI_nat (j := 0) rfl, rfl, _, rfl, ite2 (fun z => absurd z (by decide +kernel)) (fun _ => iteF (skip rfl))⟩
        | op w0 os =>
          have hat : HY c = some (.tup (.str w0 :: ni os)) := hat
          have hw : w0 ≠ "call" := by
            rcases op_cases (wf1 _ (List.mem_of_getElem? hnd)) with ⟨rfl, _⟩ | ⟨rfl, _⟩ | ⟨rfl, _⟩ <;> decide +kernel
          exact ⟨_, rfl, c, _, 0, .str w0, rfl, rfl, SqT.of hat, atI_nat (j := 0) rfl, rfl, _, rfl, ite2 (fun z => absurd (V.str.inj (of_decide_eq_true z)) hw) (fun _ => iteF (skip rfl))⟩
        | call w0 os =>
          obtain ⟨u0, hn0, _⟩ := hat
          have fl : ((RS'.map fun r => V.str r.1)).all flatV = true := by
            rw [List.all_map]
            exact List.all_eq_true.mpr fun _ _ => rfl
          have iv : inV (.str w0) (RS'.map fun r => V.str r.1) = decide (w0 ∈ RS'.map (·.1)) := by
            have := inV_strs w0 (RS'.map (·.1))
            rw [List.map_map] at this
            exact this
          refine ⟨_, rfl, c, _, 0, .str "call", rfl, rfl, SqT.of hn0, atI_nat (j := 0) rfl, rfl, _, rfl, ite2 (fun _ => ?_) (fun z => absurd (by decide +kernel) z)⟩
          refine ⟨_, rfl, c, _, 1, .str w0, rfl, rfl, SqT.of hn0, atI_nat (j := 1) rfl, _, rfl, D3, _, rfl, .inl (SqL.of (ec _ _ hDb)), rfl, fl, _, rfl, ?_⟩
          rw [if_pos rfl, iv]
          by_cases hm : w0 ∈ RS'.map (·.1)
          · rw [decide_eq_true hm]
            exact iteF (skip (if_pos hm))
          · rw [decide_eq_false hm]
            have hla : lacks RS' (.call w0 os) = some w0 := if_neg hm
            refine iteT ⟨_, rfl, c, _, 1, .str w0, rfl, rfl, SqT.of hn0, atI_nat (j := 1) rfl, _, hDc, sz_lt ?_, ec.mut hD4n, ?_⟩
            · rw [List.length_map]
              refine Nat.lt_of_le_of_lt (List.length_filterMap_le _ _) ?_
              rw [List.length_take]
              omega
            · rw [upd_same, stp, hla, List.map_append]
              rfl
      rintro H16 ⟨ec, hDc⟩
      rw [List.length_map, las, List.take_length] at hDc
      exact ⟨D4, rfl, ec, hDc⟩
    rintro _ H16 ⟨D4, rfl, ec, hDc⟩
    have eW : Ex H15 H16 := eb.trans ec
    have head := lacking_head (rs := RS') (ns := ns1)
    have e816 := e814.trans (ea.trans eW)
    have hDa16 := eW _ _ hDa
    have hF16 : All2 (RowAt H16) (fs.eraseIdx (gn + 2)) RS' := rows_mono eW hFe
    refine ⟨fun σ' H' => ∃ v10 : Option V, σ' = [some (V.ref a), some (V.ref d), some (V.ref D), some (V.ref F), some (V.ref p1), some (V.ref N1), some (V.ref r1), some (V.ref x1), some (V.ref x2), some (V.ref E1), v10, some (V.int (2 + (gn : Int))), some (V.ref p3), some (V.ref r3), some (V.ref D2), some (V.ref D3), some (V.ref D4), none, none, none, none] ∧ Ex H16 H', ?_, ?_⟩
    · refine ⟨_, rfl, D4, _, rfl, .inl (SqL.of hDc), _, 0, rfl, rfl, _, rfl, ?_⟩
      rw [List.length_map]
      cases hl : lackL RS' ns1 with
      | none =>
        rw [hl] at head
        rw [List.head?_eq_none_iff.mp head]
        exact iteF ⟨_, rfl, Ex.refl _⟩
      | some w =>
        rw [hl] at head
        obtain ⟨tl', htl⟩ : ∃ t', ns1.filterMap (lacks RS') = w :: t' := by
          cases hq : ns1.filterMap (lacks RS') with
          | nil => rw [hq] at head; cases head
          | cons y t' => rw [hq] at head; cases head; exact ⟨t', rfl⟩
        rw [htl]
        refine ite2 (fun _ => ?_) (fun z => absurd (decide_eq_true (by rw [List.length_cons]; omega)) z)
        have ow := lack_ok wkn hl
        have hD4 := hDc
        rw [htl] at hD4
        obtain ⟨k0, kt, hk1⟩ : ∃ k0 t, ks1 = k0 :: t := List.exists_cons_of_ne_nil ne1
        have at0 : atI (ks1.map kV) 0 = some (kV k0) := by rw [hk1]; exact atI_nat (j := 0) rfl
        refine ⟨_, rfl, r1, _, 0, kV k0, rfl, rfl, SqL.of (e816 _ _ hr8), at0, 1, rfl, sz_of (by show 2 ≤ 100000; decide), fun q hq => ⟨q, rfl, ⟨_, SqL.of upd_same⟩, ?_⟩⟩
        have e17 : Ex H16 (upd H16 q (.lst [kV k0, .int (-1)])) := Ex.new hq
        have hq1 : upd H16 q (.lst [kV k0, .int (-1)]) q = some (.lst [kV k0, .int (-1)]) := upd_same
        generalize upd H16 q (.lst [kV k0, .int (-1)]) = H17 at e17 hq1 ⊢
        refine for_it (walk_list (xs := [kV k0, .int (-1)])) (fun i σ' H' => ∃ v10 : Option V, σ' = [some (V.ref a), some (V.ref d), some (V.ref D), some (V.ref F), some (V.ref p1), some (V.ref N1), some (V.ref r1), some (V.ref x1), some (V.ref x2), some (V.ref E1), v10, some (V.int (2 + (gn : Int))), some (V.ref p3), some (V.ref r3), some (V.ref D2), some (V.ref D3), some (V.ref D4), none, none, none, none] ∧ Ex H17 H') ⟨_, rfl, Ex.refl _⟩ (fun i σ' H' _ ⟨_, _, e⟩ => SqL.of (e _ _ hq1)) ?_ ?_
        · rintro i y σ' HX HY hi ⟨v10', rfl, eX⟩ ⟨rfl, hy⟩
          have hw : Wv y := by
            rcases List.mem_cons.mp (List.mem_of_getElem? hy) with rfl | h
            · exact rw1 k0 (by rw [hk1]; exact List.mem_cons_self)
            · rw [List.mem_singleton.mp h]; exact wv_int _
          have e1X := e17.trans eX
          refine ⟨_, rfl, _, rfl, D2, fs.eraseIdx (gn + 2), rs.eraseIdx gn, rfl, ⟨e1X _ _ hDa16, by rw [← hRS']; exact rows_mono e1X hF16⟩, fit', fun H18 x3 ss3 _ ed hb3 => ?_⟩
          rw [← hRS'] at hb3
          refine ⟨_, rfl, x1, x3, y, ns1, ss3, RS', rfl, hx8.mono ((e816.trans e1X).trans ed), hb3, all', wfn, nO, by omega, hw.1, fun hl' => (by rw [hl] at hl'; cases hl'), fun hl' => (by rw [hl] at hl'; cases hl'), fun w' hw' T H19 ee hT => ?_⟩
          obtain rfl : w' = w := by rw [hl] at hw'; exact (Option.some.inj hw').symm
          have e1Y := e1X.trans (ed.trans ee)
          refine ⟨_, rfl, D4, _, 0, .str w', rfl, rfl, SqL.of (e1Y _ _ hD4), atI_nat (j := 0) rfl, sz_of (by show 3 ≤ 100000; decide), fun q2 hq2 => ?_⟩
          have shT : SeqAt.shaped (.list [.str "unknown", .str w', .none]) = true := shaped_told ow
          refine ⟨.list [.str "unknown", .str w', .none], .list [.str "unknown", .str w', .none], .lst (SqL.of ((Ex.new hq2) _ _ hT)) (.cons (.str _) (.cons (.str _) (.cons .non .nil))), .lst (SqL.of upd_same) (.cons (.str _) (.cons (.str _) (.cons .non .nil))), shT, shT, _, rfl, ?_⟩
          rw [SeqAt.eqv_refl _ (SeqAt.canLay_of_shaped shT)]
          exact iteF ⟨_, rfl, eX.trans ((ed.trans ee).trans (Ex.new hq2))⟩
        · rintro σ' HX ⟨v10', rfl, eX⟩
          exact ⟨_, rfl, e17.trans eX⟩
    rintro _ H20 ⟨v10', rfl, e20⟩
    have e820 := e816.trans e20
    have e320 := e38.trans e820
    have lp : 0 < ks1.length := List.length_pos_iff.mpr ne1
    refine ⟨_, rfl, _, rfl, _, rfl, _, rfl, _, rfl, _, rfl, _, rfl, _, rfl, r1, _, rfl, .inl (SqL.of (e820 _ _ hr8)), d, _, rfl, e820 _ _ hd8, by rw [List.length_map]; omega, fun m' m0' m1' => ?_⟩
    rw [List.length_map] at m1'
    obtain ⟨n', rfl⟩ : ∃ n' : Nat, m' = (n' : Int) := ⟨m'.toNat, by omega⟩
    obtain ⟨kk, hkk⟩ : ∃ kk, ks1[n']? = some kk := ⟨_, List.getElem?_eq_getElem (by omega)⟩
    refine ⟨r1, _, _, kV kk, rfl, rfl, SqL.of (e820 _ _ hr8), atI_nat (by rw [List.getElem?_map, hkk]; rfl), ?_⟩
    exact ⟨x1, x2, N1, F, r1, kV kk, as1, fs, ns1, ss, RS, ks1, rfl, hx8.mono e820, hb.mono e820, e320 _ _ hN1, hA1.imp (fun _ _ z => NdAt.mono e320 z), ⟨e320 _ _ hF3'.1, rows_mono e320 hF3'.2⟩, e820 _ _ hr8, root1, wfn, all1, so1, lk1, nO, by omega, rw1 kk (List.mem_of_getElem? hkk), fun H' _ => k H'⟩

end
set_option maxHeartbeats 4000000 in
theorem all_mk {l : PySem.W.OpenLaw} {w : World} {K : PySem.W.Frag} {h : Heap} {mg : Str → Option Value} {fa : Addr} (X : K.In h) (G : h.Ns mainGlobals mg) (hfa : mg "law" = some (.ref fa))
    {f0 f1 f2 f3 f4 f5 f6 f7 f8 f9 f10 f11 f12 f13 f14 f15 f16 f17 f18 f19 f20 f21 f22 f23 f24 f25 f26 f27 f28 f29 f30 f31 f32 f33 f34 f35 f36 f37 f38 f39 f40 f41 f42 f43 f44 f45 f46 f47 f48 f49 f50 : Addr}
    {od0 an0 od1 an1 od2 an2 od3 an3 od4 an4 od5 an5 od6 an6 od7 an7 od8 an8 od9 an9 od10 an10 od11 an11 od12 an12 od13 an13 od14 an14 od15 an15 od16 an16 od17 an17 od18 an18 od19 an19 od20 an20 od21 an21 od22 an22 od23 an23 od24 an24 od25 an25 od26 an26 od27 an27 od28 an28 od29 an29 od30 an30 od31 an31 od32 an32 od33 an33 od34 an34 od35 an35 od36 an36 od37 an37 od38 an38 od39 an39 od40 an40 od41 an41 od42 an42 od43 an43 od44 an44 od45 an45 od46 an46 od47 an47 od48 an48 od49 an49 od50 an50 : Option Addr}
    {sl0 sl1 sl2 sl3 sl4 sl5 sl6 sl7 sl8 sl9 sl10 sl11 sl12 sl13 sl14 sl15 sl16 sl17 sl18 sl19 sl20 sl21 sl22 sl23 sl24 sl25 sl26 sl27 sl28 sl29 sl30 sl31 sl32 sl33 sl34 sl35 sl36 sl37 sl38 sl39 sl40 sl41 sl42 sl43 sl44 sl45 sl46 sl47 sl48 sl49 sl50 : Array (Option Value)}
    {oc0 kV0 dc0 pm0 cd0 ct0 oc1 kV1 dc1 pm1 cd1 ct1 oc2 kV2 dc2 pm2 cd2 ct2 oc3 kV3 dc3 pm3 cd3 ct3 oc4 kV4 dc4 pm4 cd4 ct4 oc5 kV5 dc5 pm5 cd5 ct5 oc6 kV6 dc6 pm6 cd6 ct6 oc7 dc7 pm7 cd7 ct7 oc8 kV8 dc8 pm8 cd8 ct8 oc9 kV9 dc9 pm9 cd9 ct9 oc10 kV10 dc10 pm10 cd10 ct10 oc11 kV11 dc11 pm11 cd11 ct11 oc12 kV12 dc12 pm12 cd12 ct12 oc13 kV13 dc13 pm13 cd13 ct13 oc14 kV14 dc14 pm14 cd14 ct14 oc15 kV15 dc15 pm15 cd15 ct15 oc16 kV16 dc16 pm16 cd16 ct16 oc17 kV17 dc17 pm17 cd17 ct17 oc18 kV18 dc18 pm18 cd18 ct18 oc19 kV19 dc19 pm19 cd19 ct19 oc20 kV20 dc20 pm20 cd20 ct20 oc21 kV21 dc21 pm21 cd21 ct21 oc22 kV22 dc22 pm22 cd22 ct22 oc23 kV23 dc23 pm23 cd23 ct23 oc24 kV24 dc24 pm24 cd24 ct24 oc25 kV25 dc25 pm25 cd25 ct25 oc26 kV26 dc26 pm26 cd26 ct26 oc27 kV27 dc27 pm27 cd27 ct27 oc28 kV28 dc28 pm28 cd28 ct28 oc29 kV29 dc29 pm29 cd29 ct29 oc30 kV30 dc30 pm30 cd30 ct30 oc31 kV31 dc31 pm31 cd31 ct31 oc32 kV32 dc32 pm32 cd32 ct32 oc33 kV33 dc33 pm33 cd33 ct33 oc34 kV34 dc34 pm34 cd34 ct34 oc35 kV35 dc35 pm35 cd35 ct35 oc36 kV36 dc36 pm36 cd36 ct36 oc37 kV37 dc37 pm37 cd37 ct37 oc38 kV38 dc38 pm38 cd38 ct38 oc39 kV39 dc39 pm39 cd39 ct39 oc40 kV40 dc40 pm40 cd40 ct40 oc41 kV41 dc41 pm41 cd41 ct41 oc42 kV42 dc42 pm42 cd42 ct42 oc43 kV43 dc43 pm43 cd43 ct43 oc44 kV44 dc44 pm44 cd44 ct44 oc45 kV45 dc45 pm45 cd45 ct45 oc46 kV46 dc46 pm46 cd46 ct46 oc47 kV47 dc47 pm47 cd47 ct47 oc48 kV48 dc48 pm48 cd48 ct48 oc49 kV49 dc49 pm49 cd49 ct49 oc50 kV50 dc50 pm50 cd50 ct50 : Value}
    {xLivesError : Addr}
    {xInvalidSignature : Addr}
    {xUnknownFunction : Addr}
    {xTooLarge : Addr}
    {xDuplicateFunction : Addr}
    {xSignature : Addr}
    {xBook : Addr}
    {xExpression : Addr}
    {xNoWay : Addr}
    {tDIGITS : Nat}
    {tLETTERS : Nat}
    {tMOST_ARGUMENTS : Nat}
    {tMOST_CHARACTERS : Nat}
    {tMOST_GIVEN : Nat}
    {tMOST_PARAMETERS : Nat}
    {xOPERATIONS : Addr} {esOPERATIONS : Array DictEntry} {nnOPERATIONS : Nat}
    {xRESERVED : Addr} {vRESERVED : List Value} {odRESERVED : Option Addr} {nnRESERVED : Nat} {slRESERVED : Array (Option Value)}
    {dT0 : Addr} {dO0 : Option Addr} {dN0 : Nat} {dS0 : Array (Option Value)} {dt0x0 : Nat}
    {kD7 : Addr}
    {kT7sources : Addr} {kO7sources : Option Addr} {kN7sources : Nat} {kS7sources : Array (Option Value)}
    {pr23 : Addr} {re23 : List Value}
    {pr24 : Addr} {re24 : List Value}
    {nmLivesError qLivesError : Str} {NLivesError : Addr} {bsLivesError bmLivesError : List Value} {snLivesError : List Str} {subLivesError : List Value} {abLivesError : Bool} {colLivesError : Option Bool} {ddLivesError : Option Addr} {m0LivesError m1LivesError m2LivesError m3LivesError m5LivesError : Option Value}
    {nmInvalidSignature qInvalidSignature : Str} {NInvalidSignature : Addr} {bsInvalidSignature bmInvalidSignature : List Value} {snInvalidSignature : List Str} {subInvalidSignature : List Value} {abInvalidSignature : Bool} {colInvalidSignature : Option Bool} {ddInvalidSignature : Option Addr} {m0InvalidSignature m1InvalidSignature m2InvalidSignature m3InvalidSignature m5InvalidSignature : Option Value}
    {nmUnknownFunction qUnknownFunction : Str} {NUnknownFunction : Addr} {bsUnknownFunction bmUnknownFunction : List Value} {snUnknownFunction : List Str} {subUnknownFunction : List Value} {abUnknownFunction : Bool} {colUnknownFunction : Option Bool} {ddUnknownFunction : Option Addr} {m0UnknownFunction m1UnknownFunction m2UnknownFunction m3UnknownFunction m5UnknownFunction : Option Value}
    {nmTooLarge qTooLarge : Str} {NTooLarge : Addr} {bsTooLarge bmTooLarge : List Value} {snTooLarge : List Str} {subTooLarge : List Value} {abTooLarge : Bool} {colTooLarge : Option Bool} {ddTooLarge : Option Addr} {m0TooLarge m1TooLarge m2TooLarge m3TooLarge m5TooLarge : Option Value}
    {nmDuplicateFunction qDuplicateFunction : Str} {NDuplicateFunction : Addr} {bsDuplicateFunction bmDuplicateFunction : List Value} {snDuplicateFunction : List Str} {subDuplicateFunction : List Value} {abDuplicateFunction : Bool} {colDuplicateFunction : Option Bool} {ddDuplicateFunction : Option Addr} {m0DuplicateFunction m1DuplicateFunction m2DuplicateFunction m3DuplicateFunction m5DuplicateFunction : Option Value}
    {cuExpressionMOST_NODES : Nat}
    {nmNoWay qNoWay : Str} {NNoWay : Addr} {bsNoWay bmNoWay : List Value} {snNoWay : List Str} {subNoWay : List Value} {abNoWay : Bool} {colNoWay : Option Bool} {ddNoWay : Option Addr} {m0NoWay m1NoWay m2NoWay m3NoWay m5NoWay : Option Value}
    (aCLivesError : PySem.W.nsIn K mainGlobals "LivesError" = some (some (.ref xLivesError)))
    (aCInvalidSignature : PySem.W.nsIn K mainGlobals "InvalidSignature" = some (some (.ref xInvalidSignature)))
    (aCUnknownFunction : PySem.W.nsIn K mainGlobals "UnknownFunction" = some (some (.ref xUnknownFunction)))
    (aCTooLarge : PySem.W.nsIn K mainGlobals "TooLarge" = some (some (.ref xTooLarge)))
    (aCDuplicateFunction : PySem.W.nsIn K mainGlobals "DuplicateFunction" = some (some (.ref xDuplicateFunction)))
    (aCSignature : PySem.W.nsIn K mainGlobals "Signature" = some (some (.ref xSignature)))
    (aCBook : PySem.W.nsIn K mainGlobals "Book" = some (some (.ref xBook)))
    (aCExpression : PySem.W.nsIn K mainGlobals "Expression" = some (some (.ref xExpression)))
    (aCNoWay : PySem.W.nsIn K mainGlobals "NoWay" = some (some (.ref xNoWay)))
    (a0 : PySem.W.nsIn K mainGlobals "copied" = some (some (.ref f0)))
    (l0 : K.lookup f0 = some ⟨oc0, od0, .func (PySem.W.fnOf "copied" "copied" (defArgs s_copied) (defBody s_copied) (defScope s_copied) (.ref dT0) kV0 dc0 pm0 an0 cd0 ct0), sl0⟩)
    (dl0 : K.lookup dT0 = some ⟨.type "tuple", dO0, .seq ([.int 4 dt0x0] : List Value).toArray dN0, dS0⟩)
    (c0 : PySem.W.codeIn K cd0 "copied" = true)
    (k0 : PySem.W.keepIn K (.ref f0) = true)
    (a1 : PySem.W.findIn K (.ref xLivesError) "__init__" = some (some (.ref f1)))
    (i1 : PySem.W.typeIn K (.ref f1) = some (.type "function"))
    (l1 : K.lookup f1 = some ⟨oc1, od1, .func (PySem.W.fnOf "__init__" "LivesError.__init__" (defArgs s_lives_init) (defBody s_lives_init) (defScope s_lives_init) .none kV1 dc1 pm1 an1 cd1 ct1), sl1⟩)
    (c1 : PySem.W.codeIn K cd1 "LivesError.__init__" = true)
    (k1 : PySem.W.keepIn K (.ref f1) = true)
    (a2 : PySem.W.nsIn K mainGlobals "is_whole" = some (some (.ref f2)))
    (l2 : K.lookup f2 = some ⟨oc2, od2, .func (PySem.W.fnOf "is_whole" "is_whole" (defArgs s_is_whole) (defBody s_is_whole) (defScope s_is_whole) .none kV2 dc2 pm2 an2 cd2 ct2), sl2⟩)
    (c2 : PySem.W.codeIn K cd2 "is_whole" = true)
    (k2 : PySem.W.keepIn K (.ref f2) = true)
    (a3 : PySem.W.nsIn K mainGlobals "is_integer_in" = some (some (.ref f3)))
    (l3 : K.lookup f3 = some ⟨oc3, od3, .func (PySem.W.fnOf "is_integer_in" "is_integer_in" (defArgs s_is_int) (defBody s_is_int) (defScope s_is_int) .none kV3 dc3 pm3 an3 cd3 ct3), sl3⟩)
    (c3 : PySem.W.codeIn K cd3 "is_integer_in" = true)
    (k3 : PySem.W.keepIn K (.ref f3) = true)
    (a4 : PySem.W.nsIn K mainGlobals "is_name" = some (some (.ref f4)))
    (l4 : K.lookup f4 = some ⟨oc4, od4, .func (PySem.W.fnOf "is_name" "is_name" (defArgs s_is_name) (defBody s_is_name) (defScope s_is_name) .none kV4 dc4 pm4 an4 cd4 ct4), sl4⟩)
    (c4 : PySem.W.codeIn K cd4 "is_name" = true)
    (k4 : PySem.W.keepIn K (.ref f4) = true)
    (a5 : PySem.W.nsIn K mainGlobals "are_sources" = some (some (.ref f5)))
    (l5 : K.lookup f5 = some ⟨oc5, od5, .func (PySem.W.fnOf "are_sources" "are_sources" (defArgs s_are_sources) (defBody s_are_sources) (defScope s_are_sources) .none kV5 dc5 pm5 an5 cd5 ct5), sl5⟩)
    (c5 : PySem.W.codeIn K cd5 "are_sources" = true)
    (k5 : PySem.W.keepIn K (.ref f5) = true)
    (a6 : PySem.W.nsIn K mainGlobals "is_signature" = some (some (.ref f6)))
    (l6 : K.lookup f6 = some ⟨oc6, od6, .func (PySem.W.fnOf "is_signature" "is_signature" (defArgs s_is_signature) (defBody s_is_signature) (defScope s_is_signature) .none kV6 dc6 pm6 an6 cd6 ct6), sl6⟩)
    (c6 : PySem.W.codeIn K cd6 "is_signature" = true)
    (k6 : PySem.W.keepIn K (.ref f6) = true)
    (a7 : PySem.W.findIn K (.ref xSignature) "__init__" = some (some (.ref f7)))
    (i7 : PySem.W.isFn K (.ref f7) = true)
    (l7 : K.lookup f7 = some ⟨oc7, od7, .func (PySem.W.fnOf "__init__" "Signature.__init__" (defArgs s_sig_init) (defBody s_sig_init) (defScope s_sig_init) .none (.ref kD7) dc7 pm7 an7 cd7 ct7), sl7⟩)
    (c7 : PySem.W.codeIn K cd7 "Signature.__init__" = true)
    (k7 : PySem.W.keepIn K (.ref f7) = true)
    (kw7sources : PySem.W.nsIn K kD7 "sources" = some (some (.ref kT7sources)))
    (kl7sources : K.lookup kT7sources = some ⟨.type "tuple", kO7sources, .seq (([] : List Value).toArray) kN7sources, kS7sources⟩)
    (a8 : PySem.W.findIn K (.ref xSignature) "__eq__" = some (some (.ref f8)))
    (i8 : PySem.W.isFn K (.ref f8) = true)
    (l8 : K.lookup f8 = some ⟨oc8, od8, .func (PySem.W.fnOf "__eq__" "Signature.__eq__" (defArgs s_sig_eq) (defBody s_sig_eq) (defScope s_sig_eq) .none kV8 dc8 pm8 an8 cd8 ct8), sl8⟩)
    (c8 : PySem.W.codeIn K cd8 "Signature.__eq__" = true)
    (k8 : PySem.W.keepIn K (.ref f8) = true)
    (a9 : PySem.W.findIn K (.ref xBook) "__init__" = some (some (.ref f9)))
    (i9 : PySem.W.isFn K (.ref f9) = true)
    (l9 : K.lookup f9 = some ⟨oc9, od9, .func (PySem.W.fnOf "__init__" "Book.__init__" (defArgs s_book_init) (defBody s_book_init) (defScope s_book_init) .none kV9 dc9 pm9 an9 cd9 ct9), sl9⟩)
    (c9 : PySem.W.codeIn K cd9 "Book.__init__" = true)
    (k9 : PySem.W.keepIn K (.ref f9) = true)
    (a10 : PySem.W.findIn K (.ref xBook) "__len__" = some (some (.ref f10)))
    (i10 : PySem.W.isFn K (.ref f10) = true)
    (l10 : K.lookup f10 = some ⟨oc10, od10, .func (PySem.W.fnOf "__len__" "Book.__len__" (defArgs s_book_len) (defBody s_book_len) (defScope s_book_len) .none kV10 dc10 pm10 an10 cd10 ct10), sl10⟩)
    (c10 : PySem.W.codeIn K cd10 "Book.__len__" = true)
    (k10 : PySem.W.keepIn K (.ref f10) = true)
    (a11 : PySem.W.findIn K (.ref xBook) "__contains__" = some (some (.ref f11)))
    (i11 : PySem.W.isFn K (.ref f11) = true)
    (l11 : K.lookup f11 = some ⟨oc11, od11, .func (PySem.W.fnOf "__contains__" "Book.__contains__" (defArgs s_book_has) (defBody s_book_has) (defScope s_book_has) .none kV11 dc11 pm11 an11 cd11 ct11), sl11⟩)
    (c11 : PySem.W.codeIn K cd11 "Book.__contains__" = true)
    (k11 : PySem.W.keepIn K (.ref f11) = true)
    (a12 : PySem.W.findIn K (.ref xBook) "__getitem__" = some (some (.ref f12)))
    (i12 : PySem.W.isFn K (.ref f12) = true)
    (l12 : K.lookup f12 = some ⟨oc12, od12, .func (PySem.W.fnOf "__getitem__" "Book.__getitem__" (defArgs s_book_get) (defBody s_book_get) (defScope s_book_get) .none kV12 dc12 pm12 an12 cd12 ct12), sl12⟩)
    (c12 : PySem.W.codeIn K cd12 "Book.__getitem__" = true)
    (k12 : PySem.W.keepIn K (.ref f12) = true)
    (a13 : PySem.W.findIn K (.ref xBook) "__iter__" = some (some (.ref f13)))
    (i13 : PySem.W.isFn K (.ref f13) = true)
    (l13 : K.lookup f13 = some ⟨oc13, od13, .func (PySem.W.fnOf "__iter__" "Book.__iter__" (defArgs s_book_iter) (defBody s_book_iter) (defScope s_book_iter) .none kV13 dc13 pm13 an13 cd13 ct13), sl13⟩)
    (c13 : PySem.W.codeIn K cd13 "Book.__iter__" = true)
    (k13 : PySem.W.keepIn K (.ref f13) = true)
    (a14 : PySem.W.findIn K (.ref xBook) "__or__" = some (some (.ref f14)))
    (i14 : PySem.W.isFn K (.ref f14) = true)
    (l14 : K.lookup f14 = some ⟨oc14, od14, .func (PySem.W.fnOf "__or__" "Book.__or__" (defArgs s_book_or) (defBody s_book_or) (defScope s_book_or) .none kV14 dc14 pm14 an14 cd14 ct14), sl14⟩)
    (c14 : PySem.W.codeIn K cd14 "Book.__or__" = true)
    (k14 : PySem.W.keepIn K (.ref f14) = true)
    (a15 : PySem.W.nsIn K mainGlobals "cut" = some (some (.ref f15)))
    (l15 : K.lookup f15 = some ⟨oc15, od15, .func (PySem.W.fnOf "cut" "cut" (defArgs s_cut) (defBody s_cut) (defScope s_cut) .none kV15 dc15 pm15 an15 cd15 ct15), sl15⟩)
    (c15 : PySem.W.codeIn K cd15 "cut" = true)
    (k15 : PySem.W.keepIn K (.ref f15) = true)
    (a16 : PySem.W.nsIn K mainGlobals "operation" = some (some (.ref f16)))
    (l16 : K.lookup f16 = some ⟨oc16, od16, .func (PySem.W.fnOf "operation" "operation" (defArgs s_operation) (defBody s_operation) (defScope s_operation) .none kV16 dc16 pm16 an16 cd16 ct16), sl16⟩)
    (c16 : PySem.W.codeIn K cd16 "operation" = true)
    (k16 : PySem.W.keepIn K (.ref f16) = true)
    (a17 : PySem.W.nsIn K mainGlobals "closed" = some (some (.ref f17)))
    (l17 : K.lookup f17 = some ⟨oc17, od17, .func (PySem.W.fnOf "closed" "closed" (defArgs s_closed) (defBody s_closed) (defScope s_closed) .none kV17 dc17 pm17 an17 cd17 ct17), sl17⟩)
    (c17 : PySem.W.codeIn K cd17 "closed" = true)
    (k17 : PySem.W.keepIn K (.ref f17) = true)
    (a18 : PySem.W.nsIn K mainGlobals "add_node" = some (some (.ref f18)))
    (l18 : K.lookup f18 = some ⟨oc18, od18, .func (PySem.W.fnOf "add_node" "add_node" (defArgs s_add_node) (defBody s_add_node) (defScope s_add_node) .none kV18 dc18 pm18 an18 cd18 ct18), sl18⟩)
    (c18 : PySem.W.codeIn K cd18 "add_node" = true)
    (k18 : PySem.W.keepIn K (.ref f18) = true)
    (a19 : PySem.W.nsIn K mainGlobals "nodes_of" = some (some (.ref f19)))
    (l19 : K.lookup f19 = some ⟨oc19, od19, .func (PySem.W.fnOf "nodes_of" "nodes_of" (defArgs s_nodes_of) (defBody s_nodes_of) (defScope s_nodes_of) .none kV19 dc19 pm19 an19 cd19 ct19), sl19⟩)
    (c19 : PySem.W.codeIn K cd19 "nodes_of" = true)
    (k19 : PySem.W.keepIn K (.ref f19) = true)
    (a20 : PySem.W.nsIn K mainGlobals "operands_of" = some (some (.ref f20)))
    (l20 : K.lookup f20 = some ⟨oc20, od20, .func (PySem.W.fnOf "operands_of" "operands_of" (defArgs s_operands_of) (defBody s_operands_of) (defScope s_operands_of) .none kV20 dc20 pm20 an20 cd20 ct20), sl20⟩)
    (c20 : PySem.W.codeIn K cd20 "operands_of" = true)
    (k20 : PySem.W.keepIn K (.ref f20) = true)
    (a21 : PySem.W.nsIn K mainGlobals "firsts_of" = some (some (.ref f21)))
    (l21 : K.lookup f21 = some ⟨oc21, od21, .func (PySem.W.fnOf "firsts_of" "firsts_of" (defArgs s_firsts_of) (defBody s_firsts_of) (defScope s_firsts_of) .none kV21 dc21 pm21 an21 cd21 ct21), sl21⟩)
    (c21 : PySem.W.codeIn K cd21 "firsts_of" = true)
    (k21 : PySem.W.keepIn K (.ref f21) = true)
    (a22 : PySem.W.findIn K (.ref xExpression) "__init__" = some (some (.ref f22)))
    (i22 : PySem.W.isFn K (.ref f22) = true)
    (l22 : K.lookup f22 = some ⟨oc22, od22, .func (PySem.W.fnOf "__init__" "Expression.__init__" (defArgs s_ex_init) (defBody s_ex_init) (defScope s_ex_init) .none kV22 dc22 pm22 an22 cd22 ct22), sl22⟩)
    (c22 : PySem.W.codeIn K cd22 "Expression.__init__" = true)
    (k22 : PySem.W.keepIn K (.ref f22) = true)
    (a23 : PySem.W.findCls K (.ref xExpression) (.type "type") "read" = some (.get (.builtin "classmethod.__get__") (.ref pr23) .none (.ref xExpression)))
    (pc23 : PySem.W.recIn K pr23 "classmethod" = some (.ref f23 :: re23))
    (fi23 : PySem.W.fnIn K f23 = true)
    (l23 : K.lookup f23 = some ⟨oc23, od23, .func (PySem.W.fnOf "read" "Expression.read" (defArgs s_ex_read) (defBody s_ex_read) (defScope s_ex_read) .none kV23 dc23 pm23 an23 cd23 ct23), sl23⟩)
    (c23 : PySem.W.codeIn K cd23 "Expression.read" = true)
    (k23 : PySem.W.keepIn K (.ref f23) = true)
    (a24 : PySem.W.findIn K (.ref xExpression) "nodes" = some (some (.ref pr24)))
    (pg24 : PySem.W.specialIn K (.ref pr24) "__get__" = some (some (.builtin "property.__get__")))
    (pt24 : PySem.W.takesIn K (.ref pr24) = some true)
    (pc24 : PySem.W.recIn K pr24 "property" = some (.ref f24 :: re24))
    (l24 : K.lookup f24 = some ⟨oc24, od24, .func (PySem.W.fnOf "nodes" "Expression.nodes" (defArgs s_ex_nodes) (defBody s_ex_nodes) (defScope s_ex_nodes) .none kV24 dc24 pm24 an24 cd24 ct24), sl24⟩)
    (c24 : PySem.W.codeIn K cd24 "Expression.nodes" = true)
    (k24 : PySem.W.keepIn K (.ref f24) = true)
    (a25 : PySem.W.findIn K (.ref xExpression) "__len__" = some (some (.ref f25)))
    (i25 : PySem.W.isFn K (.ref f25) = true)
    (l25 : K.lookup f25 = some ⟨oc25, od25, .func (PySem.W.fnOf "__len__" "Expression.__len__" (defArgs s_ex_len) (defBody s_ex_len) (defScope s_ex_len) .none kV25 dc25 pm25 an25 cd25 ct25), sl25⟩)
    (c25 : PySem.W.codeIn K cd25 "Expression.__len__" = true)
    (k25 : PySem.W.keepIn K (.ref f25) = true)
    (a26 : PySem.W.nsIn K mainGlobals "_law_draws" = some (some (.ref f26)))
    (l26 : K.lookup f26 = some ⟨oc26, od26, .func (PySem.W.fnOf "_law_draws" "_law_draws" (defArgs s_draws) (defBody s_draws) (defScope s_draws) .none kV26 dc26 pm26 an26 cd26 ct26), sl26⟩)
    (c26 : PySem.W.codeIn K cd26 "_law_draws" = true)
    (k26 : PySem.W.keepIn K (.ref f26) = true)
    (a27 : PySem.W.nsIn K mainGlobals "_law_take" = some (some (.ref f27)))
    (l27 : K.lookup f27 = some ⟨oc27, od27, .func (PySem.W.fnOf "_law_take" "_law_take" (defArgs s_take) (defBody s_take) (defScope s_take) .none kV27 dc27 pm27 an27 cd27 ct27), sl27⟩)
    (c27 : PySem.W.codeIn K cd27 "_law_take" = true)
    (k27 : PySem.W.keepIn K (.ref f27) = true)
    (a28 : PySem.W.nsIn K mainGlobals "_law_name" = some (some (.ref f28)))
    (l28 : K.lookup f28 = some ⟨oc28, od28, .func (PySem.W.fnOf "_law_name" "_law_name" (defArgs s_name) (defBody s_name) (defScope s_name) .none kV28 dc28 pm28 an28 cd28 ct28), sl28⟩)
    (c28 : PySem.W.codeIn K cd28 "_law_name" = true)
    (k28 : PySem.W.keepIn K (.ref f28) = true)
    (a29 : PySem.W.nsIn K mainGlobals "_law_functions" = some (some (.ref f29)))
    (l29 : K.lookup f29 = some ⟨oc29, od29, .func (PySem.W.fnOf "_law_functions" "_law_functions" (defArgs s_functions) (defBody s_functions) (defScope s_functions) .none kV29 dc29 pm29 an29 cd29 ct29), sl29⟩)
    (c29 : PySem.W.codeIn K cd29 "_law_functions" = true)
    (k29 : PySem.W.keepIn K (.ref f29) = true)
    (a30 : PySem.W.nsIn K mainGlobals "_law_add" = some (some (.ref f30)))
    (l30 : K.lookup f30 = some ⟨oc30, od30, .func (PySem.W.fnOf "_law_add" "_law_add" (defArgs s_add) (defBody s_add) (defScope s_add) .none kV30 dc30 pm30 an30 cd30 ct30), sl30⟩)
    (c30 : PySem.W.codeIn K cd30 "_law_add" = true)
    (k30 : PySem.W.keepIn K (.ref f30) = true)
    (a31 : PySem.W.nsIn K mainGlobals "_law_expression" = some (some (.ref f31)))
    (l31 : K.lookup f31 = some ⟨oc31, od31, .func (PySem.W.fnOf "_law_expression" "_law_expression" (defArgs s_expression) (defBody s_expression) (defScope s_expression) .none kV31 dc31 pm31 an31 cd31 ct31), sl31⟩)
    (c31 : PySem.W.codeIn K cd31 "_law_expression" = true)
    (k31 : PySem.W.keepIn K (.ref f31) = true)
    (a32 : PySem.W.nsIn K mainGlobals "_law_book" = some (some (.ref f32)))
    (l32 : K.lookup f32 = some ⟨oc32, od32, .func (PySem.W.fnOf "_law_book" "_law_book" (defArgs s_book_rows) (defBody s_book_rows) (defScope s_book_rows) .none kV32 dc32 pm32 an32 cd32 ct32), sl32⟩)
    (c32 : PySem.W.codeIn K cd32 "_law_book" = true)
    (k32 : PySem.W.keepIn K (.ref f32) = true)
    (a33 : PySem.W.nsIn K mainGlobals "givers_of" = some (some (.ref f33)))
    (l33 : K.lookup f33 = some ⟨oc33, od33, .func (PySem.W.fnOf "givers_of" "givers_of" (defArgs s_givers_of) (defBody s_givers_of) (defScope s_givers_of) .none kV33 dc33 pm33 an33 cd33 ct33), sl33⟩)
    (c33 : PySem.W.codeIn K cd33 "givers_of" = true)
    (k33 : PySem.W.keepIn K (.ref f33) = true)
    (a34 : PySem.W.nsIn K mainGlobals "givers" = some (some (.ref f34)))
    (l34 : K.lookup f34 = some ⟨oc34, od34, .func (PySem.W.fnOf "givers" "givers" (defArgs s_givers) (defBody s_givers) (defScope s_givers) .none kV34 dc34 pm34 an34 cd34 ct34), sl34⟩)
    (c34 : PySem.W.codeIn K cd34 "givers" = true)
    (k34 : PySem.W.keepIn K (.ref f34) = true)
    (a35 : PySem.W.nsIn K mainGlobals "options" = some (some (.ref f35)))
    (l35 : K.lookup f35 = some ⟨oc35, od35, .func (PySem.W.fnOf "options" "options" (defArgs s_options) (defBody s_options) (defScope s_options) .none kV35 dc35 pm35 an35 cd35 ct35), sl35⟩)
    (c35 : PySem.W.codeIn K cd35 "options" = true)
    (k35 : PySem.W.keepIn K (.ref f35) = true)
    (a36 : PySem.W.nsIn K mainGlobals "united" = some (some (.ref f36)))
    (l36 : K.lookup f36 = some ⟨oc36, od36, .func (PySem.W.fnOf "united" "united" (defArgs s_united) (defBody s_united) (defScope s_united) .none kV36 dc36 pm36 an36 cd36 ct36), sl36⟩)
    (c36 : PySem.W.codeIn K cd36 "united" = true)
    (k36 : PySem.W.keepIn K (.ref f36) = true)
    (a37 : PySem.W.nsIn K mainGlobals "results" = some (some (.ref f37)))
    (l37 : K.lookup f37 = some ⟨oc37, od37, .func (PySem.W.fnOf "results" "results" (defArgs s_results) (defBody s_results) (defScope s_results) .none kV37 dc37 pm37 an37 cd37 ct37), sl37⟩)
    (c37 : PySem.W.codeIn K cd37 "results" = true)
    (k37 : PySem.W.keepIn K (.ref f37) = true)
    (a38 : PySem.W.nsIn K mainGlobals "numbers_for" = some (some (.ref f38)))
    (l38 : K.lookup f38 = some ⟨oc38, od38, .func (PySem.W.fnOf "numbers_for" "numbers_for" (defArgs s_numbers_for) (defBody s_numbers_for) (defScope s_numbers_for) .none kV38 dc38 pm38 an38 cd38 ct38), sl38⟩)
    (c38 : PySem.W.codeIn K cd38 "numbers_for" = true)
    (k38 : PySem.W.keepIn K (.ref f38) = true)
    (a39 : PySem.W.nsIn K mainGlobals "completed" = some (some (.ref f39)))
    (l39 : K.lookup f39 = some ⟨oc39, od39, .func (PySem.W.fnOf "completed" "completed" (defArgs s_completed) (defBody s_completed) (defScope s_completed) .none kV39 dc39 pm39 an39 cd39 ct39), sl39⟩)
    (c39 : PySem.W.codeIn K cd39 "completed" = true)
    (k39 : PySem.W.keepIn K (.ref f39) = true)
    (a40 : PySem.W.nsIn K mainGlobals "choice_for_result" = some (some (.ref f40)))
    (l40 : K.lookup f40 = some ⟨oc40, od40, .func (PySem.W.fnOf "choice_for_result" "choice_for_result" (defArgs s_choice_for_result) (defBody s_choice_for_result) (defScope s_choice_for_result) .none kV40 dc40 pm40 an40 cd40 ct40), sl40⟩)
    (c40 : PySem.W.codeIn K cd40 "choice_for_result" = true)
    (k40 : PySem.W.keepIn K (.ref f40) = true)
    (a41 : PySem.W.nsIn K mainGlobals "_law_sources" = some (some (.ref f41)))
    (l41 : K.lookup f41 = some ⟨oc41, od41, .func (PySem.W.fnOf "_law_sources" "_law_sources" (defArgs s_sources) (defBody s_sources) (defScope s_sources) .none kV41 dc41 pm41 an41 cd41 ct41), sl41⟩)
    (c41 : PySem.W.codeIn K cd41 "_law_sources" = true)
    (k41 : PySem.W.keepIn K (.ref f41) = true)
    (a42 : PySem.W.nsIn K mainGlobals "_law_other_sources" = some (some (.ref f42)))
    (l42 : K.lookup f42 = some ⟨oc42, od42, .func (PySem.W.fnOf "_law_other_sources" "_law_other_sources" (defArgs s_others) (defBody s_others) (defScope s_others) .none kV42 dc42 pm42 an42 cd42 ct42), sl42⟩)
    (c42 : PySem.W.codeIn K cd42 "_law_other_sources" = true)
    (k42 : PySem.W.keepIn K (.ref f42) = true)
    (a43 : PySem.W.nsIn K mainGlobals "_law_results" = some (some (.ref f43)))
    (l43 : K.lookup f43 = some ⟨oc43, od43, .func (PySem.W.fnOf "_law_results" "_law_results" (defArgs s_lresults) (defBody s_lresults) (defScope s_lresults) .none kV43 dc43 pm43 an43 cd43 ct43), sl43⟩)
    (c43 : PySem.W.codeIn K cd43 "_law_results" = true)
    (k43 : PySem.W.keepIn K (.ref f43) = true)
    (a44 : PySem.W.nsIn K mainGlobals "_law_integer" = some (some (.ref f44)))
    (l44 : K.lookup f44 = some ⟨oc44, od44, .func (PySem.W.fnOf "_law_integer" "_law_integer" (defArgs s_integer) (defBody s_integer) (defScope s_integer) .none kV44 dc44 pm44 an44 cd44 ct44), sl44⟩)
    (c44 : PySem.W.codeIn K cd44 "_law_integer" = true)
    (k44 : PySem.W.keepIn K (.ref f44) = true)
    (a45 : PySem.W.nsIn K mainGlobals "_law_is_choice" = some (some (.ref f45)))
    (l45 : K.lookup f45 = some ⟨oc45, od45, .func (PySem.W.fnOf "_law_is_choice" "_law_is_choice" (defArgs s_lchoice) (defBody s_lchoice) (defScope s_lchoice) .none kV45 dc45 pm45 an45 cd45 ct45), sl45⟩)
    (c45 : PySem.W.codeIn K cd45 "_law_is_choice" = true)
    (k45 : PySem.W.keepIn K (.ref f45) = true)
    (a46 : PySem.W.nsIn K mainGlobals "_law_origin" = some (some (.ref f46)))
    (l46 : K.lookup f46 = some ⟨oc46, od46, .func (PySem.W.fnOf "_law_origin" "_law_origin" (defArgs s_origin) (defBody s_origin) (defScope s_origin) .none kV46 dc46 pm46 an46 cd46 ct46), sl46⟩)
    (c46 : PySem.W.codeIn K cd46 "_law_origin" = true)
    (k46 : PySem.W.keepIn K (.ref f46) = true)
    (a47 : PySem.W.nsIn K mainGlobals "_law_told" = some (some (.ref f47)))
    (l47 : K.lookup f47 = some ⟨oc47, od47, .func (PySem.W.fnOf "_law_told" "_law_told" (defArgs s_told) (defBody s_told) (defScope s_told) .none kV47 dc47 pm47 an47 cd47 ct47), sl47⟩)
    (c47 : PySem.W.codeIn K cd47 "_law_told" = true)
    (k47 : PySem.W.keepIn K (.ref f47) = true)
    (a48 : PySem.W.nsIn K mainGlobals "_law_same" = some (some (.ref f48)))
    (l48 : K.lookup f48 = some ⟨oc48, od48, .func (PySem.W.fnOf "_law_same" "_law_same" (defArgs s_same) (defBody s_same) (defScope s_same) .none kV48 dc48 pm48 an48 cd48 ct48), sl48⟩)
    (c48 : PySem.W.codeIn K cd48 "_law_same" = true)
    (k48 : PySem.W.keepIn K (.ref f48) = true)
    (a49 : PySem.W.nsIn K mainGlobals "_law_holds" = some (some (.ref f49)))
    (l49 : K.lookup f49 = some ⟨oc49, od49, .func (PySem.W.fnOf "_law_holds" "_law_holds" (defArgs s_lholds) (defBody s_lholds) (defScope s_lholds) .none kV49 dc49 pm49 an49 cd49 ct49), sl49⟩)
    (c49 : PySem.W.codeIn K cd49 "_law_holds" = true)
    (k49 : PySem.W.keepIn K (.ref f49) = true)
    (a50 : PySem.W.nsIn K mainGlobals "law" = some (some (.ref f50)))
    (l50 : K.lookup f50 = some ⟨oc50, od50, .func (PySem.W.fnOf "law" "law" (defArgs s_law) (defBody s_law) (defScope s_law) .none kV50 dc50 pm50 an50 cd50 ct50), sl50⟩)
    (c50 : PySem.W.codeIn K cd50 "law" = true)
    (k50 : PySem.W.keepIn K (.ref f50) = true)
    (zValueError : PySem.W.nsIn K mainGlobals "ValueError" = some none)
    (zabs : PySem.W.nsIn K mainGlobals "abs" = some none)
    (zall : PySem.W.nsIn K mainGlobals "all" = some none)
    (zbool : PySem.W.nsIn K mainGlobals "bool" = some none)
    (zdict : PySem.W.nsIn K mainGlobals "dict" = some none)
    (zenumerate : PySem.W.nsIn K mainGlobals "enumerate" = some none)
    (zint : PySem.W.nsIn K mainGlobals "int" = some none)
    (zisinstance : PySem.W.nsIn K mainGlobals "isinstance" = some none)
    (ziter : PySem.W.nsIn K mainGlobals "iter" = some none)
    (zlen : PySem.W.nsIn K mainGlobals "len" = some none)
    (zlist : PySem.W.nsIn K mainGlobals "list" = some none)
    (zmax : PySem.W.nsIn K mainGlobals "max" = some none)
    (zmin : PySem.W.nsIn K mainGlobals "min" = some none)
    (zrange : PySem.W.nsIn K mainGlobals "range" = some none)
    (zreversed : PySem.W.nsIn K mainGlobals "reversed" = some none)
    (zsorted : PySem.W.nsIn K mainGlobals "sorted" = some none)
    (zstr : PySem.W.nsIn K mainGlobals "str" = some none)
    (ztuple : PySem.W.nsIn K mainGlobals "tuple" = some none)
    (zzip : PySem.W.nsIn K mainGlobals "zip" = some none)
    (xL_LivesError : K.lookup xLivesError = some (excClassObj nmLivesError qLivesError xLivesError NLivesError bsLivesError bmLivesError true snLivesError subLivesError abLivesError colLivesError ddLivesError m0LivesError m1LivesError m2LivesError m3LivesError m5LivesError "ValueError.__new__"))
    (xR_LivesError : PySem.HandSPX.refsVE bmLivesError = true)
    (sa_LivesError : PySem.W.findIn K (.ref xLivesError) "__setattr__" = some (some (.builtin "object.__setattr__")))
    (eC_LivesError : PySem.W.subIn K (.ref xLivesError) (.type "BaseException") = some true)
    (tC_LivesError : PySem.W.typeIn K (.ref xLivesError) = some (.type "type"))
    (kc_LivesError : PySem.W.keepIn K (.ref xLivesError) = true)
    (nw_LivesError : PySem.W.findIn K (.ref xLivesError) "what" = some none)
    (ii_LivesError : PySem.W.findIn K (.ref xLivesError) "__init__" = some (some (.ref f1)))
    (ga_LivesError : PySem.W.findIn K (.ref xLivesError) "__getattribute__" = some (some (.builtin "BaseException.__getattribute__")))
    (gg_LivesError : PySem.W.findIn K (.ref xLivesError) "__getattr__" = some none)
    (hd_LivesError : PySem.W.hasDictIn K xLivesError = true)
    (xL_InvalidSignature : K.lookup xInvalidSignature = some (excClassObj nmInvalidSignature qInvalidSignature xInvalidSignature NInvalidSignature bsInvalidSignature bmInvalidSignature true snInvalidSignature subInvalidSignature abInvalidSignature colInvalidSignature ddInvalidSignature m0InvalidSignature m1InvalidSignature m2InvalidSignature m3InvalidSignature m5InvalidSignature "ValueError.__new__"))
    (xR_InvalidSignature : PySem.HandSPX.refsVE bmInvalidSignature = true)
    (sa_InvalidSignature : PySem.W.findIn K (.ref xInvalidSignature) "__setattr__" = some (some (.builtin "object.__setattr__")))
    (eC_InvalidSignature : PySem.W.subIn K (.ref xInvalidSignature) (.type "BaseException") = some true)
    (tC_InvalidSignature : PySem.W.typeIn K (.ref xInvalidSignature) = some (.type "type"))
    (kc_InvalidSignature : PySem.W.keepIn K (.ref xInvalidSignature) = true)
    (nw_InvalidSignature : PySem.W.findIn K (.ref xInvalidSignature) "what" = some none)
    (ii_InvalidSignature : PySem.W.findIn K (.ref xInvalidSignature) "__init__" = some (some (.ref f1)))
    (ga_InvalidSignature : PySem.W.findIn K (.ref xInvalidSignature) "__getattribute__" = some (some (.builtin "BaseException.__getattribute__")))
    (gg_InvalidSignature : PySem.W.findIn K (.ref xInvalidSignature) "__getattr__" = some none)
    (hd_InvalidSignature : PySem.W.hasDictIn K xInvalidSignature = true)
    (xL_UnknownFunction : K.lookup xUnknownFunction = some (excClassObj nmUnknownFunction qUnknownFunction xUnknownFunction NUnknownFunction bsUnknownFunction bmUnknownFunction true snUnknownFunction subUnknownFunction abUnknownFunction colUnknownFunction ddUnknownFunction m0UnknownFunction m1UnknownFunction m2UnknownFunction m3UnknownFunction m5UnknownFunction "ValueError.__new__"))
    (xR_UnknownFunction : PySem.HandSPX.refsVE bmUnknownFunction = true)
    (sa_UnknownFunction : PySem.W.findIn K (.ref xUnknownFunction) "__setattr__" = some (some (.builtin "object.__setattr__")))
    (eC_UnknownFunction : PySem.W.subIn K (.ref xUnknownFunction) (.type "BaseException") = some true)
    (tC_UnknownFunction : PySem.W.typeIn K (.ref xUnknownFunction) = some (.type "type"))
    (kc_UnknownFunction : PySem.W.keepIn K (.ref xUnknownFunction) = true)
    (nw_UnknownFunction : PySem.W.findIn K (.ref xUnknownFunction) "what" = some none)
    (ii_UnknownFunction : PySem.W.findIn K (.ref xUnknownFunction) "__init__" = some (some (.ref f1)))
    (ga_UnknownFunction : PySem.W.findIn K (.ref xUnknownFunction) "__getattribute__" = some (some (.builtin "BaseException.__getattribute__")))
    (gg_UnknownFunction : PySem.W.findIn K (.ref xUnknownFunction) "__getattr__" = some none)
    (hd_UnknownFunction : PySem.W.hasDictIn K xUnknownFunction = true)
    (xL_TooLarge : K.lookup xTooLarge = some (excClassObj nmTooLarge qTooLarge xTooLarge NTooLarge bsTooLarge bmTooLarge true snTooLarge subTooLarge abTooLarge colTooLarge ddTooLarge m0TooLarge m1TooLarge m2TooLarge m3TooLarge m5TooLarge "ValueError.__new__"))
    (xR_TooLarge : PySem.HandSPX.refsVE bmTooLarge = true)
    (sa_TooLarge : PySem.W.findIn K (.ref xTooLarge) "__setattr__" = some (some (.builtin "object.__setattr__")))
    (eC_TooLarge : PySem.W.subIn K (.ref xTooLarge) (.type "BaseException") = some true)
    (tC_TooLarge : PySem.W.typeIn K (.ref xTooLarge) = some (.type "type"))
    (kc_TooLarge : PySem.W.keepIn K (.ref xTooLarge) = true)
    (nw_TooLarge : PySem.W.findIn K (.ref xTooLarge) "what" = some none)
    (ii_TooLarge : PySem.W.findIn K (.ref xTooLarge) "__init__" = some (some (.ref f1)))
    (ga_TooLarge : PySem.W.findIn K (.ref xTooLarge) "__getattribute__" = some (some (.builtin "BaseException.__getattribute__")))
    (gg_TooLarge : PySem.W.findIn K (.ref xTooLarge) "__getattr__" = some none)
    (hd_TooLarge : PySem.W.hasDictIn K xTooLarge = true)
    (xL_DuplicateFunction : K.lookup xDuplicateFunction = some (excClassObj nmDuplicateFunction qDuplicateFunction xDuplicateFunction NDuplicateFunction bsDuplicateFunction bmDuplicateFunction true snDuplicateFunction subDuplicateFunction abDuplicateFunction colDuplicateFunction ddDuplicateFunction m0DuplicateFunction m1DuplicateFunction m2DuplicateFunction m3DuplicateFunction m5DuplicateFunction "ValueError.__new__"))
    (xR_DuplicateFunction : PySem.HandSPX.refsVE bmDuplicateFunction = true)
    (sa_DuplicateFunction : PySem.W.findIn K (.ref xDuplicateFunction) "__setattr__" = some (some (.builtin "object.__setattr__")))
    (eC_DuplicateFunction : PySem.W.subIn K (.ref xDuplicateFunction) (.type "BaseException") = some true)
    (tC_DuplicateFunction : PySem.W.typeIn K (.ref xDuplicateFunction) = some (.type "type"))
    (kc_DuplicateFunction : PySem.W.keepIn K (.ref xDuplicateFunction) = true)
    (nw_DuplicateFunction : PySem.W.findIn K (.ref xDuplicateFunction) "what" = some none)
    (ii_DuplicateFunction : PySem.W.findIn K (.ref xDuplicateFunction) "__init__" = some (some (.ref f1)))
    (ga_DuplicateFunction : PySem.W.findIn K (.ref xDuplicateFunction) "__getattribute__" = some (some (.builtin "BaseException.__getattribute__")))
    (gg_DuplicateFunction : PySem.W.findIn K (.ref xDuplicateFunction) "__getattr__" = some none)
    (hd_DuplicateFunction : PySem.W.hasDictIn K xDuplicateFunction = true)
    (pg_Signature : PySem.W.plainGet K xSignature Str.empty = true)
    (hd_Signature : PySem.W.hasDictIn K xSignature = true)
    (po_Signature : PySem.W.plainOver K xSignature = true)
    (sa_Signature : PySem.W.findIn K (.ref xSignature) "__setattr__" = some (some (.builtin "object.__setattr__")))
    (mk_Signature : PySem.W.makesIn K xSignature = true)
    (kc_Signature : PySem.W.keepIn K (.ref xSignature) = true)
    (ha_Signature : PySem.W.findIn K (.ref xSignature) "__class__" = some (some (.builtin "object.__class__")))
    (hm_Signature : PySem.W.mroIn K xSignature (.type "object") = some true)
    (na_Signature_name : PySem.W.findIn K (.ref xSignature) "name" = some none)
    (na_Signature_count : PySem.W.findIn K (.ref xSignature) "count" = some none)
    (na_Signature_sources : PySem.W.findIn K (.ref xSignature) "sources" = some none)
    (pg_Book : PySem.W.plainGet K xBook Str.empty = true)
    (hd_Book : PySem.W.hasDictIn K xBook = true)
    (po_Book : PySem.W.plainOver K xBook = true)
    (sa_Book : PySem.W.findIn K (.ref xBook) "__setattr__" = some (some (.builtin "object.__setattr__")))
    (mk_Book : PySem.W.makesIn K xBook = true)
    (kc_Book : PySem.W.keepIn K (.ref xBook) = true)
    (ha_Book : PySem.W.findIn K (.ref xBook) "__class__" = some (some (.builtin "object.__class__")))
    (hm_Book : PySem.W.mroIn K xBook (.type "object") = some true)
    (na_Book__given : PySem.W.findIn K (.ref xBook) "_given" = some none)
    (na_Book__every : PySem.W.findIn K (.ref xBook) "_every" = some none)
    (na_Book__by_name : PySem.W.findIn K (.ref xBook) "_by_name" = some none)
    (pg_Expression : PySem.W.plainGet K xExpression Str.empty = true)
    (hd_Expression : PySem.W.hasDictIn K xExpression = true)
    (po_Expression : PySem.W.plainOver K xExpression = true)
    (sa_Expression : PySem.W.findIn K (.ref xExpression) "__setattr__" = some (some (.builtin "object.__setattr__")))
    (mk_Expression : PySem.W.makesIn K xExpression = true)
    (kc_Expression : PySem.W.keepIn K (.ref xExpression) = true)
    (ha_Expression : PySem.W.findIn K (.ref xExpression) "__class__" = some (some (.builtin "object.__class__")))
    (hm_Expression : PySem.W.mroIn K xExpression (.type "object") = some true)
    (rd_Expression : PySem.W.readsIn K xExpression (.type "type") = true)
    (rg_Expression : PySem.W.specialIn K (.ref xExpression) "__getattribute__" = some (some (.builtin "type.__getattribute__")))
    (cx_Expression_MOST_NODES : PySem.W.findCls K (.ref xExpression) (.type "type") "MOST_NODES" = some (.val (.int 20 cuExpressionMOST_NODES)))
    (na_Expression__nodes : PySem.W.findIn K (.ref xExpression) "_nodes" = some none)
    (na_Expression__firsts : PySem.W.findIn K (.ref xExpression) "_firsts" = some none)
    (xL_NoWay : K.lookup xNoWay = some (excClassObj nmNoWay qNoWay xNoWay NNoWay bsNoWay bmNoWay true snNoWay subNoWay abNoWay colNoWay ddNoWay m0NoWay m1NoWay m2NoWay m3NoWay m5NoWay "ValueError.__new__"))
    (xR_NoWay : PySem.HandSPX.refsVE bmNoWay = true)
    (sa_NoWay : PySem.W.findIn K (.ref xNoWay) "__setattr__" = some (some (.builtin "object.__setattr__")))
    (eC_NoWay : PySem.W.subIn K (.ref xNoWay) (.type "BaseException") = some true)
    (tC_NoWay : PySem.W.typeIn K (.ref xNoWay) = some (.type "type"))
    (kc_NoWay : PySem.W.keepIn K (.ref xNoWay) = true)
    (nw_NoWay : PySem.W.findIn K (.ref xNoWay) "what" = some none)
    (ii_NoWay : PySem.W.findIn K (.ref xNoWay) "__init__" = some (some (.ref f1)))
    (ga_NoWay : PySem.W.findIn K (.ref xNoWay) "__getattribute__" = some (some (.builtin "BaseException.__getattribute__")))
    (gg_NoWay : PySem.W.findIn K (.ref xNoWay) "__getattr__" = some none)
    (hd_NoWay : PySem.W.hasDictIn K xNoWay = true)
    (ha_NoWay : PySem.W.findIn K (.ref xNoWay) "__class__" = some (some (.builtin "object.__class__")))
    (hm_NoWay : PySem.W.mroIn K xNoWay (.type "object") = some true)
    (hnO : PySem.W.specialIn K (.builtin "object.__class__") "__get__" = some (some (.builtin "getset_descriptor.__get__")))
    (htO : PySem.W.takesIn K (.builtin "object.__class__") = some true)
    (fa_si_dd : PySem.W.subIn K (.ref xDuplicateFunction) (.ref xDuplicateFunction) = some true)
    (fa_tyS : PySem.W.typeIn K (.ref xSignature) = some (.type "type"))
    (fa_sb_str : PySem.W.subIn K (.type "str") (.ref xSignature) = some false)
    (fa_sb_tup : PySem.W.subIn K (.type "tuple") (.ref xSignature) = some false)
    (fa_fi_book_get : PySem.W.fnIn K f12 = true)
    (fa_si_tt : PySem.W.subIn K (.ref xTooLarge) (.ref xTooLarge) = some true)
    (fa_si_td : PySem.W.subIn K (.ref xTooLarge) (.ref xDuplicateFunction) = some false)
    (fa_sf_Book : PySem.W.selfFirst K xBook = true)
    (fa_ne_Sig : PySem.W.findIn K (.ref xSignature) "__ne__" = some (some (.builtin "object.__ne__")))
    (fa_ob_Sig : PySem.W.subIn K (.ref xSignature) (.type "object") = some true)
    (fa_si_uu : PySem.W.subIn K (.ref xUnknownFunction) (.ref xUnknownFunction) = some true)
    (fa_si_nn : PySem.W.subIn K (.ref xNoWay) (.ref xNoWay) = some true)
    (fa_si_un : PySem.W.subIn K (.ref xUnknownFunction) (.ref xNoWay) = some false)
    (eDIGITS : PySem.W.nsIn K mainGlobals "DIGITS" = some (some (.str "0123456789" tDIGITS)))
    (eLETTERS : PySem.W.nsIn K mainGlobals "LETTERS" = some (some (.str "abcdefghijklmnopqrstuvwxyz" tLETTERS)))
    (eMOST_ARGUMENTS : PySem.W.nsIn K mainGlobals "MOST_ARGUMENTS" = some (some (.int 4 tMOST_ARGUMENTS)))
    (eMOST_CHARACTERS : PySem.W.nsIn K mainGlobals "MOST_CHARACTERS" = some (some (.int 8 tMOST_CHARACTERS)))
    (eMOST_GIVEN : PySem.W.nsIn K mainGlobals "MOST_GIVEN" = some (some (.int 12 tMOST_GIVEN)))
    (eMOST_PARAMETERS : PySem.W.nsIn K mainGlobals "MOST_PARAMETERS" = some (some (.int 4 tMOST_PARAMETERS)))
    (eOPERATIONS : PySem.W.nsIn K mainGlobals "OPERATIONS" = some (some (.ref xOPERATIONS)))
    (oOPERATIONS : K.lookup xOPERATIONS = some ⟨.type "dict", none, .dict esOPERATIONS nnOPERATIONS, #[]⟩)
    (yOPERATIONS : PySem.W.KeysLit w.params esOPERATIONS.toList)
    (pOPERATIONS : Paired (fun (e : DictEntry) (kv : Str × Int) => ∃ t u, e.key = .str kv.1 t ∧ e.val = .int kv.2 u) esOPERATIONS.toList k_OPERATIONS)
    (sOPERATIONS : (xOPERATIONS == sysModules) = false)
    (eRESERVED : PySem.W.nsIn K mainGlobals "RESERVED" = some (some (.ref xRESERVED)))
    (oRESERVED : K.lookup xRESERVED = some ⟨.type "tuple", odRESERVED, .seq vRESERVED.toArray nnRESERVED, slRESERVED⟩)
    (wRESERVED : Vals k_RESERVED vRESERVED)
    : ∃ fd : FuncData, (∀ (s : Shared) (v : Value), BindsTo s fd ⟨[v], []⟩ [("_law_script", v)]) ∧ ∀ base : Heap, K.In base → base.Ns mainGlobals mg → FnOk l.prog w K mg base CX0 26 fa fd ["_law_script"] (spLaw K) := by
  have e := hfa.symm.trans (PySem.W.mg_of X G a50)
  cases e
  have F1 := fun_mk (st := s_lives_init) l1 c1 k1
  have b1 := F1.binds (ps := p_lives_init) fun _ _ _ _ _ _ us hl => match us, hl with | [_, _], _ => rfl
  have F2 := fun_mk (st := s_is_whole) l2 c2 k2
  have b2 := F2.binds (ps := p_is_whole) fun _ _ _ _ _ _ us hl => match us, hl with | [_], _ => rfl
  have F3 := fun_mk (st := s_is_int) l3 c3 k3
  have b3 := F3.binds (ps := p_is_int) fun _ _ _ _ _ _ us hl => match us, hl with | [_, _, _], _ => rfl
  have F4 := fun_mk (st := s_is_name) l4 c4 k4
  have b4 := F4.binds (ps := p_is_name) fun _ _ _ _ _ _ us hl => match us, hl with | [_], _ => rfl
  have F5 := fun_mk (st := s_are_sources) l5 c5 k5
  have b5 := F5.binds (ps := p_are_sources) fun _ _ _ _ _ _ us hl => match us, hl with | [_, _], _ => rfl
  have F6 := fun_mk (st := s_is_signature) l6 c6 k6
  have b6 := F6.binds (ps := p_is_signature) fun _ _ _ _ _ _ us hl => match us, hl with | [_, _, _], _ => rfl
  have F8 := fun_mk (st := s_sig_eq) l8 c8 k8
  have b8 := F8.binds (ps := p_sig_eq) fun _ _ _ _ _ _ us hl => match us, hl with | [_, _], _ => rfl
  have F9 := fun_mk (st := s_book_init) l9 c9 k9
  have F10 := fun_mk (st := s_book_len) l10 c10 k10
  have b10 := F10.binds (ps := p_book_len) fun _ _ _ _ _ _ us hl => match us, hl with | [_], _ => rfl
  have F11 := fun_mk (st := s_book_has) l11 c11 k11
  have b11 := F11.binds (ps := p_book_has) fun _ _ _ _ _ _ us hl => match us, hl with | [_, _], _ => rfl
  have F12 := fun_mk (st := s_book_get) l12 c12 k12
  have b12 := F12.binds (ps := p_book_get) fun _ _ _ _ _ _ us hl => match us, hl with | [_, _], _ => rfl
  have F13 := fun_mk (st := s_book_iter) l13 c13 k13
  have b13 := F13.binds (ps := p_book_iter) fun _ _ _ _ _ _ us hl => match us, hl with | [_], _ => rfl
  have F14 := fun_mk (st := s_book_or) l14 c14 k14
  have b14 := F14.binds (ps := p_book_or) fun _ _ _ _ _ _ us hl => match us, hl with | [_, _], _ => rfl
  have F15 := fun_mk (st := s_cut) l15 c15 k15
  have b15 := F15.binds (ps := p_cut) fun _ _ _ _ _ _ us hl => match us, hl with | [_], _ => rfl
  have F16 := fun_mk (st := s_operation) l16 c16 k16
  have b16 := F16.binds (ps := p_operation) fun _ _ _ _ _ _ us hl => match us, hl with | [_, _], _ => rfl
  have F17 := fun_mk (st := s_closed) l17 c17 k17
  have b17 := F17.binds (ps := p_closed) fun _ _ _ _ _ _ us hl => match us, hl with | [_, _], _ => rfl
  have F18 := fun_mk (st := s_add_node) l18 c18 k18
  have b18 := F18.binds (ps := p_add_node) fun _ _ _ _ _ _ us hl => match us, hl with | [_, _, _], _ => rfl
  have F19 := fun_mk (st := s_nodes_of) l19 c19 k19
  have b19 := F19.binds (ps := p_nodes_of) fun _ _ _ _ _ _ us hl => match us, hl with | [_], _ => rfl
  have F20 := fun_mk (st := s_operands_of) l20 c20 k20
  have b20 := F20.binds (ps := p_operands_of) fun _ _ _ _ _ _ us hl => match us, hl with | [_], _ => rfl
  have F21 := fun_mk (st := s_firsts_of) l21 c21 k21
  have b21 := F21.binds (ps := p_firsts_of) fun _ _ _ _ _ _ us hl => match us, hl with | [_], _ => rfl
  have F22 := fun_mk (st := s_ex_init) l22 c22 k22
  have b22 := F22.binds (ps := p_ex_init) fun _ _ _ _ _ _ us hl => match us, hl with | [_, _], _ => rfl
  have F23 := fun_mk (st := s_ex_read) l23 c23 k23
  have b23 := F23.binds (ps := p_ex_read) fun _ _ _ _ _ _ us hl => match us, hl with | [_, _], _ => rfl
  have F24 := fun_mk (st := s_ex_nodes) l24 c24 k24
  have b24 := F24.binds (ps := p_ex_nodes) fun _ _ _ _ _ _ us hl => match us, hl with | [_], _ => rfl
  have F25 := fun_mk (st := s_ex_len) l25 c25 k25
  have b25 := F25.binds (ps := p_ex_len) fun _ _ _ _ _ _ us hl => match us, hl with | [_], _ => rfl
  have F26 := fun_mk (st := s_draws) l26 c26 k26
  have b26 := F26.binds (ps := p_draws) fun _ _ _ _ _ _ us hl => match us, hl with | [_], _ => rfl
  have F27 := fun_mk (st := s_take) l27 c27 k27
  have b27 := F27.binds (ps := p_take) fun _ _ _ _ _ _ us hl => match us, hl with | [_, _], _ => rfl
  have F28 := fun_mk (st := s_name) l28 c28 k28
  have b28 := F28.binds (ps := p_name) fun _ _ _ _ _ _ us hl => match us, hl with | [_, _], _ => rfl
  have F29 := fun_mk (st := s_functions) l29 c29 k29
  have b29 := F29.binds (ps := p_functions) fun _ _ _ _ _ _ us hl => match us, hl with | [_], _ => rfl
  have F30 := fun_mk (st := s_add) l30 c30 k30
  have b30 := F30.binds (ps := p_add) fun _ _ _ _ _ _ us hl => match us, hl with | [_, _, _, _], _ => rfl
  have F31 := fun_mk (st := s_expression) l31 c31 k31
  have b31 := F31.binds (ps := p_expression) fun _ _ _ _ _ _ us hl => match us, hl with | [_, _, _, _], _ => rfl
  have F32 := fun_mk (st := s_book_rows) l32 c32 k32
  have b32 := F32.binds (ps := p_book_rows) fun _ _ _ _ _ _ us hl => match us, hl with | [_], _ => rfl
  have F33 := fun_mk (st := s_givers_of) l33 c33 k33
  have b33 := F33.binds (ps := p_givers_of) fun _ _ _ _ _ _ us hl => match us, hl with | [_, _], _ => rfl
  have F34 := fun_mk (st := s_givers) l34 c34 k34
  have b34 := F34.binds (ps := p_givers) fun _ _ _ _ _ _ us hl => match us, hl with | [_, _], _ => rfl
  have F35 := fun_mk (st := s_options) l35 c35 k35
  have b35 := F35.binds (ps := p_options) fun _ _ _ _ _ _ us hl => match us, hl with | [_, _], _ => rfl
  have F36 := fun_mk (st := s_united) l36 c36 k36
  have b36 := F36.binds (ps := p_united) fun _ _ _ _ _ _ us hl => match us, hl with | [_], _ => rfl
  have F37 := fun_mk (st := s_results) l37 c37 k37
  have b37 := F37.binds (ps := p_results) fun _ _ _ _ _ _ us hl => match us, hl with | [_, _], _ => rfl
  have F38 := fun_mk (st := s_numbers_for) l38 c38 k38
  have b38 := F38.binds (ps := p_numbers_for) fun _ _ _ _ _ _ us hl => match us, hl with | [_, _, _, _], _ => rfl
  have F39 := fun_mk (st := s_completed) l39 c39 k39
  have b39 := F39.binds (ps := p_completed) fun _ _ _ _ _ _ us hl => match us, hl with | [_, _, _], _ => rfl
  have F40 := fun_mk (st := s_choice_for_result) l40 c40 k40
  have b40 := F40.binds (ps := p_choice_for_result) fun _ _ _ _ _ _ us hl => match us, hl with | [_, _, _], _ => rfl
  have F41 := fun_mk (st := s_sources) l41 c41 k41
  have b41 := F41.binds (ps := p_sources) fun _ _ _ _ _ _ us hl => match us, hl with | [_, _], _ => rfl
  have F42 := fun_mk (st := s_others) l42 c42 k42
  have b42 := F42.binds (ps := p_others) fun _ _ _ _ _ _ us hl => match us, hl with | [_, _], _ => rfl
  have F43 := fun_mk (st := s_lresults) l43 c43 k43
  have b43 := F43.binds (ps := p_lresults) fun _ _ _ _ _ _ us hl => match us, hl with | [_, _], _ => rfl
  have F44 := fun_mk (st := s_integer) l44 c44 k44
  have b44 := F44.binds (ps := p_integer) fun _ _ _ _ _ _ us hl => match us, hl with | [_], _ => rfl
  have F45 := fun_mk (st := s_lchoice) l45 c45 k45
  have b45 := F45.binds (ps := p_lchoice) fun _ _ _ _ _ _ us hl => match us, hl with | [_, _, _], _ => rfl
  have F46 := fun_mk (st := s_origin) l46 c46 k46
  have b46 := F46.binds (ps := p_origin) fun _ _ _ _ _ _ us hl => match us, hl with | [_, _, _], _ => rfl
  have F47 := fun_mk (st := s_told) l47 c47 k47
  have b47 := F47.binds (ps := p_told) fun _ _ _ _ _ _ us hl => match us, hl with | [_, _, _], _ => rfl
  have F48 := fun_mk (st := s_same) l48 c48 k48
  have b48 := F48.binds (ps := p_same) fun _ _ _ _ _ _ us hl => match us, hl with | [_, _], _ => rfl
  have F49 := fun_mk (st := s_lholds) l49 c49 k49
  have b49 := F49.binds (ps := p_lholds) fun _ _ _ _ _ _ us hl => match us, hl with | [_, _, _, _, _, _], _ => rfl
  have F50 := fun_mk (st := s_law) l50 c50 k50
  have b50 := F50.binds (ps := p_law) fun _ _ _ _ _ _ us hl => match us, hl with | [_], _ => rfl
  let A : Adr := ⟨f0, (PySem.W.fnOf "copied" "copied" (defArgs s_copied) (defBody s_copied) (defScope s_copied) (.ref dT0) kV0 dc0 pm0 an0 cd0 ct0), f1, (PySem.W.fnOf "__init__" "LivesError.__init__" (defArgs s_lives_init) (defBody s_lives_init) (defScope s_lives_init) .none kV1 dc1 pm1 an1 cd1 ct1), f2, (PySem.W.fnOf "is_whole" "is_whole" (defArgs s_is_whole) (defBody s_is_whole) (defScope s_is_whole) .none kV2 dc2 pm2 an2 cd2 ct2), f3, (PySem.W.fnOf "is_integer_in" "is_integer_in" (defArgs s_is_int) (defBody s_is_int) (defScope s_is_int) .none kV3 dc3 pm3 an3 cd3 ct3), f4, (PySem.W.fnOf "is_name" "is_name" (defArgs s_is_name) (defBody s_is_name) (defScope s_is_name) .none kV4 dc4 pm4 an4 cd4 ct4), f5, (PySem.W.fnOf "are_sources" "are_sources" (defArgs s_are_sources) (defBody s_are_sources) (defScope s_are_sources) .none kV5 dc5 pm5 an5 cd5 ct5), f6, (PySem.W.fnOf "is_signature" "is_signature" (defArgs s_is_signature) (defBody s_is_signature) (defScope s_is_signature) .none kV6 dc6 pm6 an6 cd6 ct6), f7, (PySem.W.fnOf "__init__" "Signature.__init__" (defArgs s_sig_init) (defBody s_sig_init) (defScope s_sig_init) .none (.ref kD7) dc7 pm7 an7 cd7 ct7), f8, (PySem.W.fnOf "__eq__" "Signature.__eq__" (defArgs s_sig_eq) (defBody s_sig_eq) (defScope s_sig_eq) .none kV8 dc8 pm8 an8 cd8 ct8), f9, (PySem.W.fnOf "__init__" "Book.__init__" (defArgs s_book_init) (defBody s_book_init) (defScope s_book_init) .none kV9 dc9 pm9 an9 cd9 ct9), f10, (PySem.W.fnOf "__len__" "Book.__len__" (defArgs s_book_len) (defBody s_book_len) (defScope s_book_len) .none kV10 dc10 pm10 an10 cd10 ct10), f11, (PySem.W.fnOf "__contains__" "Book.__contains__" (defArgs s_book_has) (defBody s_book_has) (defScope s_book_has) .none kV11 dc11 pm11 an11 cd11 ct11), f12, (PySem.W.fnOf "__getitem__" "Book.__getitem__" (defArgs s_book_get) (defBody s_book_get) (defScope s_book_get) .none kV12 dc12 pm12 an12 cd12 ct12), f13, (PySem.W.fnOf "__iter__" "Book.__iter__" (defArgs s_book_iter) (defBody s_book_iter) (defScope s_book_iter) .none kV13 dc13 pm13 an13 cd13 ct13), f14, (PySem.W.fnOf "__or__" "Book.__or__" (defArgs s_book_or) (defBody s_book_or) (defScope s_book_or) .none kV14 dc14 pm14 an14 cd14 ct14), f15, (PySem.W.fnOf "cut" "cut" (defArgs s_cut) (defBody s_cut) (defScope s_cut) .none kV15 dc15 pm15 an15 cd15 ct15), f16, (PySem.W.fnOf "operation" "operation" (defArgs s_operation) (defBody s_operation) (defScope s_operation) .none kV16 dc16 pm16 an16 cd16 ct16), f17, (PySem.W.fnOf "closed" "closed" (defArgs s_closed) (defBody s_closed) (defScope s_closed) .none kV17 dc17 pm17 an17 cd17 ct17), f18, (PySem.W.fnOf "add_node" "add_node" (defArgs s_add_node) (defBody s_add_node) (defScope s_add_node) .none kV18 dc18 pm18 an18 cd18 ct18), f19, (PySem.W.fnOf "nodes_of" "nodes_of" (defArgs s_nodes_of) (defBody s_nodes_of) (defScope s_nodes_of) .none kV19 dc19 pm19 an19 cd19 ct19), f20, (PySem.W.fnOf "operands_of" "operands_of" (defArgs s_operands_of) (defBody s_operands_of) (defScope s_operands_of) .none kV20 dc20 pm20 an20 cd20 ct20), f21, (PySem.W.fnOf "firsts_of" "firsts_of" (defArgs s_firsts_of) (defBody s_firsts_of) (defScope s_firsts_of) .none kV21 dc21 pm21 an21 cd21 ct21), f22, (PySem.W.fnOf "__init__" "Expression.__init__" (defArgs s_ex_init) (defBody s_ex_init) (defScope s_ex_init) .none kV22 dc22 pm22 an22 cd22 ct22), f23, (PySem.W.fnOf "read" "Expression.read" (defArgs s_ex_read) (defBody s_ex_read) (defScope s_ex_read) .none kV23 dc23 pm23 an23 cd23 ct23), f24, (PySem.W.fnOf "nodes" "Expression.nodes" (defArgs s_ex_nodes) (defBody s_ex_nodes) (defScope s_ex_nodes) .none kV24 dc24 pm24 an24 cd24 ct24), f25, (PySem.W.fnOf "__len__" "Expression.__len__" (defArgs s_ex_len) (defBody s_ex_len) (defScope s_ex_len) .none kV25 dc25 pm25 an25 cd25 ct25), f26, (PySem.W.fnOf "_law_draws" "_law_draws" (defArgs s_draws) (defBody s_draws) (defScope s_draws) .none kV26 dc26 pm26 an26 cd26 ct26), f27, (PySem.W.fnOf "_law_take" "_law_take" (defArgs s_take) (defBody s_take) (defScope s_take) .none kV27 dc27 pm27 an27 cd27 ct27), f28, (PySem.W.fnOf "_law_name" "_law_name" (defArgs s_name) (defBody s_name) (defScope s_name) .none kV28 dc28 pm28 an28 cd28 ct28), f29, (PySem.W.fnOf "_law_functions" "_law_functions" (defArgs s_functions) (defBody s_functions) (defScope s_functions) .none kV29 dc29 pm29 an29 cd29 ct29), f30, (PySem.W.fnOf "_law_add" "_law_add" (defArgs s_add) (defBody s_add) (defScope s_add) .none kV30 dc30 pm30 an30 cd30 ct30), f31, (PySem.W.fnOf "_law_expression" "_law_expression" (defArgs s_expression) (defBody s_expression) (defScope s_expression) .none kV31 dc31 pm31 an31 cd31 ct31), f32, (PySem.W.fnOf "_law_book" "_law_book" (defArgs s_book_rows) (defBody s_book_rows) (defScope s_book_rows) .none kV32 dc32 pm32 an32 cd32 ct32), f33, (PySem.W.fnOf "givers_of" "givers_of" (defArgs s_givers_of) (defBody s_givers_of) (defScope s_givers_of) .none kV33 dc33 pm33 an33 cd33 ct33), f34, (PySem.W.fnOf "givers" "givers" (defArgs s_givers) (defBody s_givers) (defScope s_givers) .none kV34 dc34 pm34 an34 cd34 ct34), f35, (PySem.W.fnOf "options" "options" (defArgs s_options) (defBody s_options) (defScope s_options) .none kV35 dc35 pm35 an35 cd35 ct35), f36, (PySem.W.fnOf "united" "united" (defArgs s_united) (defBody s_united) (defScope s_united) .none kV36 dc36 pm36 an36 cd36 ct36), f37, (PySem.W.fnOf "results" "results" (defArgs s_results) (defBody s_results) (defScope s_results) .none kV37 dc37 pm37 an37 cd37 ct37), f38, (PySem.W.fnOf "numbers_for" "numbers_for" (defArgs s_numbers_for) (defBody s_numbers_for) (defScope s_numbers_for) .none kV38 dc38 pm38 an38 cd38 ct38), f39, (PySem.W.fnOf "completed" "completed" (defArgs s_completed) (defBody s_completed) (defScope s_completed) .none kV39 dc39 pm39 an39 cd39 ct39), f40, (PySem.W.fnOf "choice_for_result" "choice_for_result" (defArgs s_choice_for_result) (defBody s_choice_for_result) (defScope s_choice_for_result) .none kV40 dc40 pm40 an40 cd40 ct40), f41, (PySem.W.fnOf "_law_sources" "_law_sources" (defArgs s_sources) (defBody s_sources) (defScope s_sources) .none kV41 dc41 pm41 an41 cd41 ct41), f42, (PySem.W.fnOf "_law_other_sources" "_law_other_sources" (defArgs s_others) (defBody s_others) (defScope s_others) .none kV42 dc42 pm42 an42 cd42 ct42), f43, (PySem.W.fnOf "_law_results" "_law_results" (defArgs s_lresults) (defBody s_lresults) (defScope s_lresults) .none kV43 dc43 pm43 an43 cd43 ct43), f44, (PySem.W.fnOf "_law_integer" "_law_integer" (defArgs s_integer) (defBody s_integer) (defScope s_integer) .none kV44 dc44 pm44 an44 cd44 ct44), f45, (PySem.W.fnOf "_law_is_choice" "_law_is_choice" (defArgs s_lchoice) (defBody s_lchoice) (defScope s_lchoice) .none kV45 dc45 pm45 an45 cd45 ct45), f46, (PySem.W.fnOf "_law_origin" "_law_origin" (defArgs s_origin) (defBody s_origin) (defScope s_origin) .none kV46 dc46 pm46 an46 cd46 ct46), f47, (PySem.W.fnOf "_law_told" "_law_told" (defArgs s_told) (defBody s_told) (defScope s_told) .none kV47 dc47 pm47 an47 cd47 ct47), f48, (PySem.W.fnOf "_law_same" "_law_same" (defArgs s_same) (defBody s_same) (defScope s_same) .none kV48 dc48 pm48 an48 cd48 ct48), f49, (PySem.W.fnOf "_law_holds" "_law_holds" (defArgs s_lholds) (defBody s_lholds) (defScope s_lholds) .none kV49 dc49 pm49 an49 cd49 ct49), fa, (PySem.W.fnOf "law" "law" (defArgs s_law) (defBody s_law) (defScope s_law) .none kV50 dc50 pm50 an50 cd50 ct50), kT7sources, pr23, pr24, xLivesError, xInvalidSignature, xUnknownFunction, xTooLarge, xDuplicateFunction, xSignature, xBook, xExpression, xNoWay, tDIGITS, tLETTERS, tMOST_ARGUMENTS, tMOST_CHARACTERS, tMOST_GIVEN, tMOST_PARAMETERS, xOPERATIONS, xRESERVED⟩
  have T : Tx0 w K mg A := {
    F_copied := ⟨⟨_, _, _, _, _, _, _, _, _, _, rfl, l0, c0, .inr ⟨(fun z => nomatch z), _, _, _, _, rfl, dl0, rfl, (.cons ⟨_, rfl⟩ .nil)⟩, .inl rfl⟩, k0⟩,
    g_copied := PySem.W.mg_of X G a0,
    F_lives_init := F1,
    b_lives_init := b1,
    ti_lives_init := i1,
    F_is_whole := F2,
    b_is_whole := b2,
    g_is_whole := PySem.W.mg_of X G a2,
    F_is_int := F3,
    b_is_int := b3,
    g_is_int := PySem.W.mg_of X G a3,
    F_is_name := F4,
    b_is_name := b4,
    g_is_name := PySem.W.mg_of X G a4,
    F_are_sources := F5,
    b_are_sources := b5,
    g_are_sources := PySem.W.mg_of X G a5,
    F_is_signature := F6,
    b_is_signature := b6,
    g_is_signature := PySem.W.mg_of X G a6,
    F_sig_init := ⟨⟨_, _, _, _, _, _, _, _, _, _, rfl, l7, c7, .inl ⟨rfl, rfl⟩, .inr ⟨_, rfl, fun q hq => by
      simp only [List.mem_cons, List.not_mem_nil, or_false] at hq
      rcases hq with rfl
      · exact ⟨_, kw7sources, rfl⟩⟩⟩, k7⟩,
    q_sig_init_sources := fun H => .inr ⟨_, _, _, kl7sources, rfl, rfl, by decide, .nil⟩,
    o_sig_init_sources := ⟨_, kl7sources, rfl⟩,
    e_sig_init := ⟨a7, i7, k7⟩,
    F_sig_eq := F8,
    b_sig_eq := b8,
    e_sig_eq := ⟨a8, i8, k8⟩,
    F_book_init := F9,
    e_book_init := ⟨a9, i9, k9⟩,
    F_book_len := F10,
    b_book_len := b10,
    e_book_len := ⟨a10, i10, k10⟩,
    F_book_has := F11,
    b_book_has := b11,
    e_book_has := ⟨a11, i11, k11⟩,
    F_book_get := F12,
    b_book_get := b12,
    e_book_get := ⟨a12, i12, k12⟩,
    F_book_iter := F13,
    b_book_iter := b13,
    e_book_iter := ⟨a13, i13, k13⟩,
    F_book_or := F14,
    b_book_or := b14,
    e_book_or := ⟨a14, i14, k14⟩,
    F_cut := F15,
    b_cut := b15,
    g_cut := PySem.W.mg_of X G a15,
    F_operation := F16,
    b_operation := b16,
    g_operation := PySem.W.mg_of X G a16,
    F_closed := F17,
    b_closed := b17,
    g_closed := PySem.W.mg_of X G a17,
    F_add_node := F18,
    b_add_node := b18,
    g_add_node := PySem.W.mg_of X G a18,
    F_nodes_of := F19,
    b_nodes_of := b19,
    g_nodes_of := PySem.W.mg_of X G a19,
    F_operands_of := F20,
    b_operands_of := b20,
    g_operands_of := PySem.W.mg_of X G a20,
    F_firsts_of := F21,
    b_firsts_of := b21,
    g_firsts_of := PySem.W.mg_of X G a21,
    F_ex_init := F22,
    b_ex_init := b22,
    e_ex_init := ⟨a22, i22, k22⟩,
    F_ex_read := F23,
    b_ex_read := b23,
    cm_ex_read := ⟨a23, ⟨_, pc23⟩, fi23⟩,
    F_ex_nodes := F24,
    b_ex_nodes := b24,
    r_ex_nodes := ⟨a24, pg24, pt24, _, pc24⟩,
    F_ex_len := F25,
    b_ex_len := b25,
    e_ex_len := ⟨a25, i25, k25⟩,
    F_draws := F26,
    b_draws := b26,
    g_draws := PySem.W.mg_of X G a26,
    F_take := F27,
    b_take := b27,
    g_take := PySem.W.mg_of X G a27,
    F_name := F28,
    b_name := b28,
    g_name := PySem.W.mg_of X G a28,
    F_functions := F29,
    b_functions := b29,
    g_functions := PySem.W.mg_of X G a29,
    F_add := F30,
    b_add := b30,
    g_add := PySem.W.mg_of X G a30,
    F_expression := F31,
    b_expression := b31,
    g_expression := PySem.W.mg_of X G a31,
    F_book_rows := F32,
    b_book_rows := b32,
    g_book_rows := PySem.W.mg_of X G a32,
    F_givers_of := F33,
    b_givers_of := b33,
    g_givers_of := PySem.W.mg_of X G a33,
    F_givers := F34,
    b_givers := b34,
    g_givers := PySem.W.mg_of X G a34,
    F_options := F35,
    b_options := b35,
    g_options := PySem.W.mg_of X G a35,
    F_united := F36,
    b_united := b36,
    g_united := PySem.W.mg_of X G a36,
    F_results := F37,
    b_results := b37,
    g_results := PySem.W.mg_of X G a37,
    F_numbers_for := F38,
    b_numbers_for := b38,
    g_numbers_for := PySem.W.mg_of X G a38,
    F_completed := F39,
    b_completed := b39,
    g_completed := PySem.W.mg_of X G a39,
    F_choice_for_result := F40,
    b_choice_for_result := b40,
    g_choice_for_result := PySem.W.mg_of X G a40,
    F_sources := F41,
    b_sources := b41,
    g_sources := PySem.W.mg_of X G a41,
    F_others := F42,
    b_others := b42,
    g_others := PySem.W.mg_of X G a42,
    F_lresults := F43,
    b_lresults := b43,
    g_lresults := PySem.W.mg_of X G a43,
    F_integer := F44,
    b_integer := b44,
    g_integer := PySem.W.mg_of X G a44,
    F_lchoice := F45,
    b_lchoice := b45,
    g_lchoice := PySem.W.mg_of X G a45,
    F_origin := F46,
    b_origin := b46,
    g_origin := PySem.W.mg_of X G a46,
    F_told := F47,
    b_told := b47,
    g_told := PySem.W.mg_of X G a47,
    F_same := F48,
    b_same := b48,
    g_same := PySem.W.mg_of X G a48,
    F_lholds := F49,
    b_lholds := b49,
    g_lholds := PySem.W.mg_of X G a49,
    F_law := F50,
    b_law := b50,
    g_law := PySem.W.mg_of X G a50,
    m_ValueError := PySem.W.mg_none_of X G zValueError,
    m_abs := PySem.W.mg_none_of X G zabs,
    m_all := PySem.W.mg_none_of X G zall,
    m_bool := PySem.W.mg_none_of X G zbool,
    m_dict := PySem.W.mg_none_of X G zdict,
    m_enumerate := PySem.W.mg_none_of X G zenumerate,
    m_int := PySem.W.mg_none_of X G zint,
    m_isinstance := PySem.W.mg_none_of X G zisinstance,
    m_iter := PySem.W.mg_none_of X G ziter,
    m_len := PySem.W.mg_none_of X G zlen,
    m_list := PySem.W.mg_none_of X G zlist,
    m_max := PySem.W.mg_none_of X G zmax,
    m_min := PySem.W.mg_none_of X G zmin,
    m_range := PySem.W.mg_none_of X G zrange,
    m_reversed := PySem.W.mg_none_of X G zreversed,
    m_sorted := PySem.W.mg_none_of X G zsorted,
    m_str := PySem.W.mg_none_of X G zstr,
    m_tuple := PySem.W.mg_none_of X G ztuple,
    m_zip := PySem.W.mg_none_of X G zzip,
    g_LivesError := PySem.W.mg_of X G aCLivesError,
    ex_LivesError := ⟨⟨⟨_, _, _, _, _, _, _, _, _, _, _, _, _, _, _, xL_LivesError, xR_LivesError⟩, sa_LivesError, eC_LivesError, tC_LivesError, kc_LivesError⟩, ii_LivesError, nw_LivesError, ⟨ga_LivesError, gg_LivesError, eC_LivesError, hd_LivesError⟩⟩,
    g_InvalidSignature := PySem.W.mg_of X G aCInvalidSignature,
    ex_InvalidSignature := ⟨⟨⟨_, _, _, _, _, _, _, _, _, _, _, _, _, _, _, xL_InvalidSignature, xR_InvalidSignature⟩, sa_InvalidSignature, eC_InvalidSignature, tC_InvalidSignature, kc_InvalidSignature⟩, ii_InvalidSignature, nw_InvalidSignature, ⟨ga_InvalidSignature, gg_InvalidSignature, eC_InvalidSignature, hd_InvalidSignature⟩⟩,
    g_UnknownFunction := PySem.W.mg_of X G aCUnknownFunction,
    ex_UnknownFunction := ⟨⟨⟨_, _, _, _, _, _, _, _, _, _, _, _, _, _, _, xL_UnknownFunction, xR_UnknownFunction⟩, sa_UnknownFunction, eC_UnknownFunction, tC_UnknownFunction, kc_UnknownFunction⟩, ii_UnknownFunction, nw_UnknownFunction, ⟨ga_UnknownFunction, gg_UnknownFunction, eC_UnknownFunction, hd_UnknownFunction⟩⟩,
    g_TooLarge := PySem.W.mg_of X G aCTooLarge,
    ex_TooLarge := ⟨⟨⟨_, _, _, _, _, _, _, _, _, _, _, _, _, _, _, xL_TooLarge, xR_TooLarge⟩, sa_TooLarge, eC_TooLarge, tC_TooLarge, kc_TooLarge⟩, ii_TooLarge, nw_TooLarge, ⟨ga_TooLarge, gg_TooLarge, eC_TooLarge, hd_TooLarge⟩⟩,
    g_DuplicateFunction := PySem.W.mg_of X G aCDuplicateFunction,
    ex_DuplicateFunction := ⟨⟨⟨_, _, _, _, _, _, _, _, _, _, _, _, _, _, _, xL_DuplicateFunction, xR_DuplicateFunction⟩, sa_DuplicateFunction, eC_DuplicateFunction, tC_DuplicateFunction, kc_DuplicateFunction⟩, ii_DuplicateFunction, nw_DuplicateFunction, ⟨ga_DuplicateFunction, gg_DuplicateFunction, eC_DuplicateFunction, hd_DuplicateFunction⟩⟩,
    g_Signature := PySem.W.mg_of X G aCSignature,
    cl_Signature := ⟨pg_Signature, hd_Signature, po_Signature, sa_Signature⟩,
    ty_Signature := ⟨ha_Signature, hnO, htO, hm_Signature⟩,
    mk_Signature := ⟨mk_Signature, a7, i7, kc_Signature⟩,
    na_Signature_name := na_Signature_name,
    na_Signature_count := na_Signature_count,
    na_Signature_sources := na_Signature_sources,
    g_Book := PySem.W.mg_of X G aCBook,
    cl_Book := ⟨pg_Book, hd_Book, po_Book, sa_Book⟩,
    ty_Book := ⟨ha_Book, hnO, htO, hm_Book⟩,
    mk_Book := ⟨mk_Book, a9, i9, kc_Book⟩,
    na_Book__given := na_Book__given,
    na_Book__every := na_Book__every,
    na_Book__by_name := na_Book__by_name,
    g_Expression := PySem.W.mg_of X G aCExpression,
    cl_Expression := ⟨pg_Expression, hd_Expression, po_Expression, sa_Expression⟩,
    ty_Expression := ⟨ha_Expression, hnO, htO, hm_Expression⟩,
    mk_Expression := ⟨mk_Expression, a22, i22, kc_Expression⟩,
    cr_Expression := ⟨rd_Expression, rg_Expression⟩,
    cv_Expression_MOST_NODES := ⟨_, cx_Expression_MOST_NODES, ⟨_, rfl⟩⟩,
    na_Expression__nodes := na_Expression__nodes,
    na_Expression__firsts := na_Expression__firsts,
    g_NoWay := PySem.W.mg_of X G aCNoWay,
    ex_NoWay := ⟨⟨⟨_, _, _, _, _, _, _, _, _, _, _, _, _, _, _, xL_NoWay, xR_NoWay⟩, sa_NoWay, eC_NoWay, tC_NoWay, kc_NoWay⟩, ii_NoWay, nw_NoWay, ⟨ga_NoWay, gg_NoWay, eC_NoWay, hd_NoWay⟩⟩,
    xi_NoWay := ⟨UL.cls_some hd_NoWay, ga_NoWay, gg_NoWay, eC_NoWay, ha_NoWay, hnO, htO, hm_NoWay⟩,
    ks_str := UL.kit_type_ref hd_Signature fa_tyS fa_sb_str,
    ks_tup := UL.kit_type_ref hd_Signature fa_tyS fa_sb_tup,
    ks_own := UL.kit_own,
    kb_own := UL.kit_own,
    te_tt := UL.exm_cls eC_TooLarge hd_TooLarge tC_TooLarge fa_si_tt,
    te_dd := UL.exm_cls eC_DuplicateFunction hd_DuplicateFunction tC_DuplicateFunction fa_si_dd,
    te_td := UL.exm_cls eC_DuplicateFunction hd_DuplicateFunction tC_DuplicateFunction fa_si_td,
    te_uu := UL.exm_cls eC_UnknownFunction hd_UnknownFunction tC_UnknownFunction fa_si_uu,
    te_nn := UL.exm_cls eC_NoWay hd_NoWay tC_NoWay fa_si_nn,
    te_un := UL.exm_cls eC_NoWay hd_NoWay tC_NoWay fa_si_un,
    si_dd := fa_si_dd,
    tyS := fa_tyS,
    sb_str := fa_sb_str,
    sb_tup := fa_sb_tup,
    fi_book_get := fa_fi_book_get,
    si_tt := fa_si_tt,
    si_td := fa_si_td,
    sf_Book := fa_sf_Book,
    ne_Sig := fa_ne_Sig,
    ob_Sig := fa_ob_Sig,
    si_uu := fa_si_uu,
    si_nn := fa_si_nn,
    si_un := fa_si_un,
    c_DIGITS := PySem.W.mg_of X G eDIGITS,
    c_LETTERS := PySem.W.mg_of X G eLETTERS,
    c_MOST_ARGUMENTS := PySem.W.mg_of X G eMOST_ARGUMENTS,
    c_MOST_CHARACTERS := PySem.W.mg_of X G eMOST_CHARACTERS,
    c_MOST_GIVEN := PySem.W.mg_of X G eMOST_GIVEN,
    c_MOST_PARAMETERS := PySem.W.mg_of X G eMOST_PARAMETERS,
    c_OPERATIONS := PySem.W.mg_of X G eOPERATIONS,
    w_OPERATIONS := ⟨_, _, oOPERATIONS, yOPERATIONS, pOPERATIONS, sOPERATIONS⟩,
    c_RESERVED := PySem.W.mg_of X G eRESERVED,
    q_RESERVED := fun H => .inr ⟨_, _, _, oRESERVED, rfl, rfl, (by rw [List.size_toArray, ← Paired.length wRESERVED]; decide), wRESERVED⟩,
    o_RESERVED := ⟨_, oRESERVED, rfl⟩ }
  exact ⟨_, fun s v => .of_eq rfl, fun base _ _ => ok_law T⟩
end K18
open PySem PySem.W PyProof.Rows
set_option maxHeartbeats 0 in
theorem PySem.Challenge.cw_unnamedlives_k18_way_to_result_holds : PySem.Challenge.rw_unnamedlives_k18_way_to_result.Holds := by
  w_on; o_law; k_head; (case hw => w_witness2)
  k_fill
  refine L2.walk_of (l := PySem.Challenge.rw_unnamedlives_k18_way_to_result) (n := 63) (k := 26) (x := "_law_script") (CX := fun _ => L2.CX0) (sp := fun w => K18.spLaw _) rfl (by decide) rfl ⟨rfl, by decide, by decide⟩ (fun w h Y => PySem.W.kIn_of Y) ?F (fun _ _ a ns hl _ hS => ⟨a, ns, rfl, hS, hl, fun _ => rfl⟩) (fun _ _ _ _ _ h => h)
  case F =>
    intro w mg fa h KX G hmg
    refine' K18.all_mk KX G hmg ?aCLivesError ?aCInvalidSignature ?aCUnknownFunction ?aCTooLarge ?aCDuplicateFunction ?aCSignature ?aCBook ?aCExpression ?aCNoWay ?a0 ?l0 ?dl0 ?c0 ?k0 ?a1 ?i1 ?l1 ?c1 ?k1 ?a2 ?l2 ?c2 ?k2 ?a3 ?l3 ?c3 ?k3 ?a4 ?l4 ?c4 ?k4 ?a5 ?l5 ?c5 ?k5 ?a6 ?l6 ?c6 ?k6 ?a7 ?i7 ?l7 ?c7 ?k7 ?kw7sources ?kl7sources ?a8 ?i8 ?l8 ?c8 ?k8 ?a9 ?i9 ?l9 ?c9 ?k9 ?a10 ?i10 ?l10 ?c10 ?k10 ?a11 ?i11 ?l11 ?c11 ?k11 ?a12 ?i12 ?l12 ?c12 ?k12 ?a13 ?i13 ?l13 ?c13 ?k13 ?a14 ?i14 ?l14 ?c14 ?k14 ?a15 ?l15 ?c15 ?k15 ?a16 ?l16 ?c16 ?k16 ?a17 ?l17 ?c17 ?k17 ?a18 ?l18 ?c18 ?k18 ?a19 ?l19 ?c19 ?k19 ?a20 ?l20 ?c20 ?k20 ?a21 ?l21 ?c21 ?k21 ?a22 ?i22 ?l22 ?c22 ?k22 ?a23 ?pc23 ?fi23 ?l23 ?c23 ?k23 ?a24 ?pg24 ?pt24 ?pc24 ?l24 ?c24 ?k24 ?a25 ?i25 ?l25 ?c25 ?k25 ?a26 ?l26 ?c26 ?k26 ?a27 ?l27 ?c27 ?k27 ?a28 ?l28 ?c28 ?k28 ?a29 ?l29 ?c29 ?k29 ?a30 ?l30 ?c30 ?k30 ?a31 ?l31 ?c31 ?k31 ?a32 ?l32 ?c32 ?k32 ?a33 ?l33 ?c33 ?k33 ?a34 ?l34 ?c34 ?k34 ?a35 ?l35 ?c35 ?k35 ?a36 ?l36 ?c36 ?k36 ?a37 ?l37 ?c37 ?k37 ?a38 ?l38 ?c38 ?k38 ?a39 ?l39 ?c39 ?k39 ?a40 ?l40 ?c40 ?k40 ?a41 ?l41 ?c41 ?k41 ?a42 ?l42 ?c42 ?k42 ?a43 ?l43 ?c43 ?k43 ?a44 ?l44 ?c44 ?k44 ?a45 ?l45 ?c45 ?k45 ?a46 ?l46 ?c46 ?k46 ?a47 ?l47 ?c47 ?k47 ?a48 ?l48 ?c48 ?k48 ?a49 ?l49 ?c49 ?k49 ?a50 ?l50 ?c50 ?k50 ?zValueError ?zabs ?zall ?zbool ?zdict ?zenumerate ?zint ?zisinstance ?ziter ?zlen ?zlist ?zmax ?zmin ?zrange ?zreversed ?zsorted ?zstr ?ztuple ?zzip ?xL_LivesError ?xR_LivesError ?sa_LivesError ?eC_LivesError ?tC_LivesError ?kc_LivesError ?nw_LivesError ?ii_LivesError ?ga_LivesError ?gg_LivesError ?hd_LivesError ?xL_InvalidSignature ?xR_InvalidSignature ?sa_InvalidSignature ?eC_InvalidSignature ?tC_InvalidSignature ?kc_InvalidSignature ?nw_InvalidSignature ?ii_InvalidSignature ?ga_InvalidSignature ?gg_InvalidSignature ?hd_InvalidSignature ?xL_UnknownFunction ?xR_UnknownFunction ?sa_UnknownFunction ?eC_UnknownFunction ?tC_UnknownFunction ?kc_UnknownFunction ?nw_UnknownFunction ?ii_UnknownFunction ?ga_UnknownFunction ?gg_UnknownFunction ?hd_UnknownFunction ?xL_TooLarge ?xR_TooLarge ?sa_TooLarge ?eC_TooLarge ?tC_TooLarge ?kc_TooLarge ?nw_TooLarge ?ii_TooLarge ?ga_TooLarge ?gg_TooLarge ?hd_TooLarge ?xL_DuplicateFunction ?xR_DuplicateFunction ?sa_DuplicateFunction ?eC_DuplicateFunction ?tC_DuplicateFunction ?kc_DuplicateFunction ?nw_DuplicateFunction ?ii_DuplicateFunction ?ga_DuplicateFunction ?gg_DuplicateFunction ?hd_DuplicateFunction ?pg_Signature ?hd_Signature ?po_Signature ?sa_Signature ?mk_Signature ?kc_Signature ?ha_Signature ?hm_Signature ?na_Signature_name ?na_Signature_count ?na_Signature_sources ?pg_Book ?hd_Book ?po_Book ?sa_Book ?mk_Book ?kc_Book ?ha_Book ?hm_Book ?na_Book__given ?na_Book__every ?na_Book__by_name ?pg_Expression ?hd_Expression ?po_Expression ?sa_Expression ?mk_Expression ?kc_Expression ?ha_Expression ?hm_Expression ?rd_Expression ?rg_Expression ?cx_Expression_MOST_NODES ?na_Expression__nodes ?na_Expression__firsts ?xL_NoWay ?xR_NoWay ?sa_NoWay ?eC_NoWay ?tC_NoWay ?kc_NoWay ?nw_NoWay ?ii_NoWay ?ga_NoWay ?gg_NoWay ?hd_NoWay ?ha_NoWay ?hm_NoWay ?hnO ?htO ?fa_si_dd ?fa_tyS ?fa_sb_str ?fa_sb_tup ?fa_fi_book_get ?fa_si_tt ?fa_si_td ?fa_sf_Book ?fa_ne_Sig ?fa_ob_Sig ?fa_si_uu ?fa_si_nn ?fa_si_un ?eDIGITS ?eLETTERS ?eMOST_ARGUMENTS ?eMOST_CHARACTERS ?eMOST_GIVEN ?eMOST_PARAMETERS ?eOPERATIONS ?oOPERATIONS ?yOPERATIONS ?pOPERATIONS ?sOPERATIONS ?eRESERVED ?oRESERVED ?wRESERVED
    (case aCLivesError => k_is)
    (case aCInvalidSignature => k_is)
    (case aCUnknownFunction => k_is)
    (case aCTooLarge => k_is)
    (case aCDuplicateFunction => k_is)
    (case aCSignature => k_is)
    (case aCBook => k_is)
    (case aCExpression => k_is)
    (case aCNoWay => k_is)
    (case a0 => k_is)
    (case l0 => k_is)
    (case dl0 => k_is)
    (case c0 => k_is)
    (case k0 => k_is)
    (case a1 => k_is)
    (case i1 => k_is)
    (case l1 => k_is)
    (case c1 => k_is)
    (case k1 => k_is)
    (case a2 => k_is)
    (case l2 => k_is)
    (case c2 => k_is)
    (case k2 => k_is)
    (case a3 => k_is)
    (case l3 => k_is)
    (case c3 => k_is)
    (case k3 => k_is)
    (case a4 => k_is)
    (case l4 => k_is)
    (case c4 => k_is)
    (case k4 => k_is)
    (case a5 => k_is)
    (case l5 => k_is)
    (case c5 => k_is)
    (case k5 => k_is)
    (case a6 => k_is)
    (case l6 => k_is)
    (case c6 => k_is)
    (case k6 => k_is)
    (case a7 => k_is)
    (case i7 => k_is)
    (case l7 => k_is)
    (case c7 => k_is)
    (case k7 => k_is)
    (case kw7sources => k_is)
    (case kl7sources => k_is)
    (case a8 => k_is)
    (case i8 => k_is)
    (case l8 => k_is)
    (case c8 => k_is)
    (case k8 => k_is)
    (case a9 => k_is)
    (case i9 => k_is)
    (case l9 => k_is)
    (case c9 => k_is)
    (case k9 => k_is)
    (case a10 => k_is)
    (case i10 => k_is)
    (case l10 => k_is)
    (case c10 => k_is)
    (case k10 => k_is)
    (case a11 => k_is)
    (case i11 => k_is)
    (case l11 => k_is)
    (case c11 => k_is)
    (case k11 => k_is)
    (case a12 => k_is)
    (case i12 => k_is)
    (case l12 => k_is)
    (case c12 => k_is)
    (case k12 => k_is)
    (case a13 => k_is)
    (case i13 => k_is)
    (case l13 => k_is)
    (case c13 => k_is)
    (case k13 => k_is)
    (case a14 => k_is)
    (case i14 => k_is)
    (case l14 => k_is)
    (case c14 => k_is)
    (case k14 => k_is)
    (case a15 => k_is)
    (case l15 => k_is)
    (case c15 => k_is)
    (case k15 => k_is)
    (case a16 => k_is)
    (case l16 => k_is)
    (case c16 => k_is)
    (case k16 => k_is)
    (case a17 => k_is)
    (case l17 => k_is)
    (case c17 => k_is)
    (case k17 => k_is)
    (case a18 => k_is)
    (case l18 => k_is)
    (case c18 => k_is)
    (case k18 => k_is)
    (case a19 => k_is)
    (case l19 => k_is)
    (case c19 => k_is)
    (case k19 => k_is)
    (case a20 => k_is)
    (case l20 => k_is)
    (case c20 => k_is)
    (case k20 => k_is)
    (case a21 => k_is)
    (case l21 => k_is)
    (case c21 => k_is)
    (case k21 => k_is)
    (case a22 => k_is)
    (case i22 => k_is)
    (case l22 => k_is)
    (case c22 => k_is)
    (case k22 => k_is)
    (case a23 => k_is)
    (case pc23 => k_is)
    (case fi23 => k_is)
    (case l23 => k_is)
    (case c23 => k_is)
    (case k23 => k_is)
    (case a24 => k_is)
    (case pg24 => k_is)
    (case pt24 => k_is)
    (case pc24 => k_is)
    (case l24 => k_is)
    (case c24 => k_is)
    (case k24 => k_is)
    (case a25 => k_is)
    (case i25 => k_is)
    (case l25 => k_is)
    (case c25 => k_is)
    (case k25 => k_is)
    (case a26 => k_is)
    (case l26 => k_is)
    (case c26 => k_is)
    (case k26 => k_is)
    (case a27 => k_is)
    (case l27 => k_is)
    (case c27 => k_is)
    (case k27 => k_is)
    (case a28 => k_is)
    (case l28 => k_is)
    (case c28 => k_is)
    (case k28 => k_is)
    (case a29 => k_is)
    (case l29 => k_is)
    (case c29 => k_is)
    (case k29 => k_is)
    (case a30 => k_is)
    (case l30 => k_is)
    (case c30 => k_is)
    (case k30 => k_is)
    (case a31 => k_is)
    (case l31 => k_is)
    (case c31 => k_is)
    (case k31 => k_is)
    (case a32 => k_is)
    (case l32 => k_is)
    (case c32 => k_is)
    (case k32 => k_is)
    (case a33 => k_is)
    (case l33 => k_is)
    (case c33 => k_is)
    (case k33 => k_is)
    (case a34 => k_is)
    (case l34 => k_is)
    (case c34 => k_is)
    (case k34 => k_is)
    (case a35 => k_is)
    (case l35 => k_is)
    (case c35 => k_is)
    (case k35 => k_is)
    (case a36 => k_is)
    (case l36 => k_is)
    (case c36 => k_is)
    (case k36 => k_is)
    (case a37 => k_is)
    (case l37 => k_is)
    (case c37 => k_is)
    (case k37 => k_is)
    (case a38 => k_is)
    (case l38 => k_is)
    (case c38 => k_is)
    (case k38 => k_is)
    (case a39 => k_is)
    (case l39 => k_is)
    (case c39 => k_is)
    (case k39 => k_is)
    (case a40 => k_is)
    (case l40 => k_is)
    (case c40 => k_is)
    (case k40 => k_is)
    (case a41 => k_is)
    (case l41 => k_is)
    (case c41 => k_is)
    (case k41 => k_is)
    (case a42 => k_is)
    (case l42 => k_is)
    (case c42 => k_is)
    (case k42 => k_is)
    (case a43 => k_is)
    (case l43 => k_is)
    (case c43 => k_is)
    (case k43 => k_is)
    (case a44 => k_is)
    (case l44 => k_is)
    (case c44 => k_is)
    (case k44 => k_is)
    (case a45 => k_is)
    (case l45 => k_is)
    (case c45 => k_is)
    (case k45 => k_is)
    (case a46 => k_is)
    (case l46 => k_is)
    (case c46 => k_is)
    (case k46 => k_is)
    (case a47 => k_is)
    (case l47 => k_is)
    (case c47 => k_is)
    (case k47 => k_is)
    (case a48 => k_is)
    (case l48 => k_is)
    (case c48 => k_is)
    (case k48 => k_is)
    (case a49 => k_is)
    (case l49 => k_is)
    (case c49 => k_is)
    (case k49 => k_is)
    (case a50 => k_is)
    (case l50 => k_is)
    (case c50 => k_is)
    (case k50 => k_is)
    (case zValueError => k_is)
    (case zabs => k_is)
    (case zall => k_is)
    (case zbool => k_is)
    (case zdict => k_is)
    (case zenumerate => k_is)
    (case zint => k_is)
    (case zisinstance => k_is)
    (case ziter => k_is)
    (case zlen => k_is)
    (case zlist => k_is)
    (case zmax => k_is)
    (case zmin => k_is)
    (case zrange => k_is)
    (case zreversed => k_is)
    (case zsorted => k_is)
    (case zstr => k_is)
    (case ztuple => k_is)
    (case zzip => k_is)
    (case xL_LivesError => k_is)
    (case xR_LivesError => decide +kernel)
    (case sa_LivesError => k_is)
    (case eC_LivesError => k_is)
    (case tC_LivesError => k_is)
    (case kc_LivesError => k_is)
    (case nw_LivesError => k_is)
    (case ii_LivesError => k_is)
    (case ga_LivesError => k_is)
    (case gg_LivesError => k_is)
    (case hd_LivesError => k_is)
    (case xL_InvalidSignature => k_is)
    (case xR_InvalidSignature => decide +kernel)
    (case sa_InvalidSignature => k_is)
    (case eC_InvalidSignature => k_is)
    (case tC_InvalidSignature => k_is)
    (case kc_InvalidSignature => k_is)
    (case nw_InvalidSignature => k_is)
    (case ii_InvalidSignature => k_is)
    (case ga_InvalidSignature => k_is)
    (case gg_InvalidSignature => k_is)
    (case hd_InvalidSignature => k_is)
    (case xL_UnknownFunction => k_is)
    (case xR_UnknownFunction => decide +kernel)
    (case sa_UnknownFunction => k_is)
    (case eC_UnknownFunction => k_is)
    (case tC_UnknownFunction => k_is)
    (case kc_UnknownFunction => k_is)
    (case nw_UnknownFunction => k_is)
    (case ii_UnknownFunction => k_is)
    (case ga_UnknownFunction => k_is)
    (case gg_UnknownFunction => k_is)
    (case hd_UnknownFunction => k_is)
    (case xL_TooLarge => k_is)
    (case xR_TooLarge => decide +kernel)
    (case sa_TooLarge => k_is)
    (case eC_TooLarge => k_is)
    (case tC_TooLarge => k_is)
    (case kc_TooLarge => k_is)
    (case nw_TooLarge => k_is)
    (case ii_TooLarge => k_is)
    (case ga_TooLarge => k_is)
    (case gg_TooLarge => k_is)
    (case hd_TooLarge => k_is)
    (case xL_DuplicateFunction => k_is)
    (case xR_DuplicateFunction => decide +kernel)
    (case sa_DuplicateFunction => k_is)
    (case eC_DuplicateFunction => k_is)
    (case tC_DuplicateFunction => k_is)
    (case kc_DuplicateFunction => k_is)
    (case nw_DuplicateFunction => k_is)
    (case ii_DuplicateFunction => k_is)
    (case ga_DuplicateFunction => k_is)
    (case gg_DuplicateFunction => k_is)
    (case hd_DuplicateFunction => k_is)
    (case pg_Signature => k_is)
    (case hd_Signature => k_is)
    (case po_Signature => k_is)
    (case sa_Signature => k_is)
    (case mk_Signature => k_is)
    (case kc_Signature => k_is)
    (case ha_Signature => k_is)
    (case hm_Signature => k_is)
    (case na_Signature_name => k_is)
    (case na_Signature_count => k_is)
    (case na_Signature_sources => k_is)
    (case pg_Book => k_is)
    (case hd_Book => k_is)
    (case po_Book => k_is)
    (case sa_Book => k_is)
    (case mk_Book => k_is)
    (case kc_Book => k_is)
    (case ha_Book => k_is)
    (case hm_Book => k_is)
    (case na_Book__given => k_is)
    (case na_Book__every => k_is)
    (case na_Book__by_name => k_is)
    (case pg_Expression => k_is)
    (case hd_Expression => k_is)
    (case po_Expression => k_is)
    (case sa_Expression => k_is)
    (case mk_Expression => k_is)
    (case kc_Expression => k_is)
    (case ha_Expression => k_is)
    (case hm_Expression => k_is)
    (case rd_Expression => k_is)
    (case rg_Expression => k_is)
    (case cx_Expression_MOST_NODES => k_is)
    (case na_Expression__nodes => k_is)
    (case na_Expression__firsts => k_is)
    (case xL_NoWay => k_is)
    (case xR_NoWay => decide +kernel)
    (case sa_NoWay => k_is)
    (case eC_NoWay => k_is)
    (case tC_NoWay => k_is)
    (case kc_NoWay => k_is)
    (case nw_NoWay => k_is)
    (case ii_NoWay => k_is)
    (case ga_NoWay => k_is)
    (case gg_NoWay => k_is)
    (case hd_NoWay => k_is)
    (case ha_NoWay => k_is)
    (case hm_NoWay => k_is)
    (case hnO => k_is)
    (case htO => k_is)
    (case fa_si_dd => k_is)
    (case fa_tyS => k_is)
    (case fa_sb_str => k_is)
    (case fa_sb_tup => k_is)
    (case fa_fi_book_get => k_is)
    (case fa_si_tt => k_is)
    (case fa_si_td => k_is)
    (case fa_sf_Book => k_is)
    (case fa_ne_Sig => k_is)
    (case fa_ob_Sig => k_is)
    (case fa_si_uu => k_is)
    (case fa_si_nn => k_is)
    (case fa_si_un => k_is)
    (case eDIGITS => k_is)
    (case eLETTERS => k_is)
    (case eMOST_ARGUMENTS => k_is)
    (case eMOST_CHARACTERS => k_is)
    (case eMOST_GIVEN => k_is)
    (case eMOST_PARAMETERS => k_is)
    (case eOPERATIONS => k_is)
    (case oOPERATIONS => k_is)
    (case yOPERATIONS => k_keys)
    (case pOPERATIONS => exact (.cons ⟨_, _, rfl, rfl⟩ (.cons ⟨_, _, rfl, rfl⟩ (.cons ⟨_, _, rfl, rfl⟩ .nil))))
    (case sOPERATIONS => decide +kernel)
    (case eRESERVED => k_is)
    (case oRESERVED => k_is)
    (case wRESERVED => exact UL.vals_of rfl)
