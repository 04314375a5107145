import PyProof.Rows.All
import Wide.All
import OpenK.AllK
import Wide.FinOn
import HandS.ForMost
import HandS.Walk
import HandS.Evl
import HandS.IsInst
import HandS.Exc
import HandS.TryOnly
import HandS.ExcOwn
import HandS.ExcInit
import HandS.ExcField
import HandS.WordsExc
import HandS.Defaults
import HandS.MakeKw
import HandS.MakeKwOnly
import HandS.Property
import KE.KExcIs
import HandS.ClsMeth
import HandS.Star
import OpenK.KMeth
import OpenK.KOps
import HandS.IterVal
import HandS.OwnIter
import HandS.ExcValue
import PyProof.InstNe
import HandS.Iter
import HandS.More
import HandS.CallLocal
import PyProof.Draws
import PyProof.EnumMake
import HandS.Zip
import KE.GoesEnum
import KE.GoesMore
import HandS.SortKw
import KE.GoesEnumKw
import KE.GoesRaise
import HandS.Conv
import KE.KDictSum
import KE.KDictList
import KE.KOwnIter
import HandS.List
import PyProof.AutoSeq1
import HandS.FltList
import PyProof.SeqI3
import HandS.RevRange
import HandS.Style
import HandS.DictComp
import HandS.FStr
import HandS.Text
import PySem.Challenge.RW_unnamedlives_k24_bounds
set_option Elab.async false
set_option linter.all false
set_option maxRecDepth 100000
/-! own: a list of draws as ONE unchanging thing of the abstract heap; small words -/
namespace UL
open PySem PySem.Spec PyProof.Rows L2 Evl TL

/-! ### draws -/
def Good (ns : List Int) : Prop := (∀ m ∈ ns, 0 ≤ m ∧ m < 1000003) ∧ ns.length ≤ 4000
def drObj (d : Addr) (h : Heap) : Prop := ∃ (ns : List Int) (its : List Value) (n : Nat), Good ns ∧ Vals (ns.map V.int) its ∧ h.get? d = some { cls := .type "list", data := .seq its.toArray n }
def DrO (d : Addr) : HO := .ext (drObj d)
theorem good_sz {ns : List Int} (g : Good ns) : (ns.map V.int).length ≤ sizeLine := by
  rw [List.length_map]
  exact Nat.le_trans g.2 (by decide)
section
variable {X : Cx} {pins : List (Addr × Obj)} {σ : L2.St} {H : Hp} {s : Shared} {d : Addr}
theorem inv_open (I : Inv X pins σ H s) (h : H d = some (DrO d)) : ∃ ns, Good ns ∧ Inv X pins σ (upd H d (.lst (ns.map V.int))) s := by
  obtain ⟨⟨ns, its, n, g, r, e⟩, _, _⟩ := I.hok d _ h
  exact ⟨ns, g, I.write (x := d) (e := d) (h' := s.heap) (t' := s.toks) (by rw [h]; trivial) (.inl rfl) (fun _ _ _ q => q) ⟨_, e⟩ ⟨good_sz g, its, n, r, e⟩⟩
theorem inv_close {ns : List Int} (I : Inv X pins σ H s) (h : H d = some (.lst (ns.map V.int))) (g : Good ns) : Inv X pins σ (upd H d (DrO d)) s := by
  obtain ⟨z, its, n, r, e⟩ := I.hok d _ h
  exact I.write (x := d) (e := d) (h' := s.heap) (t' := s.toks) (by rw [h]; trivial) (.inl rfl) (fun _ _ _ q => q) ⟨_, e⟩
    ⟨⟨ns, its, n, g, r, e⟩, ⟨_, e⟩, fun h1 h2 ⟨ns', its', n', g', r', e'⟩ k => ⟨ns', its', n', g', r', k _ e'⟩⟩
/-- the list of draws in slot i is opened ahead of the statements -/
def tOpen (i : Nat) (t : TS) : TS := fun D σ H => ∃ d, σ[i]? = some (some (.ref d)) ∧ H d = some (DrO d) ∧ ∀ ns, Good ns → t D σ (upd H d (.lst (ns.map V.int)))
theorem pss_open (i : Nat) {sts : List Stmt} {t : TS} (h : PSs X sts t) : PSs X sts (tOpen i t) := by
  refine ⟨fun pins s σ H D I q => ?_⟩
  obtain ⟨d, _, hd, k⟩ := q
  obtain ⟨ns, g, J⟩ := inv_open I hd
  exact h.run pins s σ _ D J (k ns g)
/-- .. and closed behind an expression -/
def tClose (t : TE) : TE := fun σ H Q => t σ H fun v H1 => ∃ d ns, H1 d = some (.lst (ns.map V.int)) ∧ Good ns ∧ Q v (upd H1 d (DrO d))
theorem pe_close {e : Expr} {t : TE} (h : PE X e t) : PE X e (tClose t) := by
  refine ⟨fun pins s σ H Q I q => ?_⟩
  refine thn (h.run pins s σ H _ I q) fun u s1 ⟨v, H1, I1, r, d, ns, hd, g, k⟩ => ?_
  exact ⟨v, _, inv_close I1 hd g, r, k⟩
end
theorem upd_back {H : Hp} {d : Addr} {o u : HO} (h : H d = some o) : upd (upd H d u) d o = H := by
  funext b
  unfold upd
  by_cases e : b = d
  · rw [if_pos e, e, h]
  · rw [if_neg e, if_neg e]
theorem upd_id {H : Hp} {d : Addr} {o : HO} (h : H d = some o) : upd H d o = H := by
  funext b
  unfold upd
  by_cases e : b = d
  · rw [if_pos e, e, h]
  · rw [if_neg e]
theorem same_upd {H : Hp} {p : Addr} {o : HO} (h : H p = none) : Same H (upd H p o) := fun b x e => by
  rw [upd_ne (ne_of_none e h)]
  exact e
theorem _root_.Evl.Ex.free' {H H' : Hp} {p : Addr} (e : Ex H H') (h : H' p = none) : H p = none := fresh_back e h
theorem good_tail {n : Int} {ns : List Int} (g : Good (n :: ns)) : 0 ≤ n ∧ n < 1000003 ∧ Good ns :=
  ⟨(g.1 n List.mem_cons_self).1, (g.1 n List.mem_cons_self).2, fun m hm => g.1 m (List.mem_cons_of_mem _ hm), Nat.le_trans (Nat.le_succ _) g.2⟩
theorem good_nil : Good [] := ⟨fun _ h => (nomatch h), by decide⟩
theorem good_add {ns : List Int} {n : Int} (g : ∀ m ∈ ns, 0 ≤ m ∧ m < 1000003) (h : 0 ≤ n ∧ n < 1000003) : ∀ m ∈ ns ++ [n], 0 ≤ m ∧ m < 1000003 := fun m hm => by
  rcases List.mem_append.mp hm with h1 | h1
  · exact g m h1
  · rw [List.mem_singleton.mp h1]
    exact h

/-! ### text * int -/
theorem op_mul_str {X : Cx} : OpR X (binaryOp .Mult) (fun x y H Q => ∃ (z : Str) (n : Int), x = .str z ∧ y = .int n ∧ MulOk z n ∧ Q (.str (Txt.mul z n)) H) := by
  intro pins s σ H x y v u Q I rx ry h
  obtain ⟨i, j, rfl, rfl, hz, q⟩ := h
  obtain ⟨t, rfl⟩ := rx
  obtain ⟨t', rfl⟩ := ry
  exact SB.mul hz (fun t' tk => ⟨.str (Txt.mul i j), H, I.tok _, ⟨_, rfl⟩, q⟩)
theorem mulOk_small {z : Str} {n : Int} (hz : z.length ≤ 64) (h0 : 0 ≤ n) (h1 : n ≤ 64) : MulOk z n := by
  refine ⟨?_, fun h2 _ => ?_, fun _ _ => ?_⟩
  · rw [decide_eq_false (by omega), decide_eq_false (by omega)]
    rfl
  · intro h
    have h3 : (64 : Int) ≤ (2 ^ 63 - 1) / n := (Int.le_ediv_iff_mul_le (by omega)).mpr (by omega)
    omega
  · unfold PySem.Builtin.Str.tooLong
    refine decide_eq_false ?_
    have h3 : z.length * n.toNat ≤ 64 * 64 := Nat.mul_le_mul hz (by omega)
    have h4 : (64 * 64 : Nat) ≤ sizeLine := by decide
    omega
theorem tl_reps (x : Array Nat) : ∀ (k : Nat) (a : Array Nat), ((List.replicate k x).foldl (· ++ ·) a).toList = a.toList ++ (List.replicate k x.toList).flatten
  | 0, a => by simp
  | k + 1, a => by
    rw [List.replicate_succ, List.foldl_cons, tl_reps x k (a ++ x), List.replicate_succ, List.flatten_cons, Array.toList_append, List.append_assoc]
theorem tl_mul (z : Str) (n : Int) : tl (Txt.mul z n) = (List.replicate n.toNat (tl z)).flatten := by
  unfold Txt.mul
  by_cases h1 : n < 1
  · rw [if_pos h1, show n.toNat = 0 by omega]
    rfl
  · rw [if_neg h1]
    by_cases h2 : (n == 1 || z.length == 0) = true
    · rw [if_pos h2]
      rcases Bool.or_eq_true _ _ ▸ h2 with h3 | h3
      · have : n = 1 := by simpa using h3
        subst this
        show tl z = (List.replicate 1 (tl z)).flatten
        simp
      · have h4 : (tl z) = [] := by
          have : z.length = 0 := by simpa using h3
          rw [len_tl] at this
          exact List.eq_nil_of_length_eq_zero this
        rw [h4]
        simp
    · rw [if_neg h2]
      show ((List.replicate n.toNat z.cps).foldl (· ++ ·) #[]).toList = _
      rw [tl_reps]
      rfl

theorem rel_of {x : V} {u : Value} (h : absV u = some x) : RelV x u := by
  cases u <;> first | (cases h; done) | (cases h; exact rfl) | (cases h; exact ⟨_, rfl⟩)
theorem vals_of : ∀ {xs : List V} {us : List Value}, us.map absV = xs.map some → Vals xs us
  | [], [], _ => .nil
  | [], _ :: _, h => (nomatch h)
  | _ :: _, [], h => (nomatch h)
  | x :: xs, u :: us, h => by
    rw [List.map_cons, List.map_cons] at h
    exact .cons (rel_of (List.cons.inj h).1) (vals_of (List.cons.inj h).2)
theorem dp_strs {K : PySem.W.Frag} {H : Hp} : ∀ zs : List Str, DpAll K H (zs.map V.str) (zs.map PyData.str)
  | [] => .nil
  | z :: r => .cons (.str z) (dp_strs r)
/-! ### loops -/
section
variable {D : Ends} {tb : TS} {j : Nat} {σ : L2.St} {H : Hp}
theorem forR1 {n : Int} (hn : -(2 ^ 62) ≤ n ∧ n < 2 ^ 62) (Pv : Nat → L2.St → Hp → Prop) (h0 : Pv 0 σ H)
    (hs : ∀ (i : Nat) σ' H', (i : Int) < n → Pv i σ' H' → tb { D with nx := Pv (i + 1), ct := Pv (i + 1), bk := D.nx } (σ'.set j (some (.int (i : Int)))) H') (hd : ∀ σ' H', Pv n.toNat σ' H' → D.nx σ' H') :
    -(2 ^ 62) ≤ n ∧ n < 2 ^ 62 ∧ ∃ W : Nat → Nat → L2.St → Hp → Prop, (∃ m, W 0 m σ H) ∧ ∀ i m σ H, W i m σ H →
      ((Itr 0 n.toNat).stop i H ∧ D.nx σ H) ∨ ((Itr 0 n.toNat).go i H ∧ ∃ N : L2.St → Hp → Prop, (∀ σ' H', N σ' H' → ∃ m', m' < m ∧ W (i + 1) m' σ' H') ∧ ∀ x H', (Itr 0 n.toNat).yld i H x H' → gName j x σ H' fun σ2 H2 => tb { D with nx := N, ct := N, bk := D.nx } σ2 H2) :=
  ⟨hn.1, hn.2, for_range (lo := 0) (n := n.toNat) Pv h0 (fun i σ' H' hi p => by
    have e0 : (0 : Int) + (i : Int) = (i : Int) := Int.zero_add _
    show tb { D with nx := Pv (i + 1), ct := Pv (i + 1), bk := D.nx } (σ'.set j (some (.int ((0 : Int) + (i : Int))))) H'
    rw [e0]
    exact hs i σ' H' (by omega) p) hd⟩
end
theorem seq0 (n : Nat) : seqIndex? 0 (n + 1) = some 0 := by
  unfold seqIndex?
  have h : (0 : Int) < ((n + 1 : Nat) : Int) := by omega
  have h2 : (0 ≤ (0 : Int) && decide ((0 : Int) < ((n + 1 : Nat) : Int))) = true := by
    rw [decide_eq_true h]
    rfl
  show (if (0 ≤ (0 : Int) && decide ((0 : Int) < ((n + 1 : Nat) : Int))) = true then some (0 : Int).toNat else none) = some 0
  rw [if_pos h2]
  rfl
theorem at_lt {α : Type} {xs : List α} {n : Int} (h0 : 0 ≤ n) (h1 : n < (xs.length : Int)) : ∃ c, atI xs n = some c := by
  obtain ⟨m, rfl⟩ := Int.eq_ofNat_of_zero_le h0
  have hm : m < xs.length := by omega
  exact ⟨xs[m], atI_nat (List.getElem?_eq_getElem hm)⟩
theorem at_in {α : Type} {xs : List α} {n : Int} (h0 : 0 ≤ n) (h1 : n < (xs.length : Int)) : ∃ c, atI xs n = some c ∧ c ∈ xs := by
  obtain ⟨m, rfl⟩ := Int.eq_ofNat_of_zero_le h0
  have hm : m < xs.length := by omega
  exact ⟨xs[m], atI_nat (List.getElem?_eq_getElem hm), List.getElem_mem hm⟩
theorem emod_in {a : Int} : 0 ≤ a % 1000003 ∧ a % 1000003 < 1000003 := ⟨Int.emod_nonneg _ (by decide), Int.emod_lt_of_pos _ (by decide)⟩
theorem int_get {ns : List Int} {i : Nat} (h : i < ns.length) : (ns.map V.int)[i]? = some (.int ns[i]) := by
  rw [List.getElem?_map, List.getElem?_eq_getElem h]
  rfl
/-! ### comprehensions over a text -/
theorem lc_str {z : Str} {f : Nat → V} {j : Nat} {te : TE} {vs : List Nat} {σ : L2.St} {H1 : Hp} {D : Addr} {Qd : Hp → Prop} (hz : z.length ≤ 100000) (hD : H1 D = none) (hw : ∀ x, wipe ((wipe σ vs).set j (some x)) vs = wipe σ vs)
    (he : ∀ (c : Nat) H', Ex H1 H' → ∀ Q : VK, Q (f c) H' → te ((wipe σ vs).set j (some (.str ⟨#[c]⟩))) H' Q) (hd : Qd (upd H1 D (.lst ((tl z).map f)))) :
    ∃ W : Nat → Nat → Hp → Prop, (∃ m, W 0 m (upd H1 D (.lst []))) ∧ ∀ i m H, W i m H →
      ((Its z).stop i H ∧ Qd H) ∨ ((Its z).go i H ∧ ∃ Nx : Hp → Prop, (∀ H', Nx H' → ∃ m', m' < m ∧ W (i + 1) m' H') ∧ ∀ x H', (Its z).yld i H x H' → gName j x (wipe σ vs) H' fun σ2 H2 => wipe σ2 vs = wipe σ vs ∧ tYes σ2 H2 fun b H3 =>
        if b = true then te σ2 H3 fun y H4 => ∃ acc, H4 D = some (.lst acc) ∧ acc.length < sizeLine ∧ Nx (upd H4 D (.lst (acc ++ [y]))) else Nx H3) := by
  refine lc_it walk_str (fun i H' => H' = upd H1 D (.lst (((tl z).take i).map f))) rfl (fun _ _ _ _ => trivial) ?_ ?_
  · rintro i x H H' hi rfl ⟨rfl, c, hc, rfl⟩
    refine ⟨hw _, ?_⟩
    show te _ _ _
    refine he c _ (Ex.new hD) _ ?_
    have hc' : (tl z)[i]? = some c := by rw [← hc]; exact Array.getElem?_toList
    refine ⟨_, upd_same, ?_, ?_⟩
    · rw [List.length_map, List.length_take]
      exact sz_lt (by have := len_tl z; have hs : i < z.length := hi; omega)
    · rw [upd_upd, List.take_add_one, hc', List.map_append]
      rfl
  · rintro H rfl
    have e : (tl z).take z.cps.size = tl z := List.take_of_length_le (by rw [← len_tl]; exact Nat.le_refl _)
    rw [e]
    exact hd
theorem for_str {z : Str} {j : Nat} {tb : TS} {D : Ends} {σ : L2.St} {H : Hp} (Pv : Nat → L2.St → Hp → Prop) (h0 : Pv 0 σ H)
    (hs : ∀ i c σ' H', (tl z)[i]? = some c → Pv i σ' H' → tb { D with nx := Pv (i + 1), ct := Pv (i + 1), bk := D.nx } (σ'.set j (some (.str ⟨#[c]⟩))) H') (hd : ∀ σ' H', Pv (tl z).length σ' H' → D.nx σ' H') :
    ∃ W : Nat → Nat → L2.St → Hp → Prop, (∃ m, W 0 m σ H) ∧ ∀ i m σ H, W i m σ H →
      ((Its z).stop i H ∧ D.nx σ H) ∨ ((Its z).go i H ∧ ∃ N : L2.St → Hp → Prop, (∀ σ' H', N σ' H' → ∃ m', m' < m ∧ W (i + 1) m' σ' H') ∧ ∀ x H', (Its z).yld i H x H' → gName j x σ H' fun σ2 H2 => tb { D with nx := N, ct := N, bk := D.nx } σ2 H2) := by
  refine for_it walk_str Pv h0 (fun _ _ _ _ _ => trivial) ?_ ?_
  · rintro i x σ' H1 H2 hi p ⟨rfl, c, hc, rfl⟩
    exact hs i c σ' _ (by rw [← hc]; exact Array.getElem?_toList) p
  · intro σ' H' p
    exact hd σ' H' p
/-- [te for _ in range(n)]: things of a kind that stays true, also when a list is written -/
theorem lc_n {G : Hp → V → Prop} {n : Int} {j : Nat} {te : TE} {vs : List Nat} {σ : L2.St} {H1 : Hp} {D : Addr} {Qd : Hp → Prop} (hn : 0 ≤ n ∧ n ≤ 100000) (hD : H1 D = none) (hG : ∀ H H' v, Ex H H' → G H v → G H' v)
    (hG2 : ∀ H xs ys v, H D = some (.lst xs) → G H v → G (upd H D (.lst ys)) v) (hw : ∀ x, wipe ((wipe σ vs).set j (some x)) vs = wipe σ vs)
    (he : ∀ (i : Nat) H', (i : Int) < n → Ex H1 H' → ∀ Q : VK, (∀ v H2, Ex H' H2 → G H2 v → Q v H2) → te ((wipe σ vs).set j (some (.int (i : Int)))) H' Q) (hd : ∀ H' xs, Ex H1 H' → H' D = some (.lst xs) → (xs.length : Int) = n → (∀ x ∈ xs, G H' x) → Qd H') :
    ∃ W : Nat → Nat → Hp → Prop, (∃ m, W 0 m (upd H1 D (.lst []))) ∧ ∀ i m H, W i m H →
      ((Itr 0 n.toNat).stop i H ∧ Qd H) ∨ ((Itr 0 n.toNat).go i H ∧ ∃ Nx : Hp → Prop, (∀ H', Nx H' → ∃ m', m' < m ∧ W (i + 1) m' H') ∧ ∀ x H', (Itr 0 n.toNat).yld i H x H' → gName j x (wipe σ vs) H' fun σ2 H2 => wipe σ2 vs = wipe σ vs ∧ tYes σ2 H2 fun b H3 =>
        if b = true then te σ2 H3 fun y H4 => ∃ acc, H4 D = some (.lst acc) ∧ acc.length < sizeLine ∧ Nx (upd H4 D (.lst (acc ++ [y]))) else Nx H3) := by
  refine lc_range (lo := 0) (n := n.toNat) (fun i H' => ∃ xs : List V, Ex H1 H' ∧ H' D = some (.lst xs) ∧ xs.length = i ∧ ∀ x ∈ xs, G H' x) ⟨[], Ex.new hD, upd_same, rfl, fun _ h => (nomatch h)⟩ ?_ ?_
  · rintro i H' hi ⟨xs, e1, hL, hl, hx⟩
    have e0 : (0 : Int) + (i : Int) = (i : Int) := Int.zero_add _
    show wipe ((wipe σ vs).set j (some (.int ((0 : Int) + (i : Int))))) vs = wipe σ vs ∧ _
    refine ⟨hw _, ?_⟩
    show te ((wipe σ vs).set j (some (.int ((0 : Int) + (i : Int))))) _ _
    rw [e0]
    refine he i H' (by omega) e1 _ fun v H2 e2 g => ⟨xs, e2 _ _ hL, sz_lt (by omega), xs ++ [v], (e1.trans e2).mut hD, upd_same, by rw [List.length_append, hl]; rfl, fun x hm => ?_⟩
    rcases List.mem_append.mp hm with h | h
    · exact hG2 _ _ _ _ (e2 _ _ hL) (hG _ _ _ e2 (hx x h))
    · rw [List.mem_singleton.mp h]
      exact hG2 _ _ _ _ (e2 _ _ hL) g
  · rintro H' ⟨xs, e1, hL, hl, hx⟩
    exact hd H' xs e1 hL (by omega) hx
end UL

set_option Elab.async false
set_option linter.all false
set_option maxRecDepth 100000
/-! own: one of two readings; objects made with keywords where an error may leave; own ==; isinstance of an error that has a dict -/
namespace UL
open PySem PySem.Spec PyProof.Rows L2 Evl TL

/-! ### one of two readings -/
section
variable {X : Cx} {e : Expr} {t1 t2 : TE} {op : CmpOp} {tg iter : Expr} {w1 w2 : TI}
def tAlt (t1 t2 : TE) : TE := fun σ H Q => t1 σ H Q ∨ t2 σ H Q
theorem pe_alt (h1 : PE X e t1) (h2 : PE X e t2) : PE X e (tAlt t1 t2) :=
  ⟨fun pins s σ H Q I h => h.elim (fun q => h1.run pins s σ H Q I q) (fun q => h2.run pins s σ H Q I q)⟩
def iAlt (w1 w2 : TI) : TI := fun σ H R => w1 σ H R ∨ w2 σ H R
theorem pi_alt (h1 : PI X tg iter w1) (h2 : PI X tg iter w2) : PI X tg iter (iAlt w1 w2) :=
  ⟨fun pins s σ H R I h => h.elim (fun q => h1.run pins s σ H R I q) (fun q => h2.run pins s σ H R I q)⟩
def rAlt (r1 r2 : R2) : R2 := fun x y H Q => r1 x y H Q ∨ r2 x y H Q
theorem op_alt {f : Value → Value → Sem Value} {r1 r2 : R2} (h1 : OpR X f r1) (h2 : OpR X f r2) : OpR X f (rAlt r1 r2) :=
  fun pins s σ H x y v u Q I rx ry h => h.elim (fun q => h1 pins s σ H x y v u Q I rx ry q) (fun q => h2 pins s σ H x y v u Q I rx ry q)
def cAlt (r1 r2 : List V → Hp → VK → Prop) : List V → Hp → VK → Prop := fun xs H Q => r1 xs H Q ∨ r2 xs H Q
theorem call_alt {f : Value} {r1 r2 : List V → Hp → VK → Prop} (h1 : CallR X f r1) (h2 : CallR X f r2) : CallR X f (cAlt r1 r2) :=
  fun pins s σ H xs us Q I r h => h.elim (fun q => h1 pins s σ H xs us Q I r q) (fun q => h2 pins s σ H xs us Q I r q)
end

/-! ### C(e, .., k = v, ..) where what is raised is wished for at the caller's slots -/
def tMakeS (C : Addr) (n m : Nat) (sp : Sp) (gV : List V → List V → List V) (E : L2.St → XK) (t tk : TA) : TE := fun σ H Q => t σ H fun vs H1 => tk σ H1 fun zs H2 => vs.length = n ∧ zs.length = m ∧
  ∀ x dx, H2 x = none → H2 dx = none → dx ≠ x → sp (gV (.ref x :: vs) zs) (upd (upd H2 dx (.own x)) x (.ins C dx [])) (fun v H3 => v = .non ∧ Q (.ref x) H3) (E σ)
section
variable {X : Cx} {CX : CXT} {k n : Nat} {f C : Addr} {fd : FuncData} {ps ks : List Str} {sp : Sp} {E : L2.St → XK} {x : Str} {p pos : Pos} {e : Expr} {es : List Expr} {kws : List Keyword} {t tk : TA} {g : List Value → List Value → List Value} {gV : List V → List V → List V}
theorem mk_run {pins : List (Addr × Obj)} {σ : L2.St} {H : Hp} {s : Shared} {Q : VK} {us ws : List Value} {vs zs : List V} (M : Mk X.K C f) (F : FnOk X.prog X.w X.K X.mg X.base CX k f fd ps sp) (hr : Room (k + 1) X.A)
    (hb : KBn X.K fd ps (n + 1) ks g gV) (hx : PassesAt CX X σ (E σ)) (I : Inv X pins σ H s) (r : Vals vs us) (rz : Vals zs ws) (l1 : vs.length = n) (l2 : zs.length = ks.length)
    (h : ∀ x dx, H x = none → H dx = none → dx ≠ x → sp (gV (.ref x :: vs) zs) (upd (upd H dx (.own x)) x (.ins C dx [])) (fun v H2 => v = .non ∧ Q (.ref x) H2) (E σ)) :
    wpAny (model X.prog X.w) X.A (call (.ref C) us (ks.zip ws)) (EP X pins σ Q) X.xe s := by
  let sz := s.heap.objs.size
  have J := Inv.made (C := C) I
  have q0 := h (sz + 1) sz (I.hok.fresh (Nat.le_succ _)) (I.hok.fresh (Nat.le_refl _)) (Nat.ne_of_lt (Nat.lt_succ_self _))
  have ra : Vals (V.ref (sz + 1) :: vs) (Value.ref (sz + 1) :: us) := .cons rfl r
  have na : (Value.ref (sz + 1) :: us).length = n + 1 := by rw [← ra.length, List.length_cons, l1]
  have run := F.run _ X.stack _ _ ⟨Value.ref (sz + 1) :: us, ks.zip ws⟩ (g (Value.ref (sz + 1) :: us) ws) _ _ (E σ) (hr.make C us (ks.zip ws)) (J.env0.make C us (ks.zip ws)) (hb.to _ (Value.ref (sz + 1) :: us) ws J.kIn na (rz.length.symm.trans l2)) (hb.rel ra rz) q0
  refine wpAny_call (make_map (f := f) I.kIn M.makes M.init (beq_iff_eq.mp M.fn) (codeAny_mono run fun rr s' z => ?_))
  match rr, z with
  | .error er, z => exact hx pins _ _ er s' J z
  | .ok (.ret u), z =>
    obtain ⟨v, H', J', rv, ev, q⟩ := J.after z
    subst ev
    exact ⟨rv, ⟨V.ref (sz + 1), H', J', rfl, q⟩⟩
  | .ok .next, z => exact False.elim z
  | .ok .brk, z => exact False.elim z
  | .ok .cont, z => exact False.elim z
theorem pe_makeS (M : Mk X.K C f) (F : FnOk X.prog X.w X.K X.mg X.base CX k f fd ps sp) (hr : Room (k + 1) X.A) (hg : Gl X x) (hm : X.mg x = some (.ref C)) (hb : KBn X.K fd ps (n + 1) ks g gV) (hx : ∀ σ, PassesAt CX X σ (E σ)) (ha : PA X (e :: es) t) (hkw : PK X kws tk)
    (a1 : (backToKw pos (keywordEach kws X.env)).all (·.1.isSome) = true := by rfl) (a2 : (backToKw pos (keywordEach kws X.env)).filterMap (·.1) = ks := by rfl) (a3 : (x == ("__debug__" : Str)) = false := by decide)
    (a4 : starEach (e :: es) X.env = (false, eval e X.env) :: starEach es X.env := by rfl) (a5 : ((backTo pos (starEach (e :: es) X.env)).any (·.1) || (backToKw pos (keywordEach kws X.env)).any (·.1.isNone)) = false := by rfl) :
    PE X (.Call (.Name x p) (e :: es) kws pos) (tMakeS C n ks.length sp gV E t tk) := by
  refine ⟨fun pins s σ H Q I h => wpAny_Call_Name_kw (ld_glob I hg hm ?_ a3)⟩
  refine PySem.W.callWith_KW (h₀ := X.base) I.ok.mod.kin M.kp a1 (thn (ha.run pos pins s σ H _ I h) fun us s1 hh => ?_) a5 a4
  obtain ⟨vs, H1, I1, r, q⟩ := hh
  refine thn (hkw.run pos pins s1 σ H1 _ I1 q) fun ws s2 hh => ?_
  obtain ⟨zs, H2, I2, rz, l1, l2, q2⟩ := hh
  exact ⟨I2.kIn, by rw [a2]; exact mk_run M F hr hb (hx σ) I2 r rz l1 l2 q2⟩
end
/-- what leaves a call is wished for wherever the slots stand -/
theorem passAny {X : Cx} {W : WX} (tk : Takes X W) : ∀ σ, PassesAt (L2.CX X.prog X.w) X σ (WE W σ) := fun σ => passAt tk σ
/-- .. in a def that lets it out: the wish E is the caller's -/
theorem passOut {X : Cx} {E : XK} (tk : Takes X fun cls d _ H => E cls d H) : ∀ σ, PassesAt (L2.CX X.prog X.w) X σ E := fun σ => passAt tk σ

/-! ### own == -/
/-- what may stand on the right of an own ==: of its class, or of a type beside it -/
def RSide (K : PySem.W.Frag) (C : Addr) (y : V) (H : Hp) : Prop := (∃ b dy gs, y = .ref b ∧ H b = some (.ins C dy gs)) ∨ (∃ z, y = .str z ∧ PySem.W.subIn K (.type "str") (.ref C) = some false) ∨ ∃ b ys, y = .ref b ∧ H b = some (.tup ys) ∧ PySem.W.subIn K (.type "tuple") (.ref C) = some false
def rOwnEq (K : PySem.W.Frag) (C : Addr) (sp : Sp) (E : XK) : R2 := fun x y H Q => ∃ a dx fs, x = .ref a ∧ H a = some (.ins C dx fs) ∧ RSide K C y H ∧ sp [.ref a, y] H (fun v H' => (∃ b, v = .bl b) ∧ Q v H') E
section
variable {X : Cx} {CX : CXT} {k : Nat} {f C : Addr} {fd : FuncData} {ps : List Str} {sp : Sp} {E : XK}
theorem op_ownEq (F : FnOk X.prog X.w X.K X.mg X.base CX k f fd ps sp) (hr : Room k X.A) (hs : PySem.W.findIn X.K (.ref C) "__eq__" = some (some (.ref f))) (hf : PySem.W.isFn X.K (.ref f) = true) (hb : L2.Binds X.K fd ps []) (hx : Passes CX X E) :
    OpR X (compareOp .Eq) (rOwnEq X.K C sp E) := by
  intro pins s σ H x y v u Q I rx ry h
  obtain ⟨a, dx, fs, rfl, ha, hy, q⟩ := h
  cases rx
  obtain ⟨mA, J, _⟩ := ins_get I.hok ha
  obtain ⟨od, J, _⟩ := J.look
  obtain ⟨m, hF⟩ := I.fr
  have side : ∃ tb, PySem.W.Looks (model X.prog X.w) s.heap (typeOf u) tb ∧ PySem.W.notFirst X.K C tb = true := by
    rcases hy with ⟨b, dy, gs, rfl, hb2⟩ | ⟨z, rfl, hn⟩ | ⟨b, ys, rfl, hb2, hn⟩
    · cases ry
      obtain ⟨mB, J', _⟩ := ins_get I.hok hb2
      obtain ⟨od', J', _⟩ := J'.look
      exact ⟨_, J'.type, by simp [PySem.W.notFirst]⟩
    · obtain ⟨t, rfl⟩ := ry
      exact ⟨.type "str", .now, by simp [PySem.W.notFirst, hn]⟩
    · cases ry
      obtain ⟨z, its, r, o, hg, hc, n, hd⟩ := I.hok b _ hb2
      exact ⟨.type "tuple", hc ▸ (PySem.W.Looks.ld hg).andThen .now, by simp [PySem.W.notFirst, hn]⟩
  obtain ⟨tb, ty, nf⟩ := side
  show wpAny _ _ (richCompare .Eq (.ref a) u) _ _ _
  refine PySem.W.cmp_K (op := .Eq) (tb := tb) hr.units0 hF I.ok.mod.kin J ty nf hs hf ?_
  have r2 : Vals [V.ref a, y] [Value.ref a, u] := .cons rfl (.cons ry .nil)
  have hl : [Value.ref a, u].length = ps.length := by rw [← r2.length]; exact F.len _ _ _ _ q
  have bd := hb s [Value.ref a, u] I.kIn (by rw [List.append_nil]; exact hl)
  rw [List.append_nil] at bd
  refine wpAny_call (codeAny_mono (F.run X.A X.stack s H ⟨[.ref a, u], []⟩ [.ref a, u] [.ref a, y] _ E hr I.env0 bd r2 q) fun rr s' z => ?_)
  match rr, z with
  | .error er, z => exact hx pins σ H s er s' I z
  | .ok (.ret w), z =>
    obtain ⟨v, H', I', rv, ⟨b, rfl⟩, q'⟩ := I.after z
    cases rv
    exact ⟨V.bl b, H', I', rfl, q'⟩
  | .ok .next, z => exact False.elim z
  | .ok .brk, z => exact False.elim z
  | .ok .cont, z => exact False.elim z
end

/-! ### isinstance of a caught error that has a dict -/
def rIsX (K : PySem.W.Frag) (D a : Addr) (cls : Value) (d : Option Addr) : List V → Hp → VK → Prop := fun xs H Q => ∃ (c : V) (cv : Value) (b : Bool) (dd : Addr) (fs : List (Str × V)), xs = [.ref a, c] ∧ cls = .ref D ∧ (∀ u, RelV c u → u = cv) ∧ d = some dd ∧ H dd = some (.xd fs) ∧ PySem.W.kitOne K (.ref D) cv = some b ∧ Q (.bl b) H
structure ExI (K : PySem.W.Frag) (D : Addr) : Prop where
  c1 : (PySem.W.clsIn K D).isSome = true
  c2 : PySem.W.findIn K (.ref D) "__getattribute__" = some (some (.builtin "BaseException.__getattribute__"))
  c3 : PySem.W.findIn K (.ref D) "__getattr__" = some none
  c4 : PySem.W.subIn K (.ref D) (.type "BaseException") = some true
  c5 : PySem.W.findIn K (.ref D) "__class__" = some (some (.builtin "object.__class__"))
  c6 : PySem.W.specialIn K (.builtin "object.__class__") "__get__" = some (some (.builtin "getset_descriptor.__get__"))
  c7 : PySem.W.takesIn K (.builtin "object.__class__") = some true
  c8 : PySem.W.mroIn K D (.type "object") = some true
theorem call_isX {X : Cx} {a D : Addr} {cls : Value} {d : Option Addr} {oe : Obj} {pn : List (Addr × Obj)} (T : ExI X.K D) (hz : Zc cls d oe) (hf : ∃ vs, oe.data = .fields vs) : CallR (X.suite a ((a, oe) :: pn)) (.builtin "isinstance") (rIsX X.K D a cls d) := by
  intro pins s σ H xs us Q I r h
  obtain ⟨c, cv, b, dd, fs, rfl, rfl, hcv, rfl, hd, ek, q⟩ := h
  obtain ⟨u1, w1, e1, r1, rr1⟩ : ∃ u1 w1, us = [u1, w1] ∧ RelV (.ref a) u1 ∧ RelV c w1 := by
    cases r with
    | cons q1 q2 =>
      cases q2 with
      | cons q3 q4 =>
        cases q4
        exact ⟨_, _, rfl, q1, q3⟩
  subst e1
  cases r1
  have e2 := hcv _ rr1
  subst e2
  obtain ⟨hget, _⟩ := I.pin (a, oe) (List.mem_append.mpr (.inl List.mem_cons_self))
  obtain ⟨vs, hv⟩ := hf
  have hx : ObjOk X.prog X.w H s.heap dd (.xd fs) := I.hok dd _ hd
  obtain ⟨mA, hns, _⟩ := hx
  obtain ⟨od, ho, _⟩ := lookIn_ns hns
  have J : PySem.W.InstAt s.heap a oe D (some od) := ⟨hget, hz.1, by unfold PySem.W.notCls; rw [hv] <;> rfl, by rw [hz.2]; exact ho⟩
  exact PySem.W.kia_one (PySem.W.kitx_exc T.c1 T.c2 T.c3 T.c4 T.c5 T.c6 T.c7 T.c8) I.kIn J ek (fun z => nomatch z) fun tk => ⟨.bl b, H, I.kept (t' := tk) fun _ _ z => z, rfl, q⟩
/-! ### what the written part says of a class -/
structure TyF (K : PySem.W.Frag) (C : Addr) : Prop where
  ha : PySem.W.findIn K (.ref C) "__class__" = some (some (.builtin "object.__class__"))
  hn : PySem.W.specialIn K (.builtin "object.__class__") "__get__" = some (some (.builtin "getset_descriptor.__get__"))
  ht : PySem.W.takesIn K (.builtin "object.__class__") = some true
  hm : PySem.W.mroIn K C (.type "object") = some true
theorem tyx_ins {K : PySem.W.Frag} {H : Hp} {a C dx : Addr} {fs : List (Str × V)} (e : H a = some (.ins C dx fs)) (c : Cls K C) (t : TyF K C) : TyX K H (.ref a) (.ref C) := .base (.ins e c t.ha t.hn t.ht t.hm)
structure ExF (K : PySem.W.Frag) (C I : Addr) : Prop where
  ox : OexC K C
  ii : PySem.W.findIn K (.ref C) "__init__" = some (some (.ref I))
  nw : PySem.W.findIn K (.ref C) "what" = some none
  xf : XfC K C

/-! ### errors that keep what they are made with -/
/-- the promise of the base class's __init__: self.what = what -/
def spWhat (K : PySem.W.Frag) : Sp := fun vs H Q _ => ∃ (a C : Addr) (v : V), vs = [.ref a, v] ∧ flatV v = true ∧ H a = some (exo a C none) ∧ OexC K C ∧ PySem.W.findIn K (.ref C) "what" = some none ∧
  ∀ dx, H dx = none → dx ≠ a → Q .non (upd (upd H dx (exd dx [("what", v)])) a (exo a C (some dx)))
theorem raise_what {K : PySem.W.Frag} {C I : Addr} {H : Hp} {v : V} {Q : XK} (F : ExF K C I) (hv : flatV v = true) (k : ∀ d H', Ex H H' → H' d = some (.xd [("what", v)]) → Q (.ref C) (some d) H') :
    ∀ a, H a = none → spWhat K [.ref a, v] (upd H a (exo a C none)) (fun u H2 => u = .non ∧ ∃ (d : Addr) (fs : List (Str × V)), H2 a = some (exo a C (some d)) ∧ H2 d = some (exd d fs) ∧ H d = none ∧ Q (.ref C) (some d) (upd (L2.del H2 a) d (.xd fs))) (fun _ _ _ => False) := by
  intro a ha
  refine ⟨a, C, v, rfl, hv, upd_same, F.ox, F.nw, fun dx hd hne => ⟨rfl, dx, [("what", v)], upd_same, ?_, ?_, ?_⟩⟩
  · rw [upd_ne hne, upd_same]
  · rw [upd_ne hne] at hd
    exact hd
  · have hd0 : H dx = none := by
      rw [upd_ne hne] at hd
      exact hd
    refine k dx _ (fun b o hb => ?_) upd_same
    have b1 : b ≠ a := ne_of_none hb ha
    have b2 : b ≠ dx := ne_of_none hb hd0
    rw [upd_ne b2]
    show (if b = a then none else _) = _
    rw [if_neg b1, upd_ne b1, upd_ne b2, upd_ne b1]
    exact hb
theorem flat_ty {K : PySem.W.Frag} {H : Hp} {v : V} (h : flatV v = true) : ∃ t, TyX K H v t ∧ PySem.W.kitOne K t (.type "list") = some false ∧ PySem.W.kitOne K t (.type "tuple") = some false ∧ PySem.W.kitOne K t (.type "dict") = some false := by
  cases v with
  | non => exact ⟨_, .base .non, kit_ty (r := false) (by decide +kernel), kit_ty (r := false) (by decide +kernel), kit_ty (r := false) (by decide +kernel)⟩
  | bl b => exact ⟨_, .base (.bl b), kit_ty (r := false) (by decide +kernel), kit_ty (r := false) (by decide +kernel), kit_ty (r := false) (by decide +kernel)⟩
  | int i => exact ⟨_, .base (.int i), kit_ty (r := false) (by decide +kernel), kit_ty (r := false) (by decide +kernel), kit_ty (r := false) (by decide +kernel)⟩
  | str z => exact ⟨_, .base (.str z), kit_ty (r := false) (by decide +kernel), kit_ty (r := false) (by decide +kernel), kit_ty (r := false) (by decide +kernel)⟩
  | _ => cases h

/-! ### sequences: a list or a tuple -/
section
variable {K : PySem.W.Frag} {H H' : Hp} {v : V} {xs : List V}
def SeqV (K : PySem.W.Frag) (H : Hp) (v : V) (xs : List V) : Prop := ∃ a, v = .ref a ∧ (H a = some (.lst xs) ∨ H a = some (.tup xs) ∨ (SqT K H a xs ∧ ∃ o, K.lookup a = some o ∧ o.cls = .type "tuple"))
theorem SeqV.mono (e : Ex H H') (h : SeqV K H v xs) : SeqV K H' v xs := by
  obtain ⟨a, rfl, h | h | ⟨h, o⟩⟩ := h
  · exact ⟨a, rfl, .inl (e _ _ h)⟩
  · exact ⟨a, rfl, .inr (.inl (e _ _ h))⟩
  · exact ⟨a, rfl, .inr (.inr ⟨ex_t e h, o⟩)⟩
theorem SeqV.ty (h : SeqV K H v xs) : ∃ t, TyX K H v t ∧ PySem.W.kitAny K t [.type "list", .type "tuple"] = some true := by
  obtain ⟨a, rfl, h | h | ⟨_, o, ho, hc⟩⟩ := h
  · exact ⟨_, .base (.lst h), rfl⟩
  · exact ⟨_, .base (.tup h), rfl⟩
  · exact ⟨_, .kTuple ho hc, rfl⟩
theorem SeqV.two (h : SeqV K H v xs) : ∃ a, v = .ref a ∧ (SqL K H a xs ∨ SqT K H a xs) := by
  obtain ⟨a, rfl, h | h | ⟨h, o⟩⟩ := h
  · exact ⟨a, rfl, .inl (SqL.of h)⟩
  · exact ⟨a, rfl, .inr (SqT.of h)⟩
  · exact ⟨a, rfl, .inr h⟩
def NSeq (H : Hp) (v : V) : Prop := v = .non ∨ (∃ b, v = .bl b) ∨ (∃ i, v = .int i) ∨ (∃ z, v = .str z) ∨ ∃ a kvs, v = .ref a ∧ H a = some (.dK kvs)
theorem NSeq.mono (e : Ex H H') (h : NSeq H v) : NSeq H' v := by
  rcases h with h | h | h | h | ⟨a, kvs, h, h1⟩
  · exact .inl h
  · exact .inr (.inl h)
  · exact .inr (.inr (.inl h))
  · exact .inr (.inr (.inr (.inl h)))
  · exact .inr (.inr (.inr (.inr ⟨a, kvs, h, e _ _ h1⟩)))
theorem NSeq.ty (h : NSeq H v) : ∃ t, TyX K H v t ∧ PySem.W.kitAny K t [.type "list", .type "tuple"] = some false := by
  rcases h with rfl | ⟨b, rfl⟩ | ⟨i, rfl⟩ | ⟨z, rfl⟩ | ⟨a, kvs, rfl, h⟩
  · exact ⟨_, .base .non, rfl⟩
  · exact ⟨_, .base (.bl b), rfl⟩
  · exact ⟨_, .base (.int i), rfl⟩
  · exact ⟨_, .base (.str z), rfl⟩
  · exact ⟨_, .base (.dK h), rfl⟩
theorem for_seq {a : Addr} {tl : TE} {g : TG} {tb : TS} {D : Ends} {σ : L2.St} (htl : ∀ Q : VK, Q (.ref a) H → tl σ H Q) (hx : SqL K H a xs ∨ SqT K H a xs) (Pv : Nat → L2.St → Hp → Prop) (h0 : Pv 0 σ H) (stay : ∀ i σ' H', Pv i σ' H' → Ex H H')
    (hs : ∀ i x σ' H', xs[i]? = some x → Pv i σ' H' → g x σ' H' fun σ2 H2 => tb { D with nx := Pv (i + 1), ct := Pv (i + 1), bk := D.nx } σ2 H2) (hd : ∀ σ' H', Pv xs.length σ' H' → D.nx σ' H') : tFor (iAlt (iList K tl) (iTup K tl)) g tb D σ H := by
  rcases hx with hx | hx
  · exact .inl (htl _ ⟨a, rfl, ⟨_, hx⟩, for_list Pv h0 (fun i σ' H' _ p => ex_l (stay i σ' H' p) hx) hs hd⟩)
  · exact .inr (htl _ ⟨a, rfl, ⟨_, hx⟩, for_tup Pv h0 (fun i σ' H' _ p => ex_t (stay i σ' H' p) hx) hs hd⟩)
end

theorem del_at {H : Hp} {x b : Addr} {o : HO} (h : H b = some o) (n : b ≠ x) : L2.del H x b = some o := by
  show (if b = x then none else H b) = _
  rw [if_neg n]
  exact h
theorem sqT_del {K : PySem.W.Frag} {H : Hp} {x a C dx : Addr} {fs : List (Str × V)} {xs : List V} (hx : H x = some (.ins C dx fs)) (h : SqT K H a xs) : SqT K (L2.del H x) a xs := by
  rcases h with (h | ⟨o, h⟩) | h
  · exact .inl (.inl (del_at h (ne_of h hx (by intro z; cases z))))
  · exact .inl (.inr ⟨o, del_at h (ne_of h hx (by intro z; cases z))⟩)
  · exact .inr h
/-- all but the object at x stands -/
theorem ex_del {H H1 H' : Hp} {x : Addr} (e : Ex H H1) (k : ∀ b o, b ≠ x → H1 b = some o → H' b = some o) : Ex (L2.del H x) H' := fun b o hb => by
  by_cases n : b = x
  · rw [show L2.del H x b = none from if_pos n] at hb
    cases hb
  · rw [show L2.del H x b = H b from if_neg n] at hb
    exact k b o n (e b o hb)

def rLen (K : PySem.W.Frag) : List V → Hp → VK → Prop := fun xs H Q => ∃ p ys, xs = [.ref p] ∧ (SqL K H p ys ∨ SqT K H p ys) ∧ Q (.int ys.length) H
theorem cutV_mem {xs : List V} {lo hi : Option Int} : (∀ x ∈ cutV xs lo hi, x ∈ xs) ∧ (cutV xs lo hi).length ≤ xs.length := by
  unfold cutV
  refine ⟨fun x hx => List.mem_of_mem_drop (List.mem_of_mem_take hx), ?_⟩
  rw [List.length_take, List.length_drop]
  omega

theorem made_in {H : Hp} {x dx C : Addr} (hx : H x = none) (hd : H dx = none) : Ex H (upd (upd H dx (.own x)) x (.ins C dx [])) := fun b o hb => by
  rw [upd_ne (ne_of_none hb hx), upd_ne (ne_of_none hb hd)]
  exact hb
theorem made_ex {H H' : Hp} {x dx C : Addr} (hx : H x = none) (hd : H dx = none) (e : Ex (L2.del (upd (upd H dx (.own x)) x (.ins C dx [])) x) H') : Ex H H' := fun b o hb =>
  e b o (del_at (made_in hx hd b o hb) (ne_of_none hb hx))
theorem sqT_ty {K : PySem.W.Frag} {H : Hp} {t : Addr} {xs : List V} (h : SqT K H t xs) : TyX K H (.ref t) (.type "tuple") := by
  rcases h with (h | ⟨o, h⟩) | ⟨o, its, n, ho, hc, _⟩
  · exact .base (.tup h)
  · exact .fTuple h
  · exact .kTuple ho hc

theorem SeqV.isl {K : PySem.W.Frag} {H : Hp} {v : V} {xs : List V} (h : SeqV K H v xs) : (∃ a, v = .ref a ∧ H a = some (.lst xs) ∧ TyX K H v (.type "list")) ∨ (∃ a, v = .ref a ∧ SqT K H a xs ∧ TyX K H v (.type "tuple")) := by
  obtain ⟨a, rfl, h | h | ⟨h, o, ho, hc⟩⟩ := h
  · exact .inl ⟨a, rfl, h, .base (.lst h)⟩
  · exact .inr ⟨a, rfl, SqT.of h, .base (.tup h)⟩
  · exact .inr ⟨a, rfl, h, .kTuple ho hc⟩

theorem cut_one (xs : List V) : cutV xs (some 1) none = xs.drop 1 := by
  unfold cutV
  rw [show HT.sIx xs.length 0 (some 1) = min 1 xs.length from HT.sIx_nat xs.length 0 1, HT.sIx_none]
  cases xs with
  | nil => rfl
  | cons x r =>
    rw [show min 1 (x :: r).length = 1 by rw [List.length_cons]; omega]
    exact List.take_of_length_le (by rw [List.length_drop]; omega)

section
variable {K : PySem.W.Frag} {C D : Addr} {T : String} {b : Bool}
theorem cls_some (h : PySem.W.hasDictIn K C = true) : (PySem.W.clsIn K C).isSome = true := by
  obtain ⟨cd, hc, _⟩ := PySem.W.any_some h
  rw [hc]
  rfl
theorem kit_own : PySem.W.kitOne K (.ref C) (.ref C) = some true := by
  unfold PySem.W.kitOne
  rw [if_pos (beq_self_eq_true _)]
theorem both_cls (h1 : PySem.W.hasDictIn K C = true) (h2 : PySem.W.typeIn K (.ref C) = some (.type "type")) : ((PySem.W.clsIn K C).isSome && PySem.W.typeIn K (.ref C) == some (.type "type")) = true := by
  rw [cls_some h1, h2] <;> rfl
theorem kit_type_ref (h1 : PySem.W.hasDictIn K C = true) (h2 : PySem.W.typeIn K (.ref C) = some (.type "type")) (h3 : PySem.W.subIn K (.type T) (.ref C) = some b) : PySem.W.kitOne K (.type T) (.ref C) = some b := by
  unfold PySem.W.kitOne
  rw [if_neg (by intro z; cases (beq_iff_eq.mp z))]
  exact (show PySem.W.kitCls K (.type T) (.ref C) = PySem.W.subIn K (.type T) (.ref C) from if_pos (both_cls h1 h2)).trans h3
theorem kit_ref_type (hm : PySem.W.kitMeta T = true) (h : PySem.W.subIn K (.ref D) (.type T) = some b) : PySem.W.kitOne K (.ref D) (.type T) = some b := by
  unfold PySem.W.kitOne
  rw [if_neg (by intro z; cases (beq_iff_eq.mp z))]
  exact (show PySem.W.kitCls K (.ref D) (.type T) = PySem.W.subIn K (.ref D) (.type T) from if_pos hm).trans h
theorem kit_ref_ref (ne : D ≠ C) (h1 : PySem.W.hasDictIn K C = true) (h2 : PySem.W.typeIn K (.ref C) = some (.type "type")) (h3 : PySem.W.subIn K (.ref D) (.ref C) = some b) : PySem.W.kitOne K (.ref D) (.ref C) = some b := by
  unfold PySem.W.kitOne
  rw [if_neg (by intro z; exact ne (Value.ref.inj (beq_iff_eq.mp z)))]
  exact (show PySem.W.kitCls K (.ref D) (.ref C) = PySem.W.subIn K (.ref D) (.ref C) from if_pos (both_cls h1 h2)).trans h3
theorem exm_cls (h0 : PySem.W.subIn K (.ref C) (.type "BaseException") = some true) (h1 : PySem.W.hasDictIn K C = true) (h2 : PySem.W.typeIn K (.ref C) = some (.type "type")) (h3 : PySem.W.subIn K (.ref D) (.ref C) = some b) : PySem.W.exmOne K (.ref D) (.ref C) = some b := by
  have e1 : (PySem.W.subIn K (.ref C) (.type "BaseException") == some true) = true := by rw [h0] <;> rfl
  show (if (PySem.W.subIn K (.ref C) (.type "BaseException") == some true) = true then (if ((PySem.W.clsIn K C).isSome && PySem.W.typeIn K (.ref C) == some (.type "type")) = true then PySem.W.subIn K (.ref D) (.ref C) else none) else none) = some b
  rw [if_pos e1, if_pos (both_cls h1 h2)]
  exact h3
end

theorem cut_from (xs : List V) (k : Nat) : cutV xs (some (k : Int)) none = xs.drop k := by
  unfold cutV
  rw [HT.sIx_nat, HT.sIx_none]
  by_cases h : k ≤ xs.length
  · rw [Nat.min_eq_left h]
    exact List.take_of_length_le (by rw [List.length_drop]; omega)
  · rw [Nat.min_eq_right (by omega), List.drop_length, List.drop_eq_nil_of_le (by omega), List.take_nil]
end UL

set_option Elab.async false
set_option linter.all false
set_option maxRecDepth 100000
/-! own: a static method called off its class -/
namespace UL
open PySem PySem.Spec PyProof.Rows L2 Evl TL

/-- C.m is a staticmethod: its record at p, its def at g -/
structure SMet (K : PySem.W.Frag) (C : Addr) (mc : Value) (m : Str) (p g : Addr) : Prop where
  rd : PySem.W.readsIn K C mc = true
  ga : PySem.W.specialIn K (.ref C) "__getattribute__" = some (some (.builtin "type.__getattribute__"))
  fc : PySem.W.findCls K (.ref C) mc m = some (.get (.builtin "staticmethod.__get__") (.ref p) .none (.ref C))
  rc : ∃ rest, PySem.W.recIn K p "staticmethod" = some (.ref g :: rest)
  kg : PySem.W.keepIn K (.ref g) = true
def tSm (C : Addr) (sp : Sp) (E : L2.St → XK) (ta : TE) (t : TA) : TE := fun σ H Q => ta σ H fun x H1 => x = .ref C ∧ t σ H1 fun vs H2 => sp vs H2 Q (E σ)
section
variable {X : Cx} {CX : CXT} {k : Nat} {C p g : Addr} {mc : Value} {fd : FuncData} {ps : List Str} {sp : Sp} {E : L2.St → XK} {o e : Expr} {es : List Expr} {m : Str} {pos apos : Pos} {ta : TE} {t : TA} {pl : Sem Bool}
theorem pe_smS (he : PE X o ta) (c : SMet X.K C mc m p g) (F : FnOk X.prog X.w X.K X.mg X.base CX k g fd ps sp) (hr : Room k X.A) (hb : L2.Binds X.K fd ps []) (hx : ∀ σ, PassesAt CX X σ (E σ)) (ha : PA X (e :: es) t)
    (h1 : starEach (e :: es) X.env = (false, eval e X.env) :: starEach es X.env := by rfl) (h2 : (backTo pos (starEach es X.env)).any (·.1) = false := by rfl)
    (h3 : eval (.Call (.Attribute o m apos) (e :: es) [] pos) X.env = (do
      let who ← eval o X.env
      standAt apos.atName
      let (fn, fst) ← holding [who] (getMethod who m pl)
      callWith pos fn fst (backTo pos (starEach (e :: es) X.env)) (backToKw pos (keywordEach [] X.env))) := by rfl) :
    PE X (.Call (.Attribute o m apos) (e :: es) [] pos) (tSm C sp E ta t) := by
  refine ⟨fun pins s σ H Q I h => PySem.W.methodCall_KW (pl := pl) (thn (he.run pins s σ H _ I h) fun u s1 hh => ?_) h3⟩
  obtain ⟨x, H1, I1, rx, rfl, q⟩ := hh
  obtain rfl : u = Value.ref C := rx
  obtain ⟨rest, hrc⟩ := c.rc
  refine PySem.W.method_cls I1.kIn c.ga (PySem.W.cls_bind I1.kIn c.rd c.fc (wpAny_call (PySem.W.sm_get (s := { s1 with toks := s1.toks + 1 }) I1.kIn hrc (PySem.W.handed_on rfl ?_))))
  have I2 : Inv X pins σ H1 { s1 with toks := s1.toks + 1 } := I1.tok _
  refine PySem.W.callWith_K (h₀ := X.base) I1.ok.mod.kin c.kg (thn (ha.run pos pins _ σ H1 _ I2 q) fun us s3 hh => ?_) h1 h2
  obtain ⟨vs, H2, I3, rv, q2⟩ := hh
  exact ⟨I3.kIn, run_fnS F hr hb (hx σ) I3 rv q2⟩
end

/-- [f x for x in a sequence]: any walk over fixed items, an element each, nothing else changed -/
theorem lc_map {K : PySem.W.Frag} {J : It} {xs : List V} {G : Hp → Prop} {f : V → V} {j : Nat} {te : TE} {vs : List Nat} {σ : L2.St} {H1 : Hp} {D : Addr} {Qd : Hp → Prop} (w : L2.Walk J xs.length G (YAt xs)) (hz : xs.length ≤ 100000) (hD : H1 D = none)
    (hG : ∀ H', Ex H1 H' → G H') (hw : ∀ x, wipe ((wipe σ vs).set j (some x)) vs = wipe σ vs) (he : ∀ x H', x ∈ xs → Ex H1 H' → ∀ Q : VK, Q (f x) H' → te ((wipe σ vs).set j (some x)) H' Q) (hd : Qd (upd H1 D (.lst (xs.map f)))) :
    ∃ W : Nat → Nat → Hp → Prop, (∃ m, W 0 m (upd H1 D (.lst []))) ∧ ∀ i m H, W i m H →
      (J.stop i H ∧ Qd H) ∨ (J.go i H ∧ ∃ Nx : Hp → Prop, (∀ H', Nx H' → ∃ m', m' < m ∧ W (i + 1) m' H') ∧ ∀ x H', J.yld i H x H' → gName j x (wipe σ vs) H' fun σ2 H2 => wipe σ2 vs = wipe σ vs ∧ tYes σ2 H2 fun b H3 =>
        if b = true then te σ2 H3 fun y H4 => ∃ acc, H4 D = some (.lst acc) ∧ acc.length < sizeLine ∧ Nx (upd H4 D (.lst (acc ++ [y]))) else Nx H3) := by
  refine lc_it w (fun i H' => H' = upd H1 D (.lst ((xs.take i).map f))) rfl (fun i H' _ h => by rw [h]; exact hG _ (Ex.new hD)) ?_ ?_
  · rintro i x H H' hi rfl ⟨rfl, hx⟩
    refine ⟨hw _, ?_⟩
    show te _ _ _
    refine he x _ (List.mem_of_getElem? hx) (Ex.new hD) _ ⟨_, upd_same, ?_, ?_⟩
    · rw [List.length_map, List.length_take]
      exact sz_lt (by omega)
    · rw [upd_upd, List.take_add_one, hx, List.map_append]
      rfl
  · rintro H rfl
    rw [List.take_length]
    exact hd
/-- [f x for x in a sequence if p x] -/
theorem lc_filter {K : PySem.W.Frag} {J : It} {xs : List V} {G : Hp → Prop} {p : V → Bool} {f : V → V} {j : Nat} {tt : TT} {te : TE} {vs : List Nat} {σ : L2.St} {H1 : Hp} {D : Addr} {Qd : Hp → Prop} (w : L2.Walk J xs.length G (YAt xs)) (hz : xs.length ≤ 100000) (hD : H1 D = none)
    (hG : ∀ H', Ex H1 H' → G H') (hw : ∀ x, wipe ((wipe σ vs).set j (some x)) vs = wipe σ vs) (ht : ∀ x H', x ∈ xs → Ex H1 H' → ∀ Q : Bool → Hp → Prop, Q (p x) H' → tt ((wipe σ vs).set j (some x)) H' Q)
    (he : ∀ x H', x ∈ xs → p x = true → Ex H1 H' → ∀ Q : VK, Q (f x) H' → te ((wipe σ vs).set j (some x)) H' Q) (hd : Qd (upd H1 D (.lst ((xs.filter p).map f)))) :
    ∃ W : Nat → Nat → Hp → Prop, (∃ m, W 0 m (upd H1 D (.lst []))) ∧ ∀ i m H, W i m H →
      (J.stop i H ∧ Qd H) ∨ (J.go i H ∧ ∃ Nx : Hp → Prop, (∀ H', Nx H' → ∃ m', m' < m ∧ W (i + 1) m' H') ∧ ∀ x H', J.yld i H x H' → gName j x (wipe σ vs) H' fun σ2 H2 => wipe σ2 vs = wipe σ vs ∧ tt σ2 H2 fun b H3 =>
        if b = true then te σ2 H3 fun y H4 => ∃ acc, H4 D = some (.lst acc) ∧ acc.length < sizeLine ∧ Nx (upd H4 D (.lst (acc ++ [y]))) else Nx H3) := by
  refine lc_it w (fun i H' => H' = upd H1 D (.lst (((xs.take i).filter p).map f))) rfl (fun i H' _ h => by rw [h]; exact hG _ (Ex.new hD)) ?_ ?_
  · rintro i x H H' hi rfl ⟨rfl, hx⟩
    refine ⟨hw _, ?_⟩
    refine ht x _ (List.mem_of_getElem? hx) (Ex.new hD) _ ?_
    have e1 : (xs.take (i + 1)).filter p = (xs.take i).filter p ++ [x].filter p := by
      rw [List.take_add_one, hx, List.filter_append]
      rfl
    cases hp : p x with
    | true =>
      refine iteT (he x _ (List.mem_of_getElem? hx) hp (Ex.new hD) _ ⟨_, upd_same, ?_, ?_⟩)
      · rw [List.length_map]
        refine sz_lt (Nat.lt_of_le_of_lt (List.length_filter_le _ _) ?_)
        rw [List.length_take]
        omega
      · rw [upd_upd, e1, List.map_append]
        simp [hp]
    | false =>
      refine iteF ?_
      rw [e1]
      simp [hp]
  · rintro H rfl
    rw [List.take_length]
    exact hd
end UL

set_option Elab.async false
set_option linter.all false
set_option maxRecDepth 100000
/-! own module: `in`, an index and len of an object of an own class -/
namespace UL
open PySem PySem.Spec PyProof.Rows L2 Evl TL
section
variable {X : Cx} {CX : CXT} {k : Nat} {f C : Addr} {fd : FuncData} {ps : List Str} {sp : Sp} {E : XK}
/-- x in y, y of an own class; the answer is a truth -/
def rOwnIn (C : Addr) (neg : Bool) (sp : Sp) (E : XK) : R2 := fun x y H Q => ∃ a dx fs, y = .ref a ∧ H a = some (.ins C dx fs) ∧ sp [.ref a, x] H (fun v H' => ∃ b, v = .bl b ∧ Q (.bl (if neg then !b else b)) H') E
theorem op_ownIn (F : FnOk X.prog X.w X.K X.mg X.base CX k f fd ps sp) (hr : Room k X.A) (hs : PySem.W.findIn X.K (.ref C) "__contains__" = some (some (.ref f))) (hf : PySem.W.isFn X.K (.ref f) = true) (hb : L2.Binds X.K fd ps []) (hx : Passes CX X E) :
    OpR X (compareOp .In) (rOwnIn C false sp E) := by
  intro pins s σ H x y v u Q I rx ry h
  obtain ⟨a, dx, fs, rfl, ha, q⟩ := h
  cases ry
  obtain ⟨mA, J, _⟩ := ins_get I.hok ha
  obtain ⟨od, J, _⟩ := J.look
  obtain ⟨m, hF⟩ := I.fr
  refine PySem.W.in_K hF I.ok.mod.kin J hs hf ?_
  have r2 : Vals [V.ref a, x] [Value.ref a, v] := .cons rfl (.cons rx .nil)
  have hl : [Value.ref a, v].length = ps.length := by rw [← r2.length]; exact F.len _ _ _ _ q
  have bd := hb s [Value.ref a, v] I.kIn (by rw [List.append_nil]; exact hl)
  rw [List.append_nil] at bd
  refine wpAny_call (codeAny_mono (F.run X.A X.stack s H ⟨[.ref a, v], []⟩ [.ref a, v] [.ref a, x] _ E hr I.env0 bd r2 q) fun rr s' z => ?_)
  match rr, z with
  | .error er, z => exact hx pins σ H s er s' I z
  | .ok (.ret w), z =>
    obtain ⟨v, H', I', rv, b, rfl, q'⟩ := I.after z
    cases rv
    exact wpAny_pure ⟨V.bl b, H', I', rfl, q'⟩
  | .ok .next, z => exact False.elim z
  | .ok .brk, z => exact False.elim z
  | .ok .cont, z => exact False.elim z
theorem op_ownNotIn (F : FnOk X.prog X.w X.K X.mg X.base CX k f fd ps sp) (hr : Room k X.A) (hs : PySem.W.findIn X.K (.ref C) "__contains__" = some (some (.ref f))) (hf : PySem.W.isFn X.K (.ref f) = true) (hb : L2.Binds X.K fd ps []) (hx : Passes CX X E) :
    OpR X (compareOp .NotIn) (rOwnIn C true sp E) := by
  intro pins s σ H x y v u Q I rx ry h
  obtain ⟨a, dx, fs, rfl, ha, q⟩ := h
  cases ry
  obtain ⟨mA, J, _⟩ := ins_get I.hok ha
  obtain ⟨od, J, _⟩ := J.look
  obtain ⟨m, hF⟩ := I.fr
  refine PySem.W.notIn_K hF I.ok.mod.kin J hs hf ?_
  have r2 : Vals [V.ref a, x] [Value.ref a, v] := .cons rfl (.cons rx .nil)
  have hl : [Value.ref a, v].length = ps.length := by rw [← r2.length]; exact F.len _ _ _ _ q
  have bd := hb s [Value.ref a, v] I.kIn (by rw [List.append_nil]; exact hl)
  rw [List.append_nil] at bd
  refine wpAny_call (codeAny_mono (F.run X.A X.stack s H ⟨[.ref a, v], []⟩ [.ref a, v] [.ref a, x] _ E hr I.env0 bd r2 q) fun rr s' z => ?_)
  match rr, z with
  | .error er, z => exact hx pins σ H s er s' I z
  | .ok (.ret w), z =>
    obtain ⟨v, H', I', rv, b, rfl, q'⟩ := I.after z
    cases rv
    exact wpAny_pure ⟨V.bl (!b), H', I', rfl, q'⟩
  | .ok .next, z => exact False.elim z
  | .ok .brk, z => exact False.elim z
  | .ok .cont, z => exact False.elim z
/-- a[b], a of an own class -/
def rOwnIx (C : Addr) (sp : Sp) (E : XK) : R2 := fun x y H Q => ∃ a dx fs, x = .ref a ∧ H a = some (.ins C dx fs) ∧ sp [.ref a, y] H Q E
theorem pe_ixOwn {a b : Expr} {ta tb : TE} {pos : Pos} (F : FnOk X.prog X.w X.K X.mg X.base CX k f fd ps sp) (hr : Room (k + 1) X.A) (hs : PySem.W.findIn X.K (.ref C) "__getitem__" = some (some (.ref f))) (hi : PySem.W.fnIn X.K f = true) (hf : PySem.W.isFn X.K (.ref f) = true) (hb0 : L2.Binds X.K fd ps []) (hx : Passes CX X E)
    (ha : PE X a ta) (hb : PE X b tb) (hsl : ∀ x i, subscripted b true (.ref x) i = runValue (.builtin "lifetime.subscript" ⟨[.ref x, i], []⟩) := by intros; with_unfolding_all rfl) : PE X (.Subscript a b pos) (tOp (rOwnIx C sp E) ta tb) := by
  refine ⟨fun pins s0 σ H0 Q I h => ?_⟩
  refine Subscript_ (binT ha hb I h fun v u s x y H I rx ry q => ?_)
  obtain ⟨p, dx, fs, rfl, hp, q⟩ := q
  cases rx
  obtain ⟨mA, J, _⟩ := ins_get I.hok hp
  obtain ⟨od, J, _⟩ := J.look
  obtain ⟨m, hF⟩ := I.fr
  refine PySem.W.sub_K hF I.ok.mod.kin J hs hi hf ?_ (hsl _ _)
  have r2 : Vals [V.ref p, y] [Value.ref p, u] := .cons rfl (.cons ry .nil)
  have hl : [Value.ref p, u].length = ps.length := by rw [← r2.length]; exact F.len _ _ _ _ q
  have bd := hb0 s [Value.ref p, u] I.kIn (by rw [List.append_nil]; exact hl)
  rw [List.append_nil] at bd
  refine wpAny_call (codeAny_mono (F.run X.A.in1 X.stack s H ⟨[.ref p, u], []⟩ [.ref p, u] [.ref p, y] Q E hr.in1 I.env0.in1 bd r2 q) fun rr s' z => ?_)
  match rr, z with
  | .error er, z => exact hx pins σ H s er s' I z
  | .ok (.ret w), z => exact I.after z
  | .ok .next, z => exact False.elim z
  | .ok .brk, z => exact False.elim z
  | .ok .cont, z => exact False.elim z
/-- len of an object of an own class -/
theorem call_lenOwn (F : FnOk X.prog X.w X.K X.mg X.base CX k f fd ps sp) (hr : Room (k + 1) X.A) (hs : PySem.W.findIn X.K (.ref C) "__len__" = some (some (.ref f))) (hf : PySem.W.isFn X.K (.ref f) = true) (hb : L2.Binds X.K fd ps []) (hx : Passes CX X E) :
    CallR X (.builtin "len") (fun xs H Q => ∃ a dx fs, xs = [.ref a] ∧ H a = some (.ins C dx fs) ∧ sp [.ref a] H (fun v H' => ∃ n : Int, v = .int n ∧ 0 ≤ n ∧ n < 2 ^ 63 ∧ Q (.int n) H') E) := by
  intro pins s σ H xs us Q I r h
  obtain ⟨a, dx, fs, rfl, ha, q⟩ := h
  obtain ⟨u, rfl, ru⟩ := vals1 r
  obtain rfl : u = Value.ref a := ru
  obtain ⟨mA, J, _⟩ := ins_get I.hok ha
  obtain ⟨od, J, _⟩ := J.look
  obtain ⟨m, hF⟩ := I.fr
  refine PySem.W.len_K hF I.ok.mod.kin J hs hf ?_
  have r2 : Vals [V.ref a] [Value.ref a] := .cons rfl .nil
  have hl : [Value.ref a].length = ps.length := by rw [← r2.length]; exact F.len _ _ _ _ q
  have bd := hb s [Value.ref a] I.kIn (by rw [List.append_nil]; exact hl)
  rw [List.append_nil] at bd
  refine wpAny_call (codeAny_mono (F.run X.A.in1 X.stack s H ⟨[.ref a], []⟩ [.ref a] [.ref a] _ E hr.in1 I.env0.in1 bd r2 q) fun rr s' z => ?_)
  match rr, z with
  | .error er, z => exact hx pins σ H s er s' I z
  | .ok (.ret w), z =>
    obtain ⟨v, H', I', rv, n, rfl, n0, n1, q'⟩ := I.after z
    obtain ⟨t, rfl⟩ := rv
    exact ⟨⟨n0, n1⟩, V.int n, H', I'.tok _, ⟨_, rfl⟩, q'⟩
  | .ok .next, z => exact False.elim z
  | .ok .brk, z => exact False.elim z
  | .ok .cont, z => exact False.elim z
end
end UL

set_option Elab.async false
set_option linter.all false
set_option maxRecDepth 100000
/-! own: defs with a star, C() of such a class, an index in a try, iter of a tuple, list of an object whose __iter__ hands out such an iterator and that has a length -/
namespace UL
open PySem PySem.Spec PyProof.Rows L2 Evl TL

/-! ### a def with one parameter and a star -/
section
variable {P : Program} {w : World} {K : PySem.W.Frag} {mg : Str → Option Value} {base : Heap} {x qual : Str} {st : Stmt} {f : Addr} {fd : FuncData} {N : List Str} {a b : Str} {k : Nat} {sp : Sp}
/-- what the caller promises, from what the body wants -/
def spStar (sp : Sp) : Sp := fun vs H Q E => ∃ v rest, vs = v :: rest ∧ rest.length ≤ 1000 ∧ ∀ p, H p = none → sp [v, .ref p] (upd H p (.tup rest)) Q E
theorem starFn (F : L2.Fun K x qual st f fd) (S : FnScope N [a, b] (defScope st))
    (h0 : ∀ (kV doc pm : Value) (an : Option Addr) (cdv ct : Value) (v : Value), bindArgs (PySem.W.fnOf x qual (defArgs st) (defBody st) (defScope st) .none kV doc pm an cdv ct) ⟨[v], []⟩ = (newTuple [] >>= fun t => pure [(a, v), (b, t)]))
    (h1 : ∀ (kV doc pm : Value) (an : Option Addr) (cdv ct : Value) (v r : Value) (rs : List Value), bindArgs (PySem.W.fnOf x qual (defArgs st) (defBody st) (defScope st) .none kV doc pm an cdv ct) ⟨v :: r :: rs, []⟩ = (newTuple (r :: rs) >>= fun t => pure [(a, v), (b, t)]))
    (body : ∀ (cdv : Value) (A : Around) (outer : List Env) (s : Shared) (H : Hp) (vs : List V) (Q : VK) (E : XK), Room k (A.deeper (envOfC qual (defScope st) s.heap.objs.size f cdv)) → sp vs H Q E →
      ∃ t, PSs (cxOf (L2.CX P w) P w K mg base N qual (defScope st) f cdv A outer s H E) (defBody st) t ∧ t { nx := fun _ H' => Q .non H', rt := Q } (start N vs) H) : FnR P w K mg base (L2.CX P w) (k + 1) f (spStar sp) := by
  obtain ⟨oc, od, kV, doc, pm, an, cdv, ct, osl, rfl, lk, code⟩ := F.ex
  have R := StX.fn_star (ps := [a]) (pv := b) lk code S StX.cxUp (fun us rest hl => StX.bind_star1 (B := fun zs => bindArgs (PySem.W.fnOf x qual (defArgs st) (defBody st) (defScope st) .none kV doc pm an cdv ct) ⟨zs, []⟩) (h0 kV doc pm an cdv ct) (h1 kV doc pm an cdv ct) us rest hl) fun A outer s H vs Q E hr h => body cdv A outer s H vs Q E hr h
  refine R.imp fun vs H Q E h => ?_
  obtain ⟨v, rest, rfl, hz, q⟩ := h
  exact ⟨[v], rest, rfl, rfl, Nat.le_trans hz (by decide), q⟩
end
section
variable {X : Cx} {CX : CXT} {k : Nat} {f C : Addr} {sp : Sp} {E : XK} {x : Str} {p pos : Pos}
/-- C() -/
theorem pe_makeR0 (M : Mk X.K C f) (F : FnR X.prog X.w X.K X.mg X.base CX k f sp) (room : Room (k + 1) X.A) (g1 : Gl X x) (g2 : X.mg x = some (.ref C)) (out : Passes CX X E) (g3 : (x == ("__debug__" : Str)) = false := by decide) :
    PE X (.Call (.Name x p) [] [] pos) (StX.tMakeR C sp E tNil) :=
  ⟨fun pins s σ H Q I h => wpAny_Call_Name_kw (ld_glob I g1 g2 (PySem.W.callWith_K0 I.kIn M.kp (StX.run_makeR M F room out I .nil h)) g3)⟩
end

/-! ### a[b] of an own class where what is raised is wished for at the slots -/
def tIxOwnS (C : Addr) (sp : Sp) (E : L2.St → XK) (ta tb : TE) : TE := fun σ H Q => ta σ H fun x H1 => tb σ H1 fun y H2 => rOwnIx C sp (E σ) x y H2 Q
section
variable {X : Cx} {CX : CXT} {k : Nat} {f C : Addr} {fd : FuncData} {ps : List Str} {sp : Sp} {E : L2.St → XK}
theorem pe_ixOwnS {a b : Expr} {ta tb : TE} {pos : Pos} (F : FnOk X.prog X.w X.K X.mg X.base CX k f fd ps sp) (hr : Room (k + 1) X.A) (hs : PySem.W.findIn X.K (.ref C) "__getitem__" = some (some (.ref f))) (hi : PySem.W.fnIn X.K f = true) (hf : PySem.W.isFn X.K (.ref f) = true) (hb0 : L2.Binds X.K fd ps []) (out : ∀ σ, PassesAt CX X σ (E σ))
    (ha : PE X a ta) (hb : PE X b tb) (hsl : ∀ x i, subscripted b true (.ref x) i = runValue (.builtin "lifetime.subscript" ⟨[.ref x, i], []⟩) := by intros; with_unfolding_all rfl) : PE X (.Subscript a b pos) (tIxOwnS C sp E ta tb) := by
  refine ⟨fun pins s0 σ H0 Q I h => ?_⟩
  have h' : tOp (rOwnIx C sp (E σ)) ta tb σ H0 Q := h
  refine Subscript_ (binT ha hb I h' fun v u s x y H I rx ry q => ?_)
  obtain ⟨p, dx, fs, rfl, hp, q⟩ := q
  cases rx
  obtain ⟨_, J, _⟩ := ins_get I.hok hp
  obtain ⟨_, J, _⟩ := J.look
  obtain ⟨m, fr⟩ := I.fr
  refine PySem.W.sub_K fr I.ok.mod.kin J hs hi hf ?_ (hsl _ _)
  have r2 : Vals [V.ref p, y] [Value.ref p, u] := .cons rfl (.cons ry .nil)
  have n2 : [Value.ref p, u].length = ps.length := r2.length.symm.trans (F.len _ _ _ _ q)
  have bd := hb0 s [Value.ref p, u] I.kIn (by rw [List.append_nil]; exact n2)
  rw [List.append_nil] at bd
  refine wpAny_call (codeAny_mono (F.run X.A.in1 X.stack s H ⟨[.ref p, u], []⟩ [.ref p, u] [.ref p, y] Q (E σ) hr.in1 I.env0.in1 bd r2 q) fun rr s' z => ?_)
  match rr, z with
  | .error er, z => exact out σ pins H s er s' I z
  | .ok (.ret w), z => exact I.after z
  | .ok .next, z => exact False.elim z
  | .ok .brk, z => exact False.elim z
  | .ok .cont, z => exact False.elim z
end

/-- what leaves a call leaves the def, too -/
theorem passX {X : Cx} {E : XK} (tk : Takes X fun cls d _ H => E cls d H) : Passes (L2.CX X.prog X.w) X E := fun pins σ H s e s' I c => passAt (W := fun cls d _ H => E cls d H) tk σ pins H s e s' I c

/-! ### iter of a tuple -/
def ItTup (t it : Addr) (i : Nat) : HO := .ext fun h => h.IsTupleIter it t i
theorem itTup_ok {P : Program} {w : World} {H : Hp} {h : Heap} {t it : Addr} {i : Nat} (e : h.IsTupleIter it t i) : ObjOk P w H h it (ItTup t it i) :=
  ⟨e, let ⟨o, ho, _⟩ := e; ⟨o, ho⟩, fun _ _ ⟨o, ho, r⟩ k => ⟨o, k _ ho, r⟩⟩
section
variable {X : Cx}
def rIterT (K : PySem.W.Frag) : List V → Hp → VK → Prop := fun xs H Q => ∃ t zs, xs = [.ref t] ∧ SqT K H t zs ∧ ∀ it, H it = none → Q (.ref it) (upd H it (ItTup t it 0))
theorem call_iterT : CallR X (.builtin "iter") (rIterT X.K) := by
  intro pins s σ H xs us Q I r h
  obtain ⟨t, zs, rfl, hq, q⟩ := h
  obtain ⟨u, rfl, ru⟩ := vals1 r
  cases ru
  obtain ⟨its, rv, pl, hz⟩ := I.tuple hq
  refine Calls.call_function_entry (by decide +kernel) (by decide +kernel) PySem.W.kdk_entry_iter (PySem.W.kdk_args_iter _) ?_
  unfold Builtin.«iter»
  refine wpAny_bind (m := someArgs "iter" 1 2 _) (wpAny_of_eq (a := [Value.ref t]) (by first | rfl | kernel_rfl!) ?_)
  show wpAny _ _ (pyIter (.ref t) >>= _) _ _ s
  refine wpAny_bind (wpAny_pyIter_tuple pl (wpAny_pure ⟨_, rfl, ?_⟩))
  exact ⟨.ref s.heap.objs.size, _, I.laid (t' := s.toks) (fun _ _ e => Heap.get?_push_of_some _ e) (Nat.le_refl _) (itTup_ok ⟨_, Heap.get?_push_size _ rfl, rfl, rfl⟩), rfl, q _ (I.hok.fresh (Nat.le_refl _))⟩
end

/-! ### list of such an object -/
structure ItL (K : PySem.W.Frag) (C fi fl : Addr) : Prop where
  it : PySem.W.findIn K (.ref C) "__iter__" = some (some (.ref fi))
  itF : PySem.W.isFn K (.ref fi) = true
  ln : PySem.W.findIn K (.ref C) "__len__" = some (some (.ref fl))
  lnF : PySem.W.isFn K (.ref fl) = true
section
variable {X : Cx} {pins : List (Addr × Obj)} {σ : L2.St} {H : Hp} {s : Shared} {A1 : Around} {t it q : Addr} {zs : List V}
/-- the turns: the iterator hands out what is left, the list grows -/
theorem itT_loop {R : Result → Shared → Prop} (calm : A1.in1.handled = none) (ex0 : X.ex = []) (hz : zs.length ≤ sizeLine) (nq : it ≠ q) (old : Fr0 X.H_0 it)
    (fin : ∀ (H' : Hp) s', Inv X pins σ (delH H' it) s' → H' q = some (.lst zs) → (∀ b, b ≠ it → b ≠ q → H' b = H b) → R (.ok (.ret .none)) s') :
    ∀ (n i : Nat) (H' : Hp) (s' : Shared), zs.length - i = n → i ≤ zs.length → Inv X pins σ H' s' → H' it = some (ItTup t it i) → H' q = some (.lst (zs.take i)) → SqT X.K H' t zs → t ≠ it → t ≠ q → (∀ b, b ≠ it → b ≠ q → H' b = H b) →
      codeAny (model X.prog X.w) A1 (.builtin "list.extend.loop" ⟨[.ref q, .ref it, .none], []⟩) R s' := by
  intro n
  induction n with
  | zero =>
    intro i H' s' hn hi I hit hq ht n1 n2 same
    obtain rfl : i = zs.length := by omega
    refine codeAny_builtin PySem.F.entry_extend_loop ?_
    rw [Around.under_plainId PySem.F.plain_extend_loop _]
    show wpAny _ A1.in1 (pyNext (.ref it) >>= _) _ _ s'
    obtain ⟨its, rv, pl, _⟩ := I.tuple ht
    refine wpAny_bind (wpAny_pyNext_tuple_end calm (I.hok it _ hit).1 pl (by rw [List.getElem?_toArray]; exact rv.none_of (List.getElem?_eq_none (Nat.le_refl _))) fun h' eb => ?_)
    obtain ⟨G, g1, g2, J⟩ := I.untrack hit old ex0
    have J2 : Inv X pins σ (delH H' it) { s' with heap := h' } := J.kept (h' := h') (t' := s'.toks) fun b o e => eb b o (fun z => by rw [z, g2] at e; cases e) (g1 b o e)
    exact wpAny_pure (fin H' _ J2 (by rw [hq, List.take_length]) same)
  | succ n ih =>
    intro i H' s' hn hi I hit hq ht n1 n2 same
    have hlt : i < zs.length := by omega
    refine codeAny_builtin PySem.F.entry_extend_loop ?_
    rw [Around.under_plainId PySem.F.plain_extend_loop _]
    show wpAny _ A1.in1 (pyNext (.ref it) >>= _) _ _ s'
    obtain ⟨its, rv, pl, _⟩ := I.tuple ht
    obtain ⟨u, hu, ru⟩ := rv.get (List.getElem?_eq_getElem hlt)
    refine wpAny_bind (wpAny_pyNext_tuple_item (I.hok it _ hit).1 pl (by rw [List.getElem?_toArray]; exact hu) fun h' e' sb => ?_)
    have J : Inv X pins σ (upd H' it (ItTup t it (i + 1))) { s' with heap := h' } := I.write (x := it) (e := it) (t' := s'.toks) (by rw [hit]; exact True.intro) (.inl rfl) (fun b o nb z => (sb.2 b nb).trans z) (let ⟨o, ho, _⟩ := e'; ⟨o, ho⟩) (itTup_ok e')
    have hq2 : upd H' it (ItTup t it (i + 1)) q = some (.lst (zs.take i)) := by rw [upd_ne (Ne.symm nq)]; exact hq
    obtain ⟨z, ls, k, r2, hl, e⟩ := J.lstM hq2
    have len : zs.take i = zs.take i := rfl
    have hl2 : (zs.take i).length = i := by rw [List.length_take]; omega
    have nx : zs.take i ++ [zs[i]] = zs.take (i + 1) := by rw [List.take_add_one, List.getElem?_eq_getElem hlt]; rfl
    show wpAny _ A1.in1 (updateSeq q (·.push u) >>= _) _ _ _
    refine wpAny_bind (wpAny_updateSeq e rfl (wpAny_pure ⟨plainId_quiet PySem.F.plain_extend_loop _, ?_⟩) (by rw [List.size_toArray]; omega) (by show (ls.toArray.push u).size ≤ sizeLine + 1; rw [Array.size_push, List.size_toArray]; omega))
    have J2 := J.lset (f := (·.push u)) (its' := ls ++ [u]) (ys := zs.take (i + 1)) (t' := s'.toks) hq2 e (by simp) (by rw [← nx]; exact r2.append (.cons ru .nil)) (by rw [List.length_take]; omega)
    refine ih (i + 1) _ _ (by omega) (by omega) J2 ?_ upd_same ?_ n1 n2 ?_
    · rw [upd_ne nq, upd_same]
    · rcases ht with (h | ⟨o, h⟩) | h
      · exact .inl (.inl (by rw [upd_ne n2, upd_ne n1]; exact h))
      · exact .inl (.inr ⟨o, by rw [upd_ne n2, upd_ne n1]; exact h⟩)
      · exact .inr h
    · intro b b1 b2
      rw [upd_ne b2, upd_ne b1]
      exact same b b1 b2
end
section
variable {X : Cx} {pins : List (Addr × Obj)} {σ : L2.St} {H : Hp} {s : Shared} {CI : CXT} {C fi fl a : Addr} {fdI fdL : FuncData} {psI psL : List Str} {spI spL : Sp} {EI EL : XK} {n : Nat} {A1 : Around}
/-- below the running body: the environment of a call -/
theorem env0_sub (sb : Sub X n A1) (I : Inv X pins σ H s) : Env0 X.prog X.w X.K X.mg X.base A1 X.stack s H := by
  have e := I.env0
  exact ⟨sb.fr.trans e.frames, e.mod, e.bs, e.bsz, e.funs, e.frf, e.hok, e.bare⟩
/-- the length is asked for: whatever is said of it -/
theorem lenHint {Q : Bool → Shared → Prop} {dx : Addr} {fs : List (Str × V)} {m : Int} (sb : Sub X n A1.in1) (hc : ItL X.K C fi fl) (FL : FnOk X.prog X.w X.K X.mg X.base CX0 n fl fdL psL spL) (bL : L2.Binds X.K fdL psL []) 
    (I : Inv X pins σ H s) (ha : H a = some (.ins C dx fs)) (hm : 0 ≤ m ∧ m ≤ 1000) (hsp : spL [.ref a] H (fun v H' => v = .int m ∧ H' = H) EL) (k : ∀ b s', Inv X pins σ H s' → Q b s') :
    wpAny (model X.prog X.w) A1 (Builtin.List.listLengthHint (.ref a)) Q X.xe s := by
  obtain ⟨_, J, _⟩ := ins_get I.hok ha
  obtain ⟨_, J, _⟩ := J.look
  obtain ⟨_, fr⟩ := I.fr
  unfold Builtin.List.listLengthHint
  refine wpAny_bind (wpAny_bind (J.type.here ((PySem.W.looks_findIn I.kIn hc.ln).here ?_)))
  refine PySem.W.KFB.if_not rfl ?_
  refine wpAny_ite_split (fun _ => ?_) (fun z => absurd rfl z)
  refine wpAny_bind (wpAny_rule (wpAny_bind (wpAny_attempt (PySem.W.len_K fr I.ok.mod.kin J hc.ln hc.lnF ?_))))
  have r2 : Vals [V.ref a] [Value.ref a] := .cons rfl .nil
  have n2 : [Value.ref a].length = psL.length := r2.length.symm.trans (FL.len _ _ _ _ hsp)
  have bd := bL s [Value.ref a] I.kIn (by rw [List.append_nil]; exact n2)
  rw [List.append_nil] at bd
  refine wpAny_call (codeAny_mono (FL.run A1.in1 X.stack s H ⟨[.ref a], []⟩ [.ref a] [.ref a] _ EL sb.room (env0_sub sb I) bd r2 hsp) fun rr s' z => ?_)
  match rr, z with
  | .error er, z => exact False.elim z
  | .ok (.ret w), z =>
    obtain ⟨v, H', I', rv, rfl, rfl⟩ := I.after z
    obtain ⟨t, rfl⟩ := rv
    refine ⟨⟨hm.1, by omega⟩, ?_⟩
    refine wpAny_bind (wpAny_pure ?_)
    refine wpAny_ite_split (fun z => ?_) (fun _ => wpAny_pure (k _ _ (I'.tok _)))
    rw [notLongL (Nat.le_trans (by omega : m.toNat ≤ 1000) (by decide))] at z
    cases z
  | .ok .next, z => exact False.elim z
  | .ok .brk, z => exact False.elim z
  | .ok .cont, z => exact False.elim z
/-- what list(o) asks: the two methods' promises, at any heap that has all that stands now -/
def rListOwnT (K : PySem.W.Frag) (H0 : Hp) (C : Addr) (spI spL : Sp) (EI EL : XK) : List V → Hp → VK → Prop := fun xs H Q => ∃ a dx fs t zs, xs = [.ref a] ∧ H a = some (.ins C dx fs) ∧ H t = some (.tup zs) ∧ zs.length ≤ 1000 ∧
  (∀ H', Ex H H' → spI [.ref a] H' (fun v H2 => ∃ it, v = .ref it ∧ H' it = none ∧ Fr0 H0 it ∧ H2 = upd H' it (ItTup t it 0)) EI) ∧ (∀ H', Ex H H' → spL [.ref a] H' (fun v H2 => v = .int (zs.length : Int) ∧ H2 = H') EL) ∧ ∀ q, H q = none → Q (.ref q) (upd H q (.lst zs))
theorem call_listOwnT (calm : X.calm = true) (ex0 : X.ex = []) (hc : ItL X.K C fi fl) (FI : FnOk X.prog X.w X.K X.mg X.base CX0 n fi fdI psI spI) (bI : L2.Binds X.K fdI psI []) (FL : FnOk X.prog X.w X.K X.mg X.base CX0 n fl fdL psL spL) (bL : L2.Binds X.K fdL psL []) (room : Room (n + 3) X.A) :
    CallR X (.type "list") (rListOwnT X.K X.H_0 C spI spL EI EL) := by
  intro pins s σ H xs us Q I rv h
  obtain ⟨a, dx, fs, t, zs, rfl, ha, ht, hz, hI, hL, hq⟩ := h
  obtain ⟨u, rfl, ru⟩ := rv.one
  cases ru
  have sb3 : Sub X (n + 3) X.A := ⟨room, rfl⟩
  have sb1 : Sub X (n + 1) X.A.in1.in1 := sb3.in1.in1
  have sb0 : Sub X n X.A.in1.in1.in1 := sb1.in1
  have fr : H s.heap.objs.size = none := I.hok.fresh (Nat.le_refl _)
  generalize eq : s.heap.objs.size = q at fr
  refine callType_codes (Q₁ := fun ob s1 => ob = .ref s.heap.objs.size ∧ s1 = { s with heap := s.heap.push { cls := .type "list", data := .seq #[] } }) PySem.F.called_list (PySem.F.typeCall_list_1 _) PySem.F.entry_list_init (code_list_new _ ⟨rfl, rfl⟩) fun ob s1 e1 => ?_
  obtain ⟨rfl, rfl⟩ := e1
  have g0 : (s.heap.push { cls := .type "list", data := .seq #[] }).get? s.heap.objs.size = some { cls := .type "list", data := .seq #[] } := Heap.get?_push_size _ rfl
  refine ⟨⟨_, g0, rfl⟩, PySem.F.args_list_init_2 _ _, ?_⟩
  have I1 : Inv X pins σ (upd H s.heap.objs.size (.lst [])) { s with heap := s.heap.push { cls := .type "list", data := .seq #[] } } := I.lnew (its := []) (t' := s.toks) .nil (Nat.zero_le _)
  show wpAny _ _ (do let old ← Builtin.List.listItems (.ref s.heap.objs.size); Builtin.List.listUpdate (.ref s.heap.objs.size) (fun _ => #[]); letGo old.toList.reverse; Builtin.List.listExtendWith (.ref s.heap.objs.size) (.ref a) .none) _ _ _
  unfold Builtin.List.listItems
  refine wpAny_bind (wpAny_bind (wpAny_seqItems g0 rfl (wpAny_pure ?_)))
  have I2 := I1.lset (f := fun _ => #[]) (its := []) (its' := []) (ys := []) (t' := s.toks) upd_same g0 rfl .nil (Nat.zero_le _)
  rw [upd_upd] at I2
  show wpAny _ _ (updateSeq s.heap.objs.size (fun _ => #[]) >>= fun _ => letGo (#[] : Array Value).toList.reverse >>= fun _ => Builtin.List.listExtendWith (.ref s.heap.objs.size) (.ref a) .none) _ _ _
  refine wpAny_bind (wpAny_updateSeq g0 rfl (wpAny_bind (wpAny_letGo ?_)))
  rw [eq] at I2 ⊢
  have ex : Ex H (upd H q (.lst [])) := Ex.new fr
  have ha2 := ex _ _ ha
  have nqa : q ≠ a := fun z => by rw [← z, fr] at ha; cases ha
  obtain ⟨_, J, _⟩ := ins_get I2.hok ha2
  obtain ⟨_, J, _⟩ := J.look
  obtain ⟨_, frm⟩ := I2.fr
  unfold Builtin.List.listExtendWith
  refine wpAny_bind (J.type.here ?_)
  have b1 : Builtin.List.listSameRef (.ref q) (.ref a) = false := by simp [Builtin.List.listSameRef, nqa]
  have b2 : (Value.ref C == Value.type "list") = false := rfl
  have b3 : (Value.ref C == Value.type "tuple") = false := rfl
  simp only [b1, b2, b3, Bool.or_false, Bool.false_eq_true, if_false]
  refine wpAny_bind (PySem.W.owit_iter frm I2.ok.mod.kin J hc.it hc.itF ?_)
  have q1 := hI _ ex
  have r2 : Vals [V.ref a] [Value.ref a] := .cons rfl .nil
  have n2 : [Value.ref a].length = psI.length := r2.length.symm.trans (FI.len _ _ _ _ q1)
  have bd := bI _ [Value.ref a] I2.kIn (by rw [List.append_nil]; exact n2)
  rw [List.append_nil] at bd
  refine wpAny_call (codeAny_mono (FI.run X.A.in1.in1 X.stack _ _ ⟨[.ref a], []⟩ [.ref a] [.ref a] _ EI (sb1.mono (Nat.le_succ n)).room (env0_sub (sb1.mono (Nat.le_succ n)) I2) bd r2 q1) fun rr s' z => ?_)
  match rr, z with
  | .error er, z => exact False.elim z
  | .ok .next, z => exact False.elim z
  | .ok .brk, z => exact False.elim z
  | .ok .cont, z => exact False.elim z
  | .ok (.ret w), z =>
    obtain ⟨v, H', I3, rv, it, rfl, hit, old, rfl⟩ := I2.after z
    cases rv
    have nit : it ≠ q := fun z => by rw [z, upd_same] at hit; cases hit
    have hitH : H it = none := by rw [upd_ne nit] at hit; exact hit
    have ex3 : Ex (upd H q (.lst [])) (upd (upd H q (.lst [])) it (ItTup t it 0)) := Ex.new hit
    have hT : s'.TypeIs (.ref it) "tuple_iterator" := by
      obtain ⟨o, ho, hc, _⟩ := (I3.hok it _ upd_same).1
      exact ⟨o, ho, hc⟩
    unfold PySem.W.OwitIt
    refine wpAny_specialOf hT PySem.F.slot_tuple_iterator_next.lookup ?_
    refine wpAny_bind (wpAny_holding (lenHint (m := (zs.length : Int)) sb0 hc FL bL I3 (ex3 _ _ ha2) ⟨by omega, by omega⟩ (hL _ (ex.trans ex3)) fun b s4 I4 => ?_))
    have nta : t ≠ it ∧ t ≠ q := ⟨ne_of_none ht hitH, ne_of_none ht fr⟩
    have go : ∀ s5, Inv X pins σ (upd (upd H q (.lst [])) it (ItTup t it 0)) s5 → codeAny (model X.prog X.w) X.A.in1 (.builtin "list.extend.loop" ⟨[.ref q, .ref it, .none], []⟩) (wants (fun r s₂ => r = .none ∧ EP X pins σ Q (.ref q) s₂) X.xe) s5 := fun s5 I5 => by
      refine itT_loop (A1 := X.A.in1) (R := wants (fun r s₂ => r = .none ∧ EP X pins σ Q (.ref q) s₂) X.xe) (H := upd H q (.lst [])) (show X.A.in1.in1.handled = none from I.ok.hd calm) ex0 (by rw [sizeLine_eq]; omega) nit old (fun H6 s6 I6 e6 k6 => ⟨rfl, .ref q, _, I6, rfl, ?_⟩) zs.length 0 _ s5 rfl (Nat.zero_le _) I5 upd_same ?_ ?_ nta.1 nta.2 (fun b b1 b2 => by rw [upd_ne b1])
      · have e : delH H6 it = upd H q (.lst zs) := by
          funext b
          by_cases h1 : b = it
          · rw [h1, upd_ne nit, hitH]
            exact if_pos rfl
          · rw [show delH H6 it b = H6 b from if_neg h1]
            by_cases h2 : b = q
            · rw [h2, upd_same, e6]
            · rw [k6 b h1 h2, upd_ne h2, upd_ne h2]
        rw [e]
        exact hq q fr
      · rw [upd_ne (Ne.symm nit), upd_same]
        rfl
      · exact SqT.of ((ex.trans ex3) _ _ ht)
    have h4q : upd (upd H q (.lst [])) it (ItTup t it 0) q = some (.lst []) := by rw [upd_ne (Ne.symm nit), upd_same]
    refine wpAny_ite_split (fun _ => ?_) (fun _ => wpAny_pure ⟨plainId_quiet PySem.F.plain_extend_loop _, go s4 I4⟩)
    refine wpAny_bind (wpAny_rule (wpAny_bind ?_))
    show wpAny _ _ (updateSeq q (·.push .none) >>= fun _ => updateSeq q (·.pop)) _ _ _
    obtain ⟨_, ls, k, r5, _, g5⟩ := I4.lstM h4q
    cases r5
    refine wpAny_bind (wpAny_updateSeq g5 rfl ?_)
    have I6 := I4.lset (f := (·.push Value.none)) (its' := [Value.none]) (ys := [.non]) (t' := s4.toks) h4q g5 (by simp) (.cons rfl .nil) (by rw [List.length_singleton, sizeLine_eq]; decide)
    obtain ⟨_, ls6, k6, r6, _, g6⟩ := I6.lstM upd_same
    obtain ⟨u6, rfl, _⟩ := r6.one
    refine wpAny_updateSeq g6 rfl ?_ (by show 1 ≤ sizeLine; rw [sizeLine_eq]; decide) (by show 0 ≤ sizeLine + 1; exact Nat.zero_le _)
    have I7 := I6.lset (f := (·.pop)) (its := [u6]) (its' := []) (ys := []) (t' := s4.toks) upd_same g6 (by rfl) .nil (Nat.zero_le _)
    rw [upd_upd, upd_id h4q] at I7
    exact wpAny_pure ⟨plainId_quiet PySem.F.plain_extend_loop _, go _ I7⟩
end
/-! ### lists by their length -/
theorem len1 {α : Type} {xs : List α} (h : xs.length = 1) : ∃ a0, xs = [a0] := by
  obtain ⟨a0, t0, rfl⟩ := List.exists_cons_of_length_eq_add_one h; have h1 := Nat.succ.inj h
  obtain rfl := List.eq_nil_of_length_eq_zero h1
  exact ⟨_, rfl⟩
theorem len2 {α : Type} {xs : List α} (h : xs.length = 2) : ∃ a0 a1, xs = [a0, a1] := by
  obtain ⟨a0, t0, rfl⟩ := List.exists_cons_of_length_eq_add_one h; have h1 := Nat.succ.inj h; obtain ⟨a1, t1, rfl⟩ := List.exists_cons_of_length_eq_add_one h1; have h2 := Nat.succ.inj h1
  obtain rfl := List.eq_nil_of_length_eq_zero h2
  exact ⟨_, _, rfl⟩
theorem len3 {α : Type} {xs : List α} (h : xs.length = 3) : ∃ a0 a1 a2, xs = [a0, a1, a2] := by
  obtain ⟨a0, t0, rfl⟩ := List.exists_cons_of_length_eq_add_one h; have h1 := Nat.succ.inj h; obtain ⟨a1, t1, rfl⟩ := List.exists_cons_of_length_eq_add_one h1; have h2 := Nat.succ.inj h1; obtain ⟨a2, t2, rfl⟩ := List.exists_cons_of_length_eq_add_one h2; have h3 := Nat.succ.inj h2
  obtain rfl := List.eq_nil_of_length_eq_zero h3
  exact ⟨_, _, _, rfl⟩
theorem len4 {α : Type} {xs : List α} (h : xs.length = 4) : ∃ a0 a1 a2 a3, xs = [a0, a1, a2, a3] := by
  obtain ⟨a0, t0, rfl⟩ := List.exists_cons_of_length_eq_add_one h; have h1 := Nat.succ.inj h; obtain ⟨a1, t1, rfl⟩ := List.exists_cons_of_length_eq_add_one h1; have h2 := Nat.succ.inj h1; obtain ⟨a2, t2, rfl⟩ := List.exists_cons_of_length_eq_add_one h2; have h3 := Nat.succ.inj h2; obtain ⟨a3, t3, rfl⟩ := List.exists_cons_of_length_eq_add_one h3; have h4 := Nat.succ.inj h3
  obtain rfl := List.eq_nil_of_length_eq_zero h4
  exact ⟨_, _, _, _, rfl⟩
theorem len5 {α : Type} {xs : List α} (h : xs.length = 5) : ∃ a0 a1 a2 a3 a4, xs = [a0, a1, a2, a3, a4] := by
  obtain ⟨a0, t0, rfl⟩ := List.exists_cons_of_length_eq_add_one h; have h1 := Nat.succ.inj h; obtain ⟨a1, t1, rfl⟩ := List.exists_cons_of_length_eq_add_one h1; have h2 := Nat.succ.inj h1; obtain ⟨a2, t2, rfl⟩ := List.exists_cons_of_length_eq_add_one h2; have h3 := Nat.succ.inj h2; obtain ⟨a3, t3, rfl⟩ := List.exists_cons_of_length_eq_add_one h3; have h4 := Nat.succ.inj h3; obtain ⟨a4, t4, rfl⟩ := List.exists_cons_of_length_eq_add_one h4; have h5 := Nat.succ.inj h4
  obtain rfl := List.eq_nil_of_length_eq_zero h5
  exact ⟨_, _, _, _, _, rfl⟩
theorem len12 {α : Type} {xs : List α} (h : xs.length = 12) : ∃ a0 a1 a2 a3 a4 a5 a6 a7 a8 a9 a10 a11, xs = [a0, a1, a2, a3, a4, a5, a6, a7, a8, a9, a10, a11] := by
  obtain ⟨a0, t0, rfl⟩ := List.exists_cons_of_length_eq_add_one h; have h1 := Nat.succ.inj h; obtain ⟨a1, t1, rfl⟩ := List.exists_cons_of_length_eq_add_one h1; have h2 := Nat.succ.inj h1; obtain ⟨a2, t2, rfl⟩ := List.exists_cons_of_length_eq_add_one h2; have h3 := Nat.succ.inj h2; obtain ⟨a3, t3, rfl⟩ := List.exists_cons_of_length_eq_add_one h3; have h4 := Nat.succ.inj h3; obtain ⟨a4, t4, rfl⟩ := List.exists_cons_of_length_eq_add_one h4; have h5 := Nat.succ.inj h4; obtain ⟨a5, t5, rfl⟩ := List.exists_cons_of_length_eq_add_one h5; have h6 := Nat.succ.inj h5; obtain ⟨a6, t6, rfl⟩ := List.exists_cons_of_length_eq_add_one h6; have h7 := Nat.succ.inj h6; obtain ⟨a7, t7, rfl⟩ := List.exists_cons_of_length_eq_add_one h7; have h8 := Nat.succ.inj h7; obtain ⟨a8, t8, rfl⟩ := List.exists_cons_of_length_eq_add_one h8; have h9 := Nat.succ.inj h8; obtain ⟨a9, t9, rfl⟩ := List.exists_cons_of_length_eq_add_one h9; have h10 := Nat.succ.inj h9; obtain ⟨a10, t10, rfl⟩ := List.exists_cons_of_length_eq_add_one h10; have h11 := Nat.succ.inj h10; obtain ⟨a11, t11, rfl⟩ := List.exists_cons_of_length_eq_add_one h11; have h12 := Nat.succ.inj h11
  obtain rfl := List.eq_nil_of_length_eq_zero h12
  exact ⟨_, _, _, _, _, _, _, _, _, _, _, _, rfl⟩
theorem len13 {α : Type} {xs : List α} (h : xs.length = 13) : ∃ a0 a1 a2 a3 a4 a5 a6 a7 a8 a9 a10 a11 a12, xs = [a0, a1, a2, a3, a4, a5, a6, a7, a8, a9, a10, a11, a12] := by
  obtain ⟨a0, t0, rfl⟩ := List.exists_cons_of_length_eq_add_one h; have h1 := Nat.succ.inj h; obtain ⟨a1, t1, rfl⟩ := List.exists_cons_of_length_eq_add_one h1; have h2 := Nat.succ.inj h1; obtain ⟨a2, t2, rfl⟩ := List.exists_cons_of_length_eq_add_one h2; have h3 := Nat.succ.inj h2; obtain ⟨a3, t3, rfl⟩ := List.exists_cons_of_length_eq_add_one h3; have h4 := Nat.succ.inj h3; obtain ⟨a4, t4, rfl⟩ := List.exists_cons_of_length_eq_add_one h4; have h5 := Nat.succ.inj h4; obtain ⟨a5, t5, rfl⟩ := List.exists_cons_of_length_eq_add_one h5; have h6 := Nat.succ.inj h5; obtain ⟨a6, t6, rfl⟩ := List.exists_cons_of_length_eq_add_one h6; have h7 := Nat.succ.inj h6; obtain ⟨a7, t7, rfl⟩ := List.exists_cons_of_length_eq_add_one h7; have h8 := Nat.succ.inj h7; obtain ⟨a8, t8, rfl⟩ := List.exists_cons_of_length_eq_add_one h8; have h9 := Nat.succ.inj h8; obtain ⟨a9, t9, rfl⟩ := List.exists_cons_of_length_eq_add_one h9; have h10 := Nat.succ.inj h9; obtain ⟨a10, t10, rfl⟩ := List.exists_cons_of_length_eq_add_one h10; have h11 := Nat.succ.inj h10; obtain ⟨a11, t11, rfl⟩ := List.exists_cons_of_length_eq_add_one h11; have h12 := Nat.succ.inj h11; obtain ⟨a12, t12, rfl⟩ := List.exists_cons_of_length_eq_add_one h12; have h13 := Nat.succ.inj h12
  obtain rfl := List.eq_nil_of_length_eq_zero h13
  exact ⟨_, _, _, _, _, _, _, _, _, _, _, _, _, rfl⟩
end UL

set_option Elab.async false
set_option linter.all false
set_option maxRecDepth 100000
/-! own: an operator of an own class, != of a class that has == alone, C(*xs) -/
namespace UL
open PySem PySem.Spec PyProof.Rows L2 Evl TL

/-! ### an operator -/
section
variable {X : Cx} {CX : CXT} {k : Nat} {f C : Addr} {fd : FuncData} {ps : List Str} {sp : Sp}
/-- x op y, both of the class at C; the answer is an object -/
def rOwnBin (C : Addr) (sp : Sp) (E : XK) : R2 := fun x y H Q => ∃ a b dx fs dy gs, x = .ref a ∧ y = .ref b ∧ H a = some (.ins C dx fs) ∧ H b = some (.ins C dy gs) ∧ sp [.ref a, .ref b] H (fun v H' => ∃ c, v = .ref c ∧ Q (.ref c) H') E
/-- .. what is raised is wished for at the slots -/
def tOwnBin (C : Addr) (sp : Sp) (E : L2.St → XK) (ta tb : TE) : TE := fun σ H Q => ta σ H fun x H1 => tb σ H1 fun y H2 => rOwnBin C sp (E σ) x y H2 Q
theorem own_bin {op : Operator} {E : XK} {pins : List (Addr × Obj)} {σ : L2.St} {H : Hp} {s : Shared} {x y : V} {v u : Value} {Q : VK} (F : FnOk X.prog X.w X.K X.mg X.base CX k f fd ps sp) (hr : Room k X.A) (hc : PySem.W.selfFirst X.K C = true) (hs : PySem.W.findIn X.K (.ref C) (PySem.dunder op.info.2) = some (some (.ref f)))
    (hf : PySem.W.isFn X.K (.ref f) = true) (hb : L2.Binds X.K fd ps []) (out : PassesAt CX X σ E) (I : Inv X pins σ H s) (rx : RelV x v) (ry : RelV y u) (h : rOwnBin C sp E x y H Q) : wpAny (model X.prog X.w) X.A (binaryOp op v u) (EP X pins σ Q) X.xe s := by
  obtain ⟨a, b, dx, fs, dy, gs, rfl, rfl, ha, hb2, q⟩ := h
  cases rx
  cases ry
  obtain ⟨_, J, _⟩ := ins_get I.hok ha
  obtain ⟨_, J, _⟩ := J.look
  obtain ⟨_, J', _⟩ := ins_get I.hok hb2
  obtain ⟨_, J', _⟩ := J'.look
  obtain ⟨_, fr⟩ := I.fr
  refine PySem.W.binop_K fr I.ok.mod.kin J J'.type hc hs hf ?_
  have r2 : Vals [V.ref a, V.ref b] [Value.ref a, Value.ref b] := .cons rfl (.cons rfl .nil)
  have n2 : [Value.ref a, Value.ref b].length = ps.length := r2.length.symm.trans (F.len _ _ _ _ q)
  have bd := hb s [Value.ref a, Value.ref b] I.kIn (by rw [List.append_nil]; exact n2)
  rw [List.append_nil] at bd
  refine wpAny_call (codeAny_mono (F.run X.A X.stack s H ⟨[.ref a, .ref b], []⟩ [.ref a, .ref b] [.ref a, .ref b] _ E hr I.env0 bd r2 q) fun rr s' z => ?_)
  match rr, z with
  | .error er, z => exact out pins H s er s' I z
  | .ok (.ret w), z =>
    obtain ⟨v, H', I', rv, c, rfl, q'⟩ := I.after z
    cases rv
    exact ⟨V.ref c, H', I', rfl, q'⟩
  | .ok .next, z => exact False.elim z
  | .ok .brk, z => exact False.elim z
  | .ok .cont, z => exact False.elim z
theorem op_ownBin {op : Operator} {E : XK} (F : FnOk X.prog X.w X.K X.mg X.base CX k f fd ps sp) (hr : Room k X.A) (hc : PySem.W.selfFirst X.K C = true) (hs : PySem.W.findIn X.K (.ref C) (PySem.dunder op.info.2) = some (some (.ref f))) (hf : PySem.W.isFn X.K (.ref f) = true) (hb : L2.Binds X.K fd ps []) (out : Passes CX X E) :
    OpR X (binaryOp op) (rOwnBin C sp E) := fun pins s σ H x y v u Q I rx ry h => own_bin F hr hc hs hf hb (fun pins H s e s' I c => out pins σ H s e s' I c) I rx ry h
theorem pe_ownBinS {a b : Expr} {ta tb : TE} {pos : Pos} {op : Operator} {E : L2.St → XK} (F : FnOk X.prog X.w X.K X.mg X.base CX k f fd ps sp) (hr : Room k X.A) (hc : PySem.W.selfFirst X.K C = true) (hs : PySem.W.findIn X.K (.ref C) (PySem.dunder op.info.2) = some (some (.ref f))) (hf : PySem.W.isFn X.K (.ref f) = true) (hb : L2.Binds X.K fd ps []) (out : ∀ σ, PassesAt CX X σ (E σ))
    (ha : PE X a ta) (hb2 : PE X b tb) : PE X (.BinOp a op b pos) (tOwnBin C sp E ta tb) := by
  refine ⟨fun pins s σ H Q I h => ?_⟩
  have h' : tOp (rOwnBin C sp (E σ)) ta tb σ H Q := h
  exact wpAny_BinOp (binT ha hb2 I h' fun v u s2 x y H2 I2 rx ry q => own_bin F hr hc hs hf hb (out σ) I2 rx ry q)
end

/-! ### x != y, the class has == alone -/
structure NeC (K : PySem.W.Frag) (C f : Addr) : Prop where
  ne : PySem.W.findIn K (.ref C) "__ne__" = some (some (.builtin "object.__ne__"))
  eq : PySem.W.findIn K (.ref C) "__eq__" = some (some (.ref f))
  fn : PySem.W.isFn K (.ref f) = true
  ob : PySem.W.subIn K (.ref C) (.type "object") = some true
section
variable {prog : Program} {w : World} {A : Around} {E : Value → Shared → Prop} {s : Shared} {K : PySem.W.Frag} {C x f : Addr} {ox : Obj} {od : Option Obj} {b : Value}
theorem slotNe : Slot "object" "__ne__" "object.__ne__" := PySem.F.cmp_object.ne
theorem own_ne {Q : Value → Shared → Prop} (T : NeC K C f) (hK : K.In s.heap) (J : PySem.W.InstAt s.heap x ox C od) (hb : PySem.W.Looks (model prog w) s.heap (typeOf b) (.ref C)) (hu : A.units + 1 < cLine)
    (h : wpAny (model prog w) A.in1 (call (.ref f) [.ref x, b]) (fun v s' => ∃ r, v = .bool r ∧ Q (.bool (!r)) s') E s) : wpAny (model prog w) A (richCompare .NotEq (.ref x) b) Q E s := by
  have inner : wpAny (model prog w) A (call (.builtin "object.__ne__") [.ref x, b]) (fun v s' => ∃ r, v = .bool r ∧ Q (.bool r) s') E s := by
    refine wpAny_call (codeAny_call_builtin slotNe.plain PySem.F.cmpEntry_ne ?_)
    simp only [checkBuiltinCall, PySem.F.cmpKind_ne, PySem.F.cmpSplit_ne]
    refine wpAny_bind ?_
    unfold isInstance
    refine wpAny_bind (J.type.here ((PySem.W.looks_subIn hK T.ob).here ?_))
    refine wpAny_ite_split (fun z => absurd z (by decide)) (fun _ => ?_)
    have body : wpAny (model prog w) A.in1 (Builtin.«object.__ne__» { pos := [Value.ref x, b] }) (fun fin s' => ∃ r, fin = .done (.ret (.bool r)) ∧ Q (.bool r) s') E s := by
      have lim : A.in1.units < cLine := by show A.units + 1 < cLine; exact hu
      unfold Builtin.«object.__ne__»
      repeat (first
        | refine wpAny_bind (m := callSpecialIfBound? (.ref x) (Str.ofString "__eq__") [b]) (PySem.W.ifBound_K hK J T.eq T.fn (wpAny_mono h (fun r t hr => (?_ : (fun z y => _) (some r) t)) fun _ _ z => z))
        | with_reducible refine wpAny_cRoomFor lim ?_
        | wp_step)
      obtain ⟨r0, rfl, hq⟩ := hr
      exact wpAny_bind (m := truthy (.bool r0)) (wpAny_truthy_bool (wpAny_pure ⟨_, rfl, hq⟩))
    have done : ∀ s', s' = s → wpAny (model prog w) A.in1 (Builtin.«object.__ne__» { pos := [Value.ref x, b] }) (fun fin s' => match fin with | .done f => (match (Except.ok f : Result) with | .ok (.ret v) => ∃ r, v = .bool r ∧ Q (.bool r) s' | .ok _ => False | .error e => E e s') | .again c' => c'.quiet = true ∧ codeAny (model prog w) A c' (fun r s' => match r with | .ok (.ret v) => ∃ r, v = .bool r ∧ Q (.bool r) s' | .ok _ => False | .error e => E e s') s') (fun e s' => E e s') s' := by
      rintro _ rfl
      refine wpAny_mono body (fun fin s' z => ?_) fun _ _ z => z
      obtain ⟨r, rfl, q⟩ := z
      exact ⟨r, rfl, q⟩
    have ok := PySem.F.cmpArgs_ne (.ref x) b
    cases sg : Manifest.signature? "object.__ne__" with
    | none => exact wpAny_pure (done s rfl)
    | some sig =>
      simp only [argsOk, sg] at ok
      have ok2 : Bind.checkArgs "object.__ne__" sig ⟨[.ref x, b], []⟩ = pure () := ok
      show wpAny _ A.in1 (Bind.checkArgs "object.__ne__" sig ⟨[.ref x, b], []⟩) _ _ _
      rw [ok2]
      exact wpAny_pure (done s rfl)
  unfold richCompare
  simp only [oneThing_ref]
  refine wpAny_holding (wpAny_bind (wpAny_cRoomFor (by omega) ?_))
  refine wpAny_bind (J.type.here (wpAny_bind (hb.here ?_)))
  have one : wpAny (model prog w) A (tryCompare (.ref x) (cmpInfo .NotEq).2.1 b) (fun r s' => ∃ v, r = some v ∧ Q v s') E s := by
    unfold tryCompare
    refine wpAny_bind ?_
    simp only [callSpecialIfBound?, bindSpecialIfBound?]
    refine wpAny_holding (wpAny_bind (wpAny_bind (wpAny_bind (J.type.here ((PySem.W.looks_findIn hK T.ne).here ?_)))))
    simp only [slotNe.bind]
    refine wpAny_bind (wpAny_askSetting (wpAny_ite ?_))
    have fin : wpAny (model prog w) A (call (.builtin "object.__ne__") ([.ref x] ++ [b]) >>= fun v => pure (some v)) (fun r s' => wpAny (model prog w) A (match r with | some .notImplemented => pure Option.none | Option.none => pure Option.none | some v => pure (some v)) (fun r s' => ∃ v, r = some v ∧ Q v s') E s') E s :=
      wpAny_bind (wpAny_mono inner (fun v s' z => wpAny_pure (by obtain ⟨r, rfl, q⟩ := z; exact wpAny_pure ⟨_, rfl, q⟩)) fun _ _ z => z)
    split
    · exact wpAny_bind (wpAny_pure (wpAny_pure (by exact fin)))
    · exact wpAny_tryCatch (wpAny_bind (wpAny_pure (wpAny_pure (by exact fin))))
  split
  · rename_i q
    simp at q
  · refine wpAny_bind (wpAny_pure ?_)
    simp only [Bool.false_eq_true, if_false]
    refine wpAny_bind (wpAny_mono one (fun r s' z => ?_) fun _ _ e => e)
    obtain ⟨v, rfl, hq⟩ := z
    exact wpAny_pure hq
end
section
variable {X : Cx} {CX : CXT} {k : Nat} {f C : Addr} {fd : FuncData} {ps : List Str} {sp : Sp} {E : XK}
def rOwnNe (C : Addr) (sp : Sp) (E : XK) : R2 := fun x y H Q => ∃ a b dx fs dy gs, x = .ref a ∧ y = .ref b ∧ H a = some (.ins C dx fs) ∧ H b = some (.ins C dy gs) ∧ sp [.ref a, .ref b] H (fun v H' => ∃ c, v = .bl c ∧ Q (.bl (!c)) H') E
theorem op_ownNe (F : FnOk X.prog X.w X.K X.mg X.base CX k f fd ps sp) (hr : Room (k + 1) X.A) (T : NeC X.K C f) (hb : L2.Binds X.K fd ps []) (out : Passes CX X E) : OpR X (compareOp .NotEq) (rOwnNe C sp E) := by
  intro pins s σ H x y v u Q I rx ry h
  obtain ⟨a, b, dx, fs, dy, gs, rfl, rfl, ha, hb2, q⟩ := h
  cases rx
  cases ry
  obtain ⟨_, J, _⟩ := ins_get I.hok ha
  obtain ⟨_, J, _⟩ := J.look
  obtain ⟨_, J', _⟩ := ins_get I.hok hb2
  obtain ⟨_, J', _⟩ := J'.look
  show wpAny _ _ (richCompare .NotEq (.ref a) (.ref b)) _ _ _
  refine own_ne T I.kIn J J'.type (by have := hr.units; omega) ?_
  have r2 : Vals [V.ref a, V.ref b] [Value.ref a, Value.ref b] := .cons rfl (.cons rfl .nil)
  have n2 : [Value.ref a, Value.ref b].length = ps.length := r2.length.symm.trans (F.len _ _ _ _ q)
  have bd := hb s [Value.ref a, Value.ref b] I.kIn (by rw [List.append_nil]; exact n2)
  rw [List.append_nil] at bd
  refine wpAny_call (codeAny_mono (F.run X.A.in1 X.stack s H ⟨[.ref a, .ref b], []⟩ [.ref a, .ref b] [.ref a, .ref b] _ E hr.in1 I.env0.in1 bd r2 q) fun rr s' z => ?_)
  match rr, z with
  | .error er, z => exact out pins σ H s er s' I z
  | .ok (.ret w), z =>
    obtain ⟨v, H', I', rv, c, rfl, q'⟩ := I.after z
    cases rv
    exact ⟨c, rfl, V.bl (!c), H', I', rfl, q'⟩
  | .ok .next, z => exact False.elim z
  | .ok .brk, z => exact False.elim z
  | .ok .cont, z => exact False.elim z
end

/-! ### C(*xs) -/
section
variable {X : Cx} {CX : CXT} {k : Nat} {f C : Addr} {sp : Sp} {E : XK} {x : Str} {e : Expr} {te : TE} {p q pos : Pos}
def tMakeStar (K : PySem.W.Frag) (C : Addr) (sp : Sp) (E : XK) (te : TE) : TE := fun σ H Q => te σ H fun y H1 => ∃ a xs, y = V.ref a ∧ (SqT K H1 a xs ∨ SqL K H1 a xs) ∧ ∀ x dx, H1 x = none → H1 dx = none → dx ≠ x →
  sp (V.ref x :: xs) (upd (upd H1 dx (.own x)) x (.ins C dx [])) (fun v H2 => v = .non ∧ Q (.ref x) H2) E
theorem pe_makeStar (M : Mk X.K C f) (F : FnR X.prog X.w X.K X.mg X.base CX k f sp) (room : Room (k + 1) X.A) (g1 : Gl X x) (g2 : X.mg x = some (.ref C)) (out : Passes CX X E) (he : PE X e te) (g3 : (x == ("__debug__" : Str)) = false := by decide)
    (one : starEach [.Starred e q] X.env = [(true, eval e X.env)] := by rfl) : PE X (.Call (.Name x p) [.Starred e q] [] pos) (tMakeStar X.K C sp E te) := by
  refine ⟨fun pins s σ H Q I h => wpAny_Call_Name_kw (ld_glob I g1 g2 ?_ g3)⟩
  refine PySem.W.callWith_S (h₀ := X.base) I.ok.mod.kin M.kp (thn (he.run pins s σ H _ I h) fun v t ⟨y, H1, I1, ry, a, xs, ey, hxs, z⟩ => ?_) one
  subst ey
  obtain rfl : v = Value.ref a := ry
  exact StX.star_any I1 hxs fun us t2 I2 rv => ⟨I2.kIn, StX.run_makeR M F room out I2 rv z⟩
end
end UL

set_option Elab.async false
set_option linter.all false
set_option maxRecDepth 100000
/-! own: enumerate of a text, C(e) with C in a local name, a written dict of numbers by text -/
namespace UL
open PySem PySem.Spec PyProof.Rows L2 Evl TL

/-! ### enumerate(text) -/
def Ites (x : Str) : It :=
  ⟨fun i _ => i < x.cps.size, fun i H v H' => ∃ T c, v = .ref T ∧ H T = none ∧ H' = upd H T (.tup [.int (i : Nat), .str ⟨#[c]⟩]) ∧ x.cps[i]? = some c, fun i _ => i = x.cps.size⟩
theorem turn_enumS {P : Program} {w : World} {K : PySem.W.Frag} {elts : List Expr} {kk : Nat} {tpos : Pos} (x : Str) (t : Tok) (ty : String) (hty : ty = "str_ascii_iterator" ∨ ty = "str_iterator") (e it : Addr) :
    Turn P w K (.Tuple elts kk tpos) (Ites x) [e, it] e (fun i h => (∃ old, IsEnum h e it ((i : Nat) : Int) old) ∧ h.IsStrIter it ty x t i ∧ e ≠ it) where
  mem := by simp
  obj := fun i h st b hb => by
    obtain ⟨⟨old, he⟩, ⟨o, ho, hc, hd⟩, _⟩ := st
    have e' : b = e ∨ b = it := by simpa using hb
    rcases e' with z | z
    · rw [z]; exact ⟨_, he, fun v q => nomatch q⟩
    · rw [z]; exact ⟨o, ho, fun v q => by rw [hd] at q; cases q⟩
  keep := fun i h h' st k => let ⟨⟨old, he⟩, ⟨o, ho, r⟩, hne⟩ := st; ⟨⟨old, k e (by simp) _ he⟩, ⟨o, k it (by simp) o ho, r⟩, hne⟩
  item := by
    intro X hP hw hK hc i pins s σ H E I hf st hg
    subst hP hw hK
    obtain ⟨⟨old, he⟩, hit, hne⟩ := st
    have hel : e < s.heap.objs.size := Heap.lt_size he
    have hil : it < s.heap.objs.size := by obtain ⟨_, q, _⟩ := hit; exact Heap.lt_size q
    have D : Draws X.prog X.w X.A.in1 it [it] x.cps.size (fun i v => ∃ c u, x.cps[i]? = some c ∧ v = .str ⟨#[c]⟩ u) (fun i h => h.IsStrIter it ty x t i) := by
      rcases hty with q | q
      · rw [q]; exact Draws.strAscii (A := X.A.in1) (I.ok.hd hc) it x t
      · rw [q]; exact Draws.strWide (A := X.A.in1) (I.ok.hd hc) it x t
    refine wpAny_pyNext_enum_itemD D he hit hg hne (fun q => hne (by simpa using q)) fun u h' tk hP ho hit' hT hsz hk => ?_
    obtain ⟨c, tu, hcx, rfl⟩ := hP
    refine ⟨_, rfl, wpAny_letOwnedTupleGo_enum (s := { s with heap := h', toks := tk + 1 }) ho fun h'' he' sb => ?_⟩
    have hT2 : h''.get? s.heap.objs.size = some { cls := .type "tuple", data := .seq #[.int i tk, .str ⟨#[c]⟩ tu] } := (sb.2 _ (Nat.ne_of_gt hel)).trans hT
    have new : ObjOk X.prog X.w (upd H s.heap.objs.size (.tup [.int (i : Nat), .str ⟨#[c]⟩])) h'' s.heap.objs.size (.tup [.int (i : Nat), .str ⟨#[c]⟩]) :=
      ⟨by show 2 ≤ sizeLine; decide, [.int i tk, .str ⟨#[c]⟩ tu], .cons ⟨_, rfl⟩ (.cons ⟨_, rfl⟩ .nil), ⟨_, hT2, rfl, _, rfl⟩⟩
    have I1 : Inv X pins σ (upd H s.heap.objs.size (.tup [.int (i : Nat), .str ⟨#[c]⟩])) { s with heap := h'', toks := tk + 1 } :=
      I.turnedNew (ch := [e, it]) (fun b ob hb q => (sb.2 b (fun z => hb (by simp [z]))).trans (hk b ob (fun z => hb (by simp [z])) (fun z => hb (by simp [z])) q)) hf (Nat.le_refl _) new
    refine ⟨.ref s.heap.objs.size, _, I1, rfl, ⟨_, c, rfl, I.hok.fresh (Nat.le_refl _), rfl, hcx⟩, ⟨⟨.str ⟨#[c]⟩ tu, ?_⟩, ?_, hne⟩, fun b hb => ?_⟩
    · have e1 : ((i + 1 : Nat) : Int) = (i : Int) + 1 := by omega
      rw [e1]; exact he'
    · obtain ⟨o, ho2, r⟩ := hit'
      exact ⟨o, (sb.2 it (Ne.symm hne)).trans ho2, r⟩
    · have hb' : b < s.heap.objs.size := by
        have e' : b = e ∨ b = it := by simpa using hb
        rcases e' with z | z
        · rw [z]; exact hel
        · rw [z]; exact hil
      rw [upd_ne (Nat.ne_of_lt hb')]
      exact (hf b hb).1
  done := by
    intro X hP hw hK hc i pins s σ H E I hf st hg
    subst hP hw hK
    obtain ⟨⟨old, he⟩, hit, hne⟩ := st
    obtain ⟨f0, f1, f2, f3, f4, f5⟩ := hf it (by simp)
    have D : Draws X.prog X.w X.A.in1 it [it] x.cps.size (fun i v => ∃ c u, x.cps[i]? = some c ∧ v = .str ⟨#[c]⟩ u) (fun i h => h.IsStrIter it ty x t i) := by
      rcases hty with q | q
      · rw [q]; exact Draws.strAscii (A := X.A.in1) (I.ok.hd hc) it x t
      · rw [q]; exact Draws.strWide (A := X.A.in1) (I.ok.hd hc) it x t
    obtain rfl : i = x.cps.size := hg
    exact wpAny_pyNext_enum_endD D he hit fun h' eb => ⟨rfl, I.turned (t' := s.toks) (fun b o hb q => eb b o hb q) f0 f1 f3 f4 f5⟩
  self := fun A i s Q E st h => let ⟨⟨_, he⟩, _⟩ := st; wpAny_pyIter_enum he h
def iEnumS (ta : TA) : TI := fun σ H R => ta σ H fun vs H1 => ∃ x, vs = [.str x] ∧ R (Ites x) H1
theorem pi_enumS {X : Cx} {e : Expr} {ta : TA} {p pos tpos : Pos} {elts : List Expr} {kk : Nat} (hg : Gl X "enumerate") (hm : X.mg "enumerate" = none) (ha : PA X [e] ta) (hs : starEach [e] X.env = [(false, eval e X.env)] := by rfl) :
    PI X (.Tuple elts kk tpos) (.Call (.Name "enumerate" p) [e] [] pos) (iEnumS ta) := by
  refine ⟨fun pins s σ H R I h => ?_⟩
  refine Call_ (ld_blt I hg hm boot_enumerate (PyProof.Rows.callWith_type1 (thn (ha.run pos pins s σ H _ I h) fun us s1 ⟨vs, H1, I1, r1, q1⟩ => ?_) hs rfl))
  obtain ⟨x, ex, q⟩ := q1
  subst ex
  cases r1 with
  | cons r rr =>
    cases rr
    obtain ⟨t, rfl⟩ := r
    refine call_enumerate_str fun h' he hit hsz hk => wpAny_pyIter_enum he ?_
    have I2 : Inv X pins σ H1 { s1 with heap := h' } := I1.kept (t' := s1.toks) hk
    have fp : ∀ b ∈ [s1.heap.objs.size + 1, s1.heap.objs.size], FpOk X pins H1 b := fun b hb => by
      have e' : b = s1.heap.objs.size + 1 ∨ b = s1.heap.objs.size := by simpa using hb
      have hle : s1.heap.objs.size ≤ b := by
        rcases e' with z | z
        · rw [z]; exact Nat.le_add_right _ _
        · rw [z]; exact Nat.le_refl _
      exact I1.fpOk hle (I1.hok.fresh hle)
    cases hasc : x.cps.all (· < 128)
    · have hit' : h'.IsStrIter s1.heap.objs.size "str_iterator" x t 0 := by simpa [strIterType, hasc] using hit
      exact ⟨s1.heap.objs.size + 1, [s1.heap.objs.size + 1, s1.heap.objs.size], _, _, H1, rfl, I2, turn_enumS x t "str_iterator" (.inr rfl) (s1.heap.objs.size + 1) s1.heap.objs.size, ⟨⟨.none, he⟩, hit', Nat.succ_ne_self _⟩, fp, q⟩
    · have hit' : h'.IsStrIter s1.heap.objs.size "str_ascii_iterator" x t 0 := by simpa [strIterType, hasc] using hit
      exact ⟨s1.heap.objs.size + 1, [s1.heap.objs.size + 1, s1.heap.objs.size], _, _, H1, rfl, I2, turn_enumS x t "str_ascii_iterator" (.inl rfl) (s1.heap.objs.size + 1) s1.heap.objs.size, ⟨⟨.none, he⟩, hit', Nat.succ_ne_self _⟩, fp, q⟩
theorem walk_enumS {z : Str} : L2.Walk (Ites z) z.cps.size (fun _ => True) (fun i H v H' => ∃ T c, v = .ref T ∧ H T = none ∧ H' = upd H T (.tup [.int (i : Nat), .str ⟨#[c]⟩]) ∧ z.cps[i]? = some c) :=
  ⟨fun _ _ hi _ => hi, fun _ _ => rfl, fun _ _ _ _ _ _ y => y⟩

/-! ### C(e, ..) with C in a local name -/
def tMakeL (i : Nat) (C : Addr) (sp : Sp) (dvs : List V) (E : XK) (t : TA) : TE := fun σ H Q => σ[i]? = some (some (.ref C)) ∧ t σ H fun vs H1 => ∀ x dx, H1 x = none → H1 dx = none → dx ≠ x → sp (.ref x :: (vs ++ dvs)) (upd (upd H1 dx (.own x)) x (.ins C dx [])) (fun v H2 => v = .non ∧ Q (.ref x) H2) E
section
variable {X : Cx} {CX : CXT} {x : Str} {i : Nat} {C f : Addr} {k : Nat} {fd : FuncData} {ps : List Str} {sp : Sp} {ds : List Value} {dvs : List V} {E : XK} {e : Expr} {es : List Expr} {t : TA} {p pos : Pos}
theorem pe_makeL (M : Mk X.K C f) (F : FnOk X.prog X.w X.K X.mg X.base CX k f fd ps sp) (hr : Room (k + 1) X.A) (hN : X.N[i]? = some x) (hv : Vis X.env.scope x) (hb : L2.Binds X.K fd ps ds) (hd : Vals dvs ds) (hx : Passes CX X E)
    (ha : PA X (e :: es) t) (hdb : (x == ("__debug__" : Str)) = false := by decide) (hcd : (x == ("__classdict__" : Str)) = false := by decide) (he : starEach (e :: es) X.env = (false, eval e X.env) :: starEach es X.env := by rfl) (hpl : (backTo pos (starEach es X.env)).any (·.1) = false := by rfl) :
    PE X (.Call (.Name x p) (e :: es) [] pos) (tMakeL i C sp dvs E t) := by
  refine ⟨fun pins s σ H Q I h => ?_⟩
  obtain ⟨hs, ht⟩ := h
  refine wpAny_Call_Name_kw (thn ((pe_var (pos := p) hN hv hdb hcd).run pins s σ H (fun v H1 => v = .ref C ∧ H1 = H) I ⟨.ref C, hs, rfl, rfl⟩) fun u s1 ⟨v, H1, I1, r1, q1⟩ => ?_)
  obtain ⟨rfl, rfl⟩ := q1
  cases r1
  refine PySem.W.callWith_K (h₀ := X.base) I.ok.mod.kin M.kp (thn (ha.run pos pins s1 σ _ _ I1 ht) fun us s2 ⟨vs, H2, I2, r, q⟩ => ⟨I2.kIn, ?_⟩) he hpl
  exact run_make M F hr hb hd hx I2 r q
end

/-! ### a written dict -/
/-- at d the dict of these, told by the written part -/
structure WD (K : PySem.W.Frag) (w : World) (d : Addr) (kvs : List (Str × Int)) : Prop where
  ex : ∃ es n, K.lookup d = some ⟨.type "dict", none, .dict es n, #[]⟩ ∧ PySem.W.KeysLit w.params es.toList ∧ Paired (fun (e : DictEntry) (kv : Str × Int) => ∃ t u, e.key = .str kv.1 t ∧ e.val = .int kv.2 u) es.toList kvs ∧ (d == sysModules) = false
theorem lookup_put2 {z k : Str} {v : Int} {l : List (Str × Int)} (h : z ≠ k) : ((k, v) :: l).lookup z = l.lookup z := by
  have e : (z == k) = false := by simpa using h
  simp [List.lookup, e]
theorem wd_ns {K : PySem.W.Frag} {d : Addr} {es : Array DictEntry} {n : Nat} {kvs : List (Str × Int)} (h : K.lookup d = some ⟨.type "dict", none, .dict es n, #[]⟩) (p : Paired (fun (e : DictEntry) (kv : Str × Int) => ∃ t u, e.key = .str kv.1 t ∧ e.val = .int kv.2 u) es.toList kvs) (z : Str) :
    (∃ i u, kvs.lookup z = some i ∧ PySem.W.nsIn K d z = some (some (.int i u))) ∨ (kvs.lookup z = none ∧ PySem.W.nsIn K d z = some none) := by
  unfold PySem.W.nsIn
  rw [h]
  show (∃ i u, _ ∧ (match es.toList.find? (·.key.isStr z) with | some e => some (some e.val) | none => if es.toList.any (·.refKey) then none else some none) = _) ∨ (_ ∧ (match es.toList.find? (·.key.isStr z) with | some e => some (some e.val) | none => if es.toList.any (·.refKey) then none else some none) = _)
  generalize es.toList = l at p
  have hr : l.any (·.refKey) = false := by
    clear h
    induction p with
    | nil => rfl
    | cons q _ ih =>
      obtain ⟨t, u, hk, hv⟩ := q
      rw [List.any_cons, ih]
      unfold DictEntry.refKey
      rw [hk]
      rfl
  rw [hr]
  clear h hr
  induction p with
  | nil => exact .inr ⟨rfl, rfl⟩
  | @cons e kv l kvs q pr ih =>
    obtain ⟨k, v⟩ := kv
    obtain ⟨t, u, hk, hv⟩ := q
    dsimp only at hk hv
    by_cases e1 : z = k
    · subst e1
      refine .inl ⟨v, u, by simp [List.lookup], ?_⟩
      rw [List.find?_cons_of_pos (by rw [hk]; simp [Value.isStr])]
      show some (some e.val) = _
      rw [hv]
    · rw [List.find?_cons_of_neg (by rw [hk]; simp [Value.isStr]; exact fun z => e1 z.symm), lookup_put2 e1]
      exact ih
section
variable {X : Cx}
theorem op_inW : OpR X (compareOp .In) (fun x y H Q => ∃ (z : Str) (d : Addr) (kvs : List (Str × Int)), x = .str z ∧ y = .ref d ∧ WD X.K X.w d kvs ∧ Q (.bl (kvs.lookup z).isSome) H) := by
  intro pins s σ H x y v u Q I rx ry h
  obtain ⟨z, d, kvs, rfl, rfl, ⟨es, n, hl, hk, hp, low⟩, q⟩ := h
  rcases wd_ns hl hp z with ⟨i, t, e1, e2⟩ | ⟨e1, e2⟩
  · rw [e1] at q
    exact op_in_kd ⟨hl, hk, low⟩ pins s σ H _ _ v u Q I rx ry ⟨z, _, rfl, rfl, e2, q⟩
  · rw [e1] at q
    exact op_in_kd ⟨hl, hk, low⟩ pins s σ H _ _ v u Q I rx ry ⟨z, _, rfl, rfl, e2, q⟩
theorem ix_W : IxR X (fun x y H Q => ∃ (z : Str) (d : Addr) (kvs : List (Str × Int)) (i : Int), x = .ref d ∧ y = .str z ∧ WD X.K X.w d kvs ∧ kvs.lookup z = some i ∧ Q (.int i) H) := by
  intro value slice pins s σ H x y v u Q I rx ry h hs
  obtain ⟨z, d, kvs, i, rfl, rfl, ⟨es, n, hl, hk, hp, low⟩, e, q⟩ := h
  rcases wd_ns hl hp z with ⟨j, t, e1, e2⟩ | ⟨e1, e2⟩
  · rw [e] at e1
    cases e1
    exact ix_kdict value slice pins s σ H _ _ v u Q I rx ry ⟨d, z, .int i, rfl, rfl, ⟨es, n, _, hl, hk, e2, ⟨_, rfl⟩⟩, q⟩ hs
  · rw [e] at e1
    cases e1
end
end UL

set_option Elab.async false
set_option linter.all false
set_option maxRecDepth 100000
/-! own: the reader of expressions as a machine over pieces, without a heap -/
namespace UL
open PySem PySem.Spec PyProof.Rows L2 Evl TL

/-- the string of these signs -/
def ofL (l : List Nat) : Str := ⟨l.toArray⟩
theorem tl_ofL (l : List Nat) : tl (ofL l) = l := by simp [tl, ofL]
theorem ofL_tl (z : Str) : ofL (tl z) = z := by
  cases z
  simp [tl, ofL]
theorem ofL_inj {a b : List Nat} (h : ofL a = ofL b) : a = b := by rw [← tl_ofL a, h, tl_ofL]
/-- a node -/
inductive Nd where
  | name (w : Str)
  | call (w : Str) (os : List Nat)
  | op (w : Str) (os : List Nat)
  deriving DecidableEq
/-! ### cutting -/
def cutGo : List Nat → List Nat → List (List Nat)
  | p, [] => if p = [] then [] else [p]
  | p, c :: r => if c = 40 then (p ++ [c]) :: cutGo [] r else if c = 44 ∨ c = 41 then (if p = [] then [] else [p]) ++ [c] :: cutGo [] r else cutGo (p ++ [c]) r
theorem cutGo_nil (p : List Nat) : cutGo p [] = if p = [] then [] else [p] := by rw [cutGo]
theorem cutGo_cons (p : List Nat) (c : Nat) (r : List Nat) : cutGo p (c :: r) = if c = 40 then (p ++ [c]) :: cutGo [] r else if c = 44 ∨ c = 41 then (if p = [] then [] else [p]) ++ [c] :: cutGo [] r else cutGo (p ++ [c]) r := by rw [cutGo]
/-- no sign of these three -/
def plainL (w : List Nat) : Prop := ∀ c ∈ w, c ≠ 40 ∧ c ≠ 41 ∧ c ≠ 44
theorem cut_plain : ∀ (w p r : List Nat), plainL w → cutGo p (w ++ r) = cutGo (p ++ w) r
  | [], p, r, _ => by rw [List.nil_append, List.append_nil]
  | c :: w, p, r, h => by
    have hc := h c List.mem_cons_self
    rw [List.cons_append, cutGo_cons, if_neg hc.1, if_neg (by omega), cut_plain w _ r fun d hd => h d (List.mem_cons_of_mem _ hd), List.append_assoc]
    rfl
theorem cut_word {w : List Nat} (h : plainL w) (h0 : w ≠ []) : cutGo [] w = [w] := by
  have e := cut_plain w [] [] h
  rw [List.append_nil, List.nil_append] at e
  rw [e, cutGo_nil, if_neg h0]
theorem cut_open {w : List Nat} (h : plainL w) (r : List Nat) : cutGo [] (w ++ 40 :: r) = (w ++ [40]) :: cutGo [] r := by
  rw [cut_plain w [] _ h, List.nil_append, cutGo_cons, if_pos rfl]
theorem cut_at {c : Nat} (hc : c = 44 ∨ c = 41) : ∀ (t p r : List Nat), cutGo p (t ++ c :: r) = cutGo p t ++ [c] :: cutGo [] r
  | [], p, r => by
    rw [List.nil_append, cutGo_cons, if_neg (by omega), if_pos hc, cutGo_nil]
  | d :: t, p, r => by
    rw [List.cons_append, cutGo_cons, cutGo_cons]
    by_cases h1 : d = 40
    · rw [if_pos h1, if_pos h1, cut_at hc t [] r, List.cons_append]
    · rw [if_neg h1, if_neg h1]
      by_cases h2 : d = 44 ∨ d = 41
      · rw [if_pos h2, if_pos h2, cut_at hc t [] r, List.append_assoc]
        rfl
      · rw [if_neg h2, if_neg h2, cut_at hc t _ r]
/-! ### the machine -/
def opsT : List (Str × Int) := [("part", 1), ("pick", 2), ("then", 2)]
def oper (okw : Str → Bool) (w : Str) (os : List Nat) : Option Nd :=
  match opsT.lookup w with
  | some n => if (os.length : Int) = n then some (.op w os) else none
  | none => if okw w = true ∧ os.length ≤ 4 then some (.call w os) else none
theorem oper_at {okw : Str → Bool} {w : Str} {os : List Nat} {n : Int} (h : opsT.lookup w = some n) : oper okw w os = if (os.length : Int) = n then some (.op w os) else none := by
  unfold oper
  rw [h]
theorem oper_no {okw : Str → Bool} {w : Str} {os : List Nat} (h : opsT.lookup w = none) : oper okw w os = if okw w = true ∧ os.length ≤ 4 then some (.call w os) else none := by
  unfold oper
  rw [h]
theorem some_if {α : Type} {p : Prop} [Decidable p] {a b : α} (h : (if p then some a else none) = some b) : p ∧ a = b := by
  by_cases e : p
  · rw [if_pos e] at h
    exact ⟨e, Option.some.inj h⟩
  · rw [if_neg e] at h
    cases h
/-- the operations that wait, the innermost last -/
abbrev Wt := List (Str × List Nat)
def addTop (W : Wt) (n : Nat) : Wt := match W.getLast? with
  | none => W
  | some (w, os) => W.dropLast ++ [(w, os ++ [n])]
theorem addTop_snoc (W : Wt) (w : Str) (os : List Nat) (n : Nat) : addTop (W ++ [(w, os)]) n = W ++ [(w, os ++ [n])] := by
  unfold addTop
  rw [List.getLast?_concat, List.dropLast_concat]
theorem addTop_nil (n : Nat) : addTop [] n = [] := rfl
structure Rd where
  N : List Nd
  W : Wt
  b : Bool
def rstep (okw : Str → Bool) (s : Rd) (p : List Nat) : Option Rd :=
  if p = [44] then (if s.W = [] ∨ s.b = false then none else some ⟨s.N, s.W, false⟩)
  else if p = [41] then
    (match s.W.getLast? with
    | none => none
    | some (w, os) => if os ≠ [] ∧ s.b = false then none else
      match oper okw w os with
      | none => none
      | some nd => some ⟨s.N ++ [nd], addTop s.W.dropLast s.N.length, true⟩)
  else if s.b = true then none
  else if p.getLast? = some 40 then some ⟨s.N, s.W ++ [(ofL p.dropLast, [])], s.b⟩
  else if okw (ofL p) = true then some ⟨s.N ++ [.name (ofL p)], addTop s.W s.N.length, true⟩
  else none
def rrun (okw : Str → Bool) : Rd → List (List Nat) → Option Rd
  | s, [] => some s
  | s, p :: ps => (rstep okw s p).bind fun s' => rrun okw s' ps
theorem rrun_append (okw : Str → Bool) : ∀ (ps qs : List (List Nat)) (s : Rd), rrun okw s (ps ++ qs) = (rrun okw s ps).bind fun s' => rrun okw s' qs
  | [], qs, s => rfl
  | p :: ps, qs, s => by
    rw [List.cons_append, rrun, rrun]
    cases rstep okw s p with
    | none => rfl
    | some s' => exact rrun_append okw ps qs s'
/-- the text is that of an expression whose nodes, from the lo-th on, are ns -/
def GoodE (okw : Str → Bool) (t : List Nat) (lo : Nat) (ns : List Nd) : Prop :=
  ns ≠ [] ∧ ∀ N W, N.length = lo → rrun okw ⟨N, W, false⟩ (cutGo [] t) = some ⟨N ++ ns, addTop W (lo + ns.length - 1), true⟩
/-- texts behind one another -/
abbrev It1 := List Nat × List Nd
def Stk (okw : Str → Bool) : Nat → List It1 → Prop
  | _, [] => True
  | lo, (t, ns) :: r => GoodE okw t lo ns ∧ Stk okw (lo + ns.length) r
def flat (l : List It1) : List Nd := l.flatMap (·.2)
def rootsL : Nat → List It1 → List Nat
  | _, [] => []
  | lo, (_, ns) :: r => (lo + ns.length - 1) :: rootsL (lo + ns.length) r
theorem stk_append (okw : Str → Bool) : ∀ (a b : List It1) (lo : Nat), Stk okw lo (a ++ b) ↔ Stk okw lo a ∧ Stk okw (lo + (flat a).length) b
  | [], b, lo => by simp [Stk, flat]
  | (t, ns) :: a, b, lo => by
    show GoodE okw t lo ns ∧ Stk okw (lo + ns.length) (a ++ b) ↔ (GoodE okw t lo ns ∧ Stk okw (lo + ns.length) a) ∧ _
    rw [stk_append okw a b, show (flat ((t, ns) :: a)).length = ns.length + (flat a).length by simp [flat], ← Nat.add_assoc, and_assoc]
theorem roots_append : ∀ (a b : List It1) (lo : Nat), rootsL lo (a ++ b) = rootsL lo a ++ rootsL (lo + (flat a).length) b
  | [], b, lo => by simp [rootsL, flat]
  | (t, ns) :: a, b, lo => by
    show (lo + ns.length - 1) :: rootsL (lo + ns.length) (a ++ b) = (lo + ns.length - 1) :: rootsL (lo + ns.length) a ++ _
    rw [roots_append a b, show (flat ((t, ns) :: a)).length = ns.length + (flat a).length by simp [flat], ← Nat.add_assoc]
    rfl
theorem roots_len : ∀ (a : List It1) (lo : Nat), (rootsL lo a).length = a.length
  | [], _ => rfl
  | (t, ns) :: a, lo => by simp [rootsL, roots_len a]
def joinC : List (List Nat) → List Nat
  | [] => []
  | [t] => t
  | t :: u :: r => t ++ 44 :: joinC (u :: r)
theorem args_run (okw : Str → Bool) : ∀ (b : List It1) (lo : Nat) (N : List Nd) (W : Wt) (w : Str) (os : List Nat) (T : List Nat), b ≠ [] → Stk okw lo b → N.length = lo →
    rrun okw ⟨N, W ++ [(w, os)], false⟩ (cutGo [] (joinC (b.map (·.1)) ++ 41 :: T)) = rrun okw ⟨N ++ flat b, W ++ [(w, os ++ rootsL lo b)], true⟩ ([41] :: cutGo [] T)
  | [], _, _, _, _, _, _, h, _, _ => absurd rfl h
  | [(t, ns)], lo, N, W, w, os, T, _, hs, hN => by
    show rrun okw _ (cutGo [] (t ++ 41 :: T)) = _
    rw [cut_at (.inr rfl), rrun_append, hs.1.2 N _ hN, addTop_snoc]
    show rrun okw ⟨N ++ ns, _, true⟩ _ = rrun okw ⟨N ++ flat [(t, ns)], _, true⟩ _
    rw [show flat [(t, ns)] = ns by simp [flat]]
    rfl
  | (t, ns) :: (t2, ns2) :: b, lo, N, W, w, os, T, _, hs, hN => by
    show rrun okw _ (cutGo [] ((t ++ 44 :: joinC (((t2, ns2) :: b).map (·.1))) ++ 41 :: T)) = _
    rw [List.append_assoc, List.cons_append, cut_at (.inl rfl), rrun_append, hs.1.2 N _ hN, addTop_snoc]
    show rrun okw ⟨N ++ ns, W ++ [(w, os ++ [lo + ns.length - 1])], true⟩ ([44] :: cutGo [] _) = _
    rw [rrun]
    have e : rstep okw ⟨N ++ ns, W ++ [(w, os ++ [lo + ns.length - 1])], true⟩ [44] = some ⟨N ++ ns, W ++ [(w, os ++ [lo + ns.length - 1])], false⟩ := by
      unfold rstep
      rw [if_pos rfl, if_neg (by simp)]
    rw [e]
    show rrun okw ⟨N ++ ns, W ++ [(w, os ++ [lo + ns.length - 1])], false⟩ _ = _
    rw [args_run okw ((t2, ns2) :: b) (lo + ns.length) (N ++ ns) W w _ T (by simp) hs.2 (by rw [List.length_append, hN])]
    rw [List.append_assoc, List.append_assoc, show flat ((t, ns) :: (t2, ns2) :: b) = ns ++ flat ((t2, ns2) :: b) by simp [flat]]
    rfl
theorem open_step (okw : Str → Bool) (N : List Nd) (W : Wt) (w : List Nat) (hw : plainL w) : rstep okw ⟨N, W, false⟩ (w ++ [40]) = some ⟨N, W ++ [(ofL w, [])], false⟩ := by
  unfold rstep
  rw [if_neg (fun h => by have := congrArg List.getLast? h; simp at this), if_neg (fun h => by have := congrArg List.getLast? h; simp at this), if_neg (by simp), if_pos (by simp), List.dropLast_concat]
theorem close_step (okw : Str → Bool) (N : List Nd) (W : Wt) (w : Str) (os : List Nat) (b : Bool) (nd : Nd) (hb : os = [] ∨ b = true) (ho : oper okw w os = some nd) : rstep okw ⟨N, W ++ [(w, os)], b⟩ [41] = some ⟨N ++ [nd], addTop W N.length, true⟩ := by
  unfold rstep
  rw [if_neg (by simp), if_pos rfl]
  show (match (W ++ [(w, os)]).getLast? with | none => none | some (w, os) => _) = _
  rw [List.getLast?_concat]
  show (if os ≠ [] ∧ b = false then none else _) = _
  rw [if_neg (by rcases hb with h | h <;> simp [h]), ho, List.dropLast_concat]
/-- an operation with its operands -/
theorem good_op {okw : Str → Bool} {lo : Nat} {b : List It1} {w : List Nat} {nd : Nd} (hs : Stk okw lo b) (hw : plainL w) (ho : oper okw (ofL w) (rootsL lo b) = some nd) :
    GoodE okw (w ++ 40 :: joinC (b.map (·.1)) ++ [41]) lo (flat b ++ [nd]) := by
  refine ⟨by simp, fun N W hN => ?_⟩
  rw [List.append_assoc, List.cons_append, cut_open hw, rrun, open_step okw N W w hw]
  show rrun okw ⟨N, W ++ [(ofL w, [])], false⟩ _ = _
  cases b with
  | nil =>
    show rrun okw _ (cutGo [] [41]) = _
    rw [show cutGo [] [41] = [[41]] by rfl, rrun, close_step okw N W (ofL w) [] false nd (.inl rfl) ho]
    show some (Rd.mk (N ++ [nd]) (addTop W N.length) true) = some (Rd.mk (N ++ ([] ++ [nd])) (addTop W (lo + ([] ++ [nd]).length - 1)) true)
    rw [hN]
    rfl
  | cons i r =>
    rw [args_run okw (i :: r) lo N W (ofL w) [] [] (by simp) hs hN, rrun, List.nil_append, close_step okw _ W (ofL w) _ true nd (.inr rfl) ho]
    show some (Rd.mk (N ++ flat (i :: r) ++ [nd]) (addTop W (N ++ flat (i :: r)).length) true) = _
    rw [List.append_assoc, List.length_append, hN, List.length_append]
    rfl
theorem good_name {okw : Str → Bool} {lo : Nat} {w : List Nat} (hw : plainL w) (h0 : w ≠ []) (hk : okw (ofL w) = true) : GoodE okw w lo [.name (ofL w)] := by
  refine ⟨by simp, fun N W hN => ?_⟩
  rw [cut_word hw h0, rrun]
  have hl : w.getLast? ≠ some 40 := fun e => (hw 40 (List.mem_of_getLast? e)).1 rfl
  have e : rstep okw ⟨N, W, false⟩ w = some ⟨N ++ [.name (ofL w)], addTop W N.length, true⟩ := by
    unfold rstep
    rw [if_neg (fun h => (hw 44 (by rw [h]; simp)).2.2 rfl), if_neg (fun h => (hw 41 (by rw [h]; simp)).2.1 rfl), if_neg (by simp), if_neg hl, if_pos hk]
  rw [e]
  show some (Rd.mk _ (addTop W N.length) true) = _
  rw [hN]
  rfl
theorem cut_count : ∀ (t p : List Nat), (cutGo p t).length ≤ 2 * t.length + 1
  | [], p => by
    rw [cutGo_nil]
    split <;> simp
  | c :: t, p => by
    rw [cutGo_cons]
    have h1 := cut_count t []
    have h2 := cut_count t (p ++ [c])
    rw [List.length_cons]
    split
    · rw [List.length_cons]
      omega
    · split
      · rw [List.length_append, List.length_cons]
        split
        · rw [List.length_nil]
          omega
        · rw [List.length_singleton]
          omega
      · omega
theorem cut_mem : ∀ (t p : List Nat), ∀ x ∈ cutGo p t, x ≠ [] ∧ x.length ≤ p.length + t.length
  | [], p, x, hx => by
    rw [cutGo_nil] at hx
    split at hx
    · cases hx
    · rename_i h
      rw [List.mem_singleton.mp hx]
      exact ⟨h, by omega⟩
  | c :: t, p, x, hx => by
    rw [cutGo_cons] at hx
    rw [List.length_cons]
    have i1 := cut_mem t []
    have i2 := cut_mem t (p ++ [c])
    split at hx
    · rcases List.mem_cons.mp hx with h | h
      · rw [h]
        exact ⟨by simp, by rw [List.length_append, List.length_singleton]; omega⟩
      · have := i1 x h
        exact ⟨this.1, by have := this.2; simp at this; omega⟩
    · split at hx
      · rcases List.mem_append.mp hx with h | h
        · split at h
          · cases h
          · rename_i h0
            rw [List.mem_singleton.mp h]
            exact ⟨h0, by omega⟩
        · rcases List.mem_cons.mp h with h | h
          · rw [h]
            exact ⟨by simp, by rw [List.length_singleton]; omega⟩
          · have := i1 x h
            exact ⟨this.1, by have := this.2; simp at this; omega⟩
      · have := i2 x hx
        exact ⟨this.1, by have := this.2; rw [List.length_append, List.length_singleton] at this; omega⟩
theorem last_at {α : Type} {l : List α} {c : α} (h : l.getLast? = some c) : atI l (-1) = some c := by
  have h0 : l ≠ [] := fun e => by rw [e] at h; cases h
  have hp : 0 < l.length := List.length_pos_iff.mpr h0
  unfold atI
  have e : ixN l.length (-1) = some (l.length - 1) := by
    unfold ixN
    rw [if_neg (by decide), if_pos (by omega)]
    congr 1
    omega
  rw [e]
  show l[l.length - 1]? = some c
  rw [← List.getLast?_eq_getElem?]
  exact h
theorem cut_last (l : List Nat) : cutS (ofL l) none (some (-1)) = ofL l.dropLast := by
  have hl : (ofL l).length = l.length := by rw [len_tl, tl_ofL]
  unfold cutS
  rw [HT.sIx_none, hl, show HT.sIx l.length l.length (some (-1)) = l.length - 1 by show (if (-1 : Int) < 0 then (-1 + (l.length : Int)).toNat else min (-1 : Int).toNat l.length) = _; rw [if_pos (by decide)]; omega, List.drop_zero, Nat.sub_zero]
  have e : (ofL l).cps.toList = l := tl_ofL l
  rw [e, ← List.dropLast_eq_take]
  rfl
/-- two lists, part by part -/
inductive Al2 {α β : Type} (R : α → β → Prop) : List α → List β → Prop
  | nil : Al2 R [] []
  | cons {a : α} {b : β} {as : List α} {bs : List β} : R a b → Al2 R as bs → Al2 R (a :: as) (b :: bs)
theorem Al2.imp {α β : Type} {R S : α → β → Prop} {as : List α} {bs : List β} (h : Al2 R as bs) (k : ∀ a b, R a b → S a b) : Al2 S as bs := by
  induction h with
  | nil => exact .nil
  | cons h _ ih => exact .cons (k _ _ h) ih
theorem Al2.snoc {α β : Type} {R : α → β → Prop} {as : List α} {bs : List β} {a : α} {b : β} (h : Al2 R as bs) (k : R a b) : Al2 R (as ++ [a]) (bs ++ [b]) := by
  induction h with
  | nil => exact .cons k .nil
  | cons h _ ih => exact .cons h ih
theorem Al2.len {α β : Type} {R : α → β → Prop} {as : List α} {bs : List β} (h : Al2 R as bs) : as.length = bs.length := by
  induction h with
  | nil => rfl
  | cons _ _ ih => rw [List.length_cons, List.length_cons, ih]
theorem Al2.get {α β : Type} {R : α → β → Prop} {as : List α} {bs : List β} (h : Al2 R as bs) : ∀ (i : Nat) (a : α), as[i]? = some a → ∃ b, bs[i]? = some b ∧ R a b := by
  induction h with
  | nil =>
    intro i a h
    cases h
  | cons h _ ih =>
    intro i a e
    cases i with
    | zero =>
      cases e
      exact ⟨_, rfl, h⟩
    | succ i => exact ih i a e
theorem Al2.unsnoc {α β : Type} {R : α → β → Prop} {as : List α} {bs : List β} {b : β} (h : Al2 R as (bs ++ [b])) : ∃ as' a, as = as' ++ [a] ∧ Al2 R as' bs ∧ R a b := by
  induction bs generalizing as with
  | nil =>
    cases h with
    | cons h1 h2 =>
      cases h2
      exact ⟨[], _, rfl, .nil, h1⟩
  | cons c bs ih =>
    cases h with
    | cons h1 h2 =>
      obtain ⟨as', a, rfl, h3, h4⟩ := ih h2
      exact ⟨_ :: as', a, rfl, .cons h1 h3, h4⟩
theorem rstep_comma {okw : Str → Bool} {s s' : Rd} (h : rstep okw s [44] = some s') : s.W ≠ [] ∧ s.b = true ∧ s' = ⟨s.N, s.W, false⟩ := by
  unfold rstep at h
  rw [if_pos rfl] at h
  by_cases e : s.W = [] ∨ s.b = false
  · rw [if_pos e] at h
    cases h
  · rw [if_neg e] at h
    exact ⟨fun z => e (.inl z), by cases hb : s.b <;> simp_all, (Option.some.inj h).symm⟩
theorem rstep_close {okw : Str → Bool} {s s' : Rd} (h : rstep okw s [41] = some s') : ∃ W w os nd, s.W = W ++ [(w, os)] ∧ (os = [] ∨ s.b = true) ∧ oper okw w os = some nd ∧ s' = ⟨s.N ++ [nd], addTop W s.N.length, true⟩ := by
  unfold rstep at h
  rw [if_neg (by simp), if_pos rfl] at h
  rcases List.eq_nil_or_concat s.W with e | ⟨W, ⟨w, os⟩, e⟩
  · rw [e] at h
    cases h
  · rw [List.concat_eq_append] at e
    rw [e, List.getLast?_concat, List.dropLast_concat] at h
    have h : (if os ≠ [] ∧ s.b = false then none else match oper okw w os with | none => none | some nd => some (Rd.mk (s.N ++ [nd]) (addTop W s.N.length) true)) = some s' := h
    by_cases e2 : os ≠ [] ∧ s.b = false
    · rw [if_pos e2] at h
      cases h
    · rw [if_neg e2] at h
      cases ho : oper okw w os with
      | none =>
        rw [ho] at h
        cases h
      | some nd =>
        rw [ho] at h
        refine ⟨W, w, os, nd, e, ?_, ho, (Option.some.inj h).symm⟩
        cases os with
        | nil => exact .inl rfl
        | cons a r =>
          refine .inr ?_
          cases hb : s.b with
          | true => rfl
          | false => exact absurd ⟨by simp, hb⟩ e2
theorem rstep_else {okw : Str → Bool} {s s' : Rd} {p : List Nat} (h1 : p ≠ [44]) (h2 : p ≠ [41]) (h : rstep okw s p = some s') : s.b = false ∧
    ((p.getLast? = some 40 ∧ s' = ⟨s.N, s.W ++ [(ofL p.dropLast, [])], false⟩) ∨ (p.getLast? ≠ some 40 ∧ okw (ofL p) = true ∧ s' = ⟨s.N ++ [.name (ofL p)], addTop s.W s.N.length, true⟩)) := by
  unfold rstep at h
  rw [if_neg h1, if_neg h2] at h
  cases hb : s.b with
  | true =>
    rw [hb, if_pos rfl] at h
    cases h
  | false =>
    rw [hb, if_neg (by simp)] at h
    refine ⟨rfl, ?_⟩
    by_cases e : p.getLast? = some 40
    · rw [if_pos e] at h
      exact .inl ⟨e, (Option.some.inj h).symm⟩
    · rw [if_neg e] at h
      by_cases e2 : okw (ofL p) = true
      · rw [if_pos e2] at h
        exact .inr ⟨e, e2, (Option.some.inj h).symm⟩
      · rw [if_neg e2] at h
        cases h
/-! ### what the machine's nodes are -/
def opsOf : Nd → List Nat
  | .name _ => []
  | .call _ os => os
  | .op _ os => os
def WfNd : Nd → Prop
  | .name _ => True
  | .call _ os => os.length ≤ 4
  | .op w os => opsT.lookup w = some (os.length : Int)
def WfN (N : List Nd) : Prop := ∀ j nd, N[j]? = some nd → WfNd nd ∧ ∀ n ∈ opsOf nd, n < j
structure WfR (s : Rd) : Prop where
  wn : WfN s.N
  ww : ∀ y ∈ s.W, ∀ n ∈ y.2, n < s.N.length
theorem wfN_snoc {N : List Nd} {nd : Nd} (h : WfN N) (h1 : WfNd nd) (h2 : ∀ n ∈ opsOf nd, n < N.length) : WfN (N ++ [nd]) := by
  intro j d hj
  by_cases e : j < N.length
  · rw [List.getElem?_append_left e] at hj
    exact h j d hj
  · rw [List.getElem?_append_right (by omega)] at hj
    obtain ⟨h3, h4⟩ := List.getElem?_eq_some_iff.mp hj
    rw [List.length_singleton] at h3
    have e2 : j = N.length := by omega
    subst e2
    simp at h4
    subst h4
    exact ⟨h1, h2⟩
theorem oper_wf {okw : Str → Bool} {w : Str} {os : List Nat} {nd : Nd} (h : oper okw w os = some nd) : WfNd nd ∧ opsOf nd = os := by
  cases hl : opsT.lookup w with
  | some n =>
    rw [oper_at hl] at h
    obtain ⟨e, rfl⟩ := some_if h
    exact ⟨by show opsT.lookup w = some _; rw [hl, e], rfl⟩
  | none =>
    rw [oper_no hl] at h
    obtain ⟨e, rfl⟩ := some_if h
    exact ⟨e.2, rfl⟩
theorem addTop_wf {W : Wt} {n m : Nat} (h : ∀ y ∈ W, ∀ k ∈ y.2, k < n) (hn : n < m) : ∀ y ∈ addTop W n, ∀ k ∈ y.2, k < m := by
  rcases List.eq_nil_or_concat W with e | ⟨V, ⟨w, os⟩, e⟩
  · rw [e]
    intro y hy
    cases hy
  · rw [List.concat_eq_append] at e
    subst e
    rw [addTop_snoc]
    intro y hy k hk
    rcases List.mem_append.mp hy with h1 | h1
    · have := h y (List.mem_append_left _ h1) k hk
      omega
    · rw [List.mem_singleton.mp h1] at hk
      rcases List.mem_append.mp hk with h2 | h2
      · have := h (w, os) (by simp) k h2
        omega
      · rw [List.mem_singleton.mp h2]
        exact hn
theorem rstep_wf {okw : Str → Bool} {s s' : Rd} {p : List Nat} (R : WfR s) (h : rstep okw s p = some s') : WfR s' := by
  by_cases e1 : p = [44]
  · subst e1
    obtain ⟨_, _, rfl⟩ := rstep_comma h
    exact ⟨R.wn, R.ww⟩
  · by_cases e2 : p = [41]
    · subst e2
      obtain ⟨W, w, os, nd, hW, _, hop, rfl⟩ := rstep_close h
      obtain ⟨h1, h2⟩ := oper_wf hop
      refine ⟨wfN_snoc R.wn h1 (by rw [h2]; exact R.ww (w, os) (by rw [hW]; simp)), ?_⟩
      exact addTop_wf (fun y hy => R.ww y (by rw [hW]; exact List.mem_append_left _ hy)) (by rw [List.length_append, List.length_singleton]; omega)
    · obtain ⟨_, ⟨_, rfl⟩ | ⟨_, _, rfl⟩⟩ := rstep_else e1 e2 h
      · refine ⟨R.wn, fun y hy => ?_⟩
        rcases List.mem_append.mp hy with h1 | h1
        · exact R.ww y h1
        · rw [List.mem_singleton.mp h1]
          intro n hn
          cases hn
      · exact ⟨wfN_snoc R.wn trivial (fun n hn => by cases hn), addTop_wf R.ww (by rw [List.length_append, List.length_singleton]; omega)⟩
theorem rrun_wf {okw : Str → Bool} : ∀ {ps : List (List Nat)} {s s' : Rd}, WfR s → rrun okw s ps = some s' → WfR s'
  | [], s, s', R, h => by
    obtain rfl := Option.some.inj h
    exact R
  | p :: ps, s, s', R, h => by
    rw [rrun] at h
    obtain ⟨t, h1, h2⟩ := Option.bind_eq_some_iff.mp h
    exact rrun_wf (rstep_wf R h1) h2
/-- the lowest nodes of the ranges -/
def fstOf (fs : List Nat) (nd : Nd) : Nat := match opsOf nd with
  | [] => fs.length
  | n :: _ => fs.getD n 0
def firstsL (ns : List Nd) : List Nat := ns.foldl (fun fs nd => fs ++ [fstOf fs nd]) []
theorem firstsL_snoc (ns : List Nd) (nd : Nd) : firstsL (ns ++ [nd]) = firstsL ns ++ [fstOf (firstsL ns) nd] := by
  unfold firstsL
  rw [List.foldl_append]
  rfl
theorem firstsL_len (ns : List Nd) : (firstsL ns).length = ns.length := by
  rcases List.eq_nil_or_concat ns with e | ⟨r, d, e⟩
  · rw [e]; rfl
  · rw [List.concat_eq_append] at e
    subst e
    rw [firstsL_snoc, List.length_append, List.length_append, firstsL_len r]
    rfl
termination_by ns.length
decreasing_by simp_all
/-- their words -/
def WkNd (okw : Str → Bool) : Nd → Prop
  | .name w => okw w = true
  | .call w _ => okw w = true
  | .op _ _ => True
theorem oper_wk {okw : Str → Bool} {w : Str} {os : List Nat} {nd : Nd} (h : oper okw w os = some nd) : WkNd okw nd := by
  cases hl : opsT.lookup w with
  | some n =>
    rw [oper_at hl] at h
    obtain ⟨e, rfl⟩ := some_if h
    trivial
  | none =>
    rw [oper_no hl] at h
    obtain ⟨e, rfl⟩ := some_if h
    exact e.1
theorem rstep_wk {okw : Str → Bool} {s s' : Rd} {p : List Nat} (R : ∀ nd ∈ s.N, WkNd okw nd) (h : rstep okw s p = some s') : ∀ nd ∈ s'.N, WkNd okw nd := by
  have snoc : ∀ {nd : Nd}, WkNd okw nd → ∀ d ∈ s.N ++ [nd], WkNd okw d := fun {nd} h d hd => by
    rcases List.mem_append.mp hd with h1 | h1
    · exact R d h1
    · rw [List.mem_singleton.mp h1]
      exact h
  by_cases e1 : p = [44]
  · subst e1
    obtain ⟨_, _, rfl⟩ := rstep_comma h
    exact R
  · by_cases e2 : p = [41]
    · subst e2
      obtain ⟨W, w, os, nd, hW, _, hop, rfl⟩ := rstep_close h
      exact snoc (oper_wk hop)
    · obtain ⟨_, ⟨_, rfl⟩ | ⟨_, hk, rfl⟩⟩ := rstep_else e1 e2 h
      · exact R
      · exact snoc hk
theorem rrun_wk {okw : Str → Bool} : ∀ {ps : List (List Nat)} {s s' : Rd}, (∀ nd ∈ s.N, WkNd okw nd) → rrun okw s ps = some s' → ∀ nd ∈ s'.N, WkNd okw nd
  | [], s, s', R, h => by
    obtain rfl := Option.some.inj h
    exact R
  | p :: ps, s, s', R, h => by
    rw [rrun] at h
    obtain ⟨t, h1, h2⟩ := Option.bind_eq_some_iff.mp h
    exact rrun_wk (rstep_wk R h1) h2
/-- a whole text -/
theorem good_run {okw : Str → Bool} {t : List Nat} {ns : List Nd} (g : GoodE okw t 0 ns) : rrun okw ⟨[], [], false⟩ (cutGo [] t) = some ⟨ns, [], true⟩ := by
  have h := g.2 [] [] rfl
  rw [List.nil_append] at h
  exact h
theorem good_wf {okw : Str → Bool} {t : List Nat} {ns : List Nd} (g : GoodE okw t 0 ns) : WfN ns ∧ ∀ nd ∈ ns, WkNd okw nd :=
  ⟨(rrun_wf (s := ⟨[], [], false⟩) ⟨(fun j nd h => by cases h), (fun y hy => by cases hy)⟩ (good_run g)).wn, rrun_wk (s := ⟨[], [], false⟩) (fun nd h => by cases h) (good_run g)⟩
end UL

set_option Elab.async false
set_option linter.all false
set_option maxRecDepth 100000
/-! own: the nodes of an expression as a forest: ranges, and what lies below a node -/
namespace UL
open PySem PySem.Spec PyProof.Rows L2 Evl TL

/-- the nodes so far, the roots that no node has as an operand yet -/
inductive Forest : List Nd → List Nat → Prop
  | nil : Forest [] []
  | node {N : List Nd} {r : List Nat} {nd : Nd} : Forest N (r ++ opsOf nd) → Forest (N ++ [nd]) (r ++ [N.length])
def stkOf (s : Rd) : List Nat := s.W.flatMap (·.2) ++ (if s.W = [] ∧ s.b = true then [s.N.length - 1] else [])
theorem addTop_flat {W : Wt} {n : Nat} (h : W ≠ []) : (addTop W n).flatMap (·.2) = W.flatMap (·.2) ++ [n] ∧ addTop W n ≠ [] := by
  rcases List.eq_nil_or_concat W with e | ⟨V, ⟨w, os⟩, e⟩
  · exact absurd e h
  · rw [List.concat_eq_append] at e
    subst e
    rw [addTop_snoc]
    simp
theorem stk_add {N : List Nd} {W : Wt} {nd : Nd} : stkOf ⟨N ++ [nd], addTop W N.length, true⟩ = W.flatMap (·.2) ++ [N.length] := by
  unfold stkOf
  by_cases h : W = []
  · subst h
    simp [addTop_nil]
  · obtain ⟨h1, h2⟩ := addTop_flat (n := N.length) h
    show (addTop W N.length).flatMap (·.2) ++ (if addTop W N.length = [] ∧ true = true then _ else _) = _
    rw [h1, if_neg (fun z => h2 z.1), List.append_nil]
theorem rstep_forest {okw : Str → Bool} {s s' : Rd} {p : List Nat} (F : Forest s.N (stkOf s)) (h : rstep okw s p = some s') : Forest s'.N (stkOf s') := by
  by_cases e1 : p = [44]
  · subst e1
    obtain ⟨h1, _, rfl⟩ := rstep_comma h
    have : stkOf ⟨s.N, s.W, false⟩ = stkOf s := by
      unfold stkOf
      rw [if_neg (fun z => h1 z.1), if_neg (fun z => h1 z.1)]
    rw [this]
    exact F
  · by_cases e2 : p = [41]
    · subst e2
      obtain ⟨W, w, os, nd, hW, _, hop, rfl⟩ := rstep_close h
      rw [stk_add]
      refine Forest.node ?_
      rw [(oper_wf hop).2]
      have e : stkOf s = W.flatMap (·.2) ++ os := by
        unfold stkOf
        rw [hW, if_neg (fun z => by simp at z)]
        simp
      rw [← e]
      exact F
    · obtain ⟨hb, ⟨_, rfl⟩ | ⟨_, _, rfl⟩⟩ := rstep_else e1 e2 h
      · have e : stkOf ⟨s.N, s.W ++ [(ofL p.dropLast, [])], false⟩ = stkOf s := by
          unfold stkOf
          rw [if_neg (fun z => by simp at z), if_neg (fun z => by rw [hb] at z; simp at z)]
          simp
        rw [e]
        exact F
      · rw [stk_add]
        refine Forest.node ?_
        have e : stkOf s = s.W.flatMap (·.2) ++ opsOf (.name (ofL p)) := by
          unfold stkOf
          rw [if_neg (fun z => by rw [hb] at z; simp at z)]
          rfl
        rw [← e]
        exact F
theorem rrun_forest {okw : Str → Bool} : ∀ {ps : List (List Nat)} {s s' : Rd}, Forest s.N (stkOf s) → rrun okw s ps = some s' → Forest s'.N (stkOf s')
  | [], s, s', R, h => by
    obtain rfl := Option.some.inj h
    exact R
  | p :: ps, s, s', R, h => by
    rw [rrun] at h
    obtain ⟨t, h1, h2⟩ := Option.bind_eq_some_iff.mp h
    exact rrun_forest (rstep_forest R h1) h2
theorem good_forest {okw : Str → Bool} {t : List Nat} {ns : List Nd} (g : GoodE okw t 0 ns) : Forest ns [ns.length - 1] :=
  rrun_forest (s := ⟨[], [], false⟩) (by unfold stkOf; simp; exact .nil) (good_run g)

/-! ### ranges -/
def fst (N : List Nd) (i : Nat) : Nat := (firstsL N).getD i 0
theorem fst_old {N : List Nd} {nd : Nd} {i : Nat} (h : i < N.length) : fst (N ++ [nd]) i = fst N i := by
  unfold fst
  rw [firstsL_snoc, List.getD_eq_getElem?_getD, List.getD_eq_getElem?_getD, List.getElem?_append_left (by rw [firstsL_len]; exact h)]
theorem fst_new {N : List Nd} {nd : Nd} : fst (N ++ [nd]) N.length = match opsOf nd with | [] => N.length | n :: _ => fst N n := by
  unfold fst
  rw [firstsL_snoc, List.getD_eq_getElem?_getD, List.getElem?_append_right (by rw [firstsL_len]; exact Nat.le_refl _), firstsL_len, Nat.sub_self]
  show fstOf (firstsL N) nd = _
  unfold fstOf
  cases opsOf nd with
  | nil => exact firstsL_len N
  | cons n r => rfl
/-- the ranges of these roots lie side by side from lo to hi -/
def Part (f : Nat → Nat) : Nat → List Nat → Nat → Prop
  | lo, [], hi => lo = hi
  | lo, r :: rs, hi => f r = lo ∧ lo ≤ r ∧ Part f (r + 1) rs hi
theorem part_append (f : Nat → Nat) : ∀ (a b : List Nat) (lo hi : Nat), Part f lo (a ++ b) hi ↔ ∃ m, Part f lo a m ∧ Part f m b hi
  | [], b, lo, hi => ⟨fun h => ⟨lo, rfl, h⟩, fun ⟨m, h1, h2⟩ => by have h1 : lo = m := h1; subst h1; exact h2⟩
  | r :: a, b, lo, hi => by
    constructor
    · rintro ⟨h1, h2, h3⟩
      obtain ⟨m, h4, h5⟩ := (part_append f a b _ hi).mp h3
      exact ⟨m, ⟨h1, h2, h4⟩, h5⟩
    · rintro ⟨m, ⟨h1, h2, h4⟩, h5⟩
      exact ⟨h1, h2, (part_append f a b _ hi).mpr ⟨m, h4, h5⟩⟩
theorem part_le {f : Nat → Nat} : ∀ {a : List Nat} {lo hi : Nat}, Part f lo a hi → lo ≤ hi
  | [], lo, hi, h => Nat.le_of_eq h
  | r :: a, lo, hi, ⟨_, h2, h3⟩ => by have := part_le h3; omega
theorem part_mem {f : Nat → Nat} : ∀ {a : List Nat} {lo hi : Nat}, Part f lo a hi → ∀ r ∈ a, lo ≤ f r ∧ f r ≤ r ∧ r < hi
  | [], _, _, _, r, hr => by cases hr
  | q :: a, lo, hi, ⟨h1, h2, h3⟩, r, hr => by
    rcases List.mem_cons.mp hr with e | hr
    · subst e
      have := part_le h3
      omega
    · have := part_mem h3 r hr
      omega
theorem part_cover {f : Nat → Nat} : ∀ {a : List Nat} {lo hi : Nat}, Part f lo a hi → ∀ i, lo ≤ i → i < hi → ∃ r ∈ a, f r ≤ i ∧ i ≤ r
  | [], lo, hi, h, i, h1, h2 => by have h : lo = hi := h; omega
  | q :: a, lo, hi, ⟨h1, h2, h3⟩, i, h4, h5 => by
    by_cases e : i ≤ q
    · exact ⟨q, List.mem_cons_self, by omega, e⟩
    · obtain ⟨r, hr, h6⟩ := part_cover h3 i (by omega) h5
      exact ⟨r, List.mem_cons_of_mem _ hr, h6⟩
theorem part_congr {f g : Nat → Nat} : ∀ {a : List Nat} {lo hi : Nat}, (∀ r ∈ a, f r = g r) → Part f lo a hi → Part g lo a hi
  | [], _, _, _, h => h
  | r :: a, _, _, e, ⟨h1, h2, h3⟩ => ⟨(e r List.mem_cons_self).symm.trans h1, h2, part_congr (fun q hq => e q (List.mem_cons_of_mem _ hq)) h3⟩
/-! ### going up -/
def parF (N : List Nd) (i : Nat) : Option Nat := (List.range N.length).foldl (fun o j => match N[j]? with | some nd => if i ∈ opsOf nd then some j else o | none => o) none
theorem parF_snoc (N : List Nd) (nd : Nd) (i : Nat) : parF (N ++ [nd]) i = if i ∈ opsOf nd then some N.length else parF N i := by
  unfold parF
  rw [List.length_append, List.length_singleton, List.range_succ, List.foldl_append]
  have e : ∀ (l : List Nat) (o : Option Nat), (∀ j ∈ l, j < N.length) → l.foldl (fun o j => match (N ++ [nd])[j]? with | some nd => if i ∈ opsOf nd then some j else o | none => o) o = l.foldl (fun o j => match N[j]? with | some nd => if i ∈ opsOf nd then some j else o | none => o) o := by
    intro l
    induction l with
    | nil => intro o _; rfl
    | cons j l ih =>
      intro o hj
      rw [List.foldl_cons, List.foldl_cons, List.getElem?_append_left (hj j List.mem_cons_self)]
      exact ih _ fun q hq => hj q (List.mem_cons_of_mem _ hq)
  rw [e _ _ fun j hj => List.mem_range.mp hj, List.foldl_cons, List.foldl_nil, List.getElem?_append_right (Nat.le_refl _), Nat.sub_self]
  rfl
inductive Anc (p : Nat → Option Nat) : Nat → Nat → Prop
  | refl (i : Nat) : Anc p i i
  | step {i j k : Nat} : p i = some j → Anc p j k → Anc p i k
structure ForOk (N : List Nd) (st : List Nat) : Prop where
  part : Part (fst N) 0 st N.length
  root : ∀ r ∈ st, parF N r = none
  up : ∀ i j, parF N i = some j → i < j ∧ j < N.length
  anc : ∀ i at_, i < N.length → at_ < N.length → (Anc (parF N) i at_ ↔ fst N at_ ≤ i ∧ i ≤ at_)
  le : ∀ at_, at_ < N.length → fst N at_ ≤ at_
theorem forest_ok {N : List Nd} {st : List Nat} (F : Forest N st) : ForOk N st := by
  induction F with
  | nil => exact ⟨rfl, (fun r h => by cases h), (fun i j h => by cases h), (fun i a h => by cases h), (fun a h => by cases h)⟩
  | @node N r nd F ih =>
    obtain ⟨part, root, up, anc, le⟩ := ih
    obtain ⟨m, pr, po⟩ := (part_append _ _ _ _ _).mp part
    have hps : ∀ i, parF (N ++ [nd]) i = if i ∈ opsOf nd then some N.length else parF N i := parF_snoc N nd
    have hlen : (N ++ [nd]).length = N.length + 1 := by rw [List.length_append, List.length_singleton]
    have hos : ∀ o ∈ opsOf nd, m ≤ fst N o ∧ fst N o ≤ o ∧ o < N.length := part_mem po
    have hrs : ∀ q ∈ r, q < m := fun q hq => (part_mem pr q hq).2.2
    have hm : m ≤ N.length := part_le po
    have fnew : fst (N ++ [nd]) N.length = m ∧ m ≤ N.length := by
      refine ⟨?_, hm⟩
      rw [fst_new]
      cases ho : opsOf nd with
      | nil =>
        rw [ho] at po
        exact (show m = N.length from po).symm
      | cons o os =>
        rw [ho] at po
        exact po.1
    have old1 : ∀ i at_, i < N.length → at_ < N.length → (Anc (parF (N ++ [nd])) i at_ ↔ Anc (parF N) i at_) := by
      intro i at_ hi ha
      constructor
      · intro h
        have gen : ∀ {x y : Nat}, Anc (parF (N ++ [nd])) x y → y < N.length → x < N.length → Anc (parF N) x y := by
          intro x y hxy
          induction hxy with
          | refl => exact fun _ _ => .refl _
          | @step x j y hp hr ih2 =>
            intro hy hx
            rw [hps] at hp
            by_cases e : x ∈ opsOf nd
            · rw [if_pos e] at hp
              cases hp
              cases hr with
              | refl => omega
              | step hp2 _ =>
                rw [hps, if_neg (fun z => by have := (hos _ z).2.2; omega)] at hp2
                have := up _ _ hp2
                omega
            · rw [if_neg e] at hp
              exact .step hp (ih2 hy (up _ _ hp).2)
        exact gen h ha hi
      · intro h
        induction h with
        | refl => exact .refl _
        | @step x j y hp hr ih2 =>
          refine .step ?_ (ih2 (up _ _ hp).2 ha)
          rw [hps, if_neg (fun z => by rw [root x (List.mem_append_right _ z)] at hp; cases hp)]
          exact hp
    refine ⟨?_, ?_, ?_, ?_, ?_⟩
    · rw [hlen]
      refine (part_append _ _ _ _ _).mpr ⟨m, part_congr (fun q hq => (fst_old (by have := hrs q hq; omega)).symm) pr, fnew.1, fnew.2, rfl⟩
    · intro q hq
      rw [hps]
      rcases List.mem_append.mp hq with h | h
      · rw [if_neg (fun z => by have := hos q z; have := hrs q h; omega)]
        exact root q (List.mem_append_left _ h)
      · rw [List.mem_singleton.mp h, if_neg (fun z => by have := (hos _ z).2.2; omega)]
        cases e : parF N N.length with
        | none => rfl
        | some j => have := up _ _ e; omega
    · intro i j h
      rw [hps] at h
      rw [hlen]
      by_cases e : i ∈ opsOf nd
      · rw [if_pos e] at h
        cases h
        exact ⟨(hos i e).2.2, by omega⟩
      · rw [if_neg e] at h
        have := up i j h
        omega
    · intro i at_ hi ha
      rw [hlen] at hi ha
      by_cases e : at_ = N.length
      · subst e
        rw [fnew.1]
        by_cases e2 : i = N.length
        · subst e2
          exact ⟨fun _ => ⟨fnew.2, Nat.le_refl _⟩, fun _ => .refl _⟩
        · have hi' : i < N.length := by omega
          constructor
          · intro h
            refine ⟨?_, by omega⟩
            have gen : ∀ {x y : Nat}, Anc (parF (N ++ [nd])) x y → y = N.length → x < N.length → ∃ o ∈ opsOf nd, Anc (parF N) x o := by
              intro x y hxy
              induction hxy with
              | refl => intro h1 h2; omega
              | @step x j y hp hr ih2 =>
                intro hy hx
                rw [hps] at hp
                by_cases e : x ∈ opsOf nd
                · exact ⟨x, e, .refl _⟩
                · rw [if_neg e] at hp
                  obtain ⟨o, h1, h2⟩ := ih2 hy (up _ _ hp).2
                  exact ⟨o, h1, .step hp h2⟩
            obtain ⟨o, h1, h2⟩ := gen h rfl hi'
            have h3 := hos o h1
            have := (anc i o hi' h3.2.2).mp h2
            omega
          · rintro ⟨h1, _⟩
            obtain ⟨o, ho, h2, h3⟩ := part_cover po i h1 hi'
            have h4 := (anc i o hi' (hos o ho).2.2).mpr ⟨h2, h3⟩
            have h5 := (old1 i o hi' (hos o ho).2.2).mpr h4
            have tr : ∀ {x y z : Nat}, Anc (parF (N ++ [nd])) x y → Anc (parF (N ++ [nd])) y z → Anc (parF (N ++ [nd])) x z := by
              intro x y z h1 h2
              induction h1 with
              | refl => exact h2
              | step hp _ ih => exact .step hp (ih h2)
            exact tr h5 (.step (by rw [hps, if_pos ho]) (.refl _))
      · have ha' : at_ < N.length := by omega
        rw [fst_old ha']
        by_cases e2 : i = N.length
        · subst e2
          constructor
          · intro h
            cases h with
            | refl => exact absurd rfl e
            | step hp _ =>
              rw [hps, if_neg (fun z => by have := (hos _ z).2.2; omega)] at hp
              have := up _ _ hp
              omega
          · rintro ⟨_, h⟩
            omega
        · rw [old1 i at_ (by omega) ha']
          exact anc i at_ (by omega) ha'
    · intro a ha
      rw [hlen] at ha
      by_cases e : a = N.length
      · subst e
        rw [fnew.1]
        exact fnew.2
      · rw [fst_old (by omega)]
        exact le a (by omega)
/-- so many steps up -/
def upB (p : Nat → Option Nat) : Nat → Nat → Nat → Bool
  | 0, _, _ => false
  | k + 1, i, a => decide (i = a) || (match p i with | some j => upB p k j a | none => false)
theorem upB_anc {p : Nat → Option Nat} {n : Nat} (up : ∀ i j, p i = some j → i < j ∧ j < n) : ∀ (k i a : Nat), i < n → n ≤ k + i → (upB p k i a = true ↔ Anc p i a)
  | 0, i, a, hi, hk => by omega
  | k + 1, i, a, hi, hk => by
    rw [upB, Bool.or_eq_true, decide_eq_true_iff]
    constructor
    · rintro (h | h)
      · rw [h]
        exact .refl _
      · cases e : p i with
        | none => rw [e] at h; cases h
        | some j =>
          rw [e] at h
          have := up i j e
          exact .step e ((upB_anc up k j a this.2 (by omega)).mp h)
    · intro h
      cases h with
      | refl => exact .inl rfl
      | @step _ j _ hp hr =>
        right
        rw [hp]
        have := up i j hp
        exact (upB_anc up k j a this.2 (by omega)).mpr hr
end UL

set_option Elab.async false
set_option linter.all false
set_option maxRecDepth 100000
/-! own: o.m(e, ..) in a try, where it may let an error out -/
namespace UL
open PySem PySem.Spec PyProof.Rows L2 Evl TL
def tMethT (C : Addr) (m : Str) (sp : Sp) (E : L2.St → XK) (ta : TE) (t : TA) : TE := fun σ H Q => ta σ H fun x H1 => ∃ a dx fs, x = .ref a ∧ H1 a = some (.ins C dx fs) ∧ fs.lookup m = none ∧ t σ H1 fun vs H2 => sp (.ref a :: vs) H2 Q (E σ)
section
variable {X : Cx} {CX : CXT} {k : Nat} {f C : Addr} {fd : FuncData} {ps : List Str} {sp : Sp} {E : L2.St → XK} {m : Str} {pos apos : Pos} {e o : Expr} {es : List Expr} {ta : TE} {t : TA}
theorem pe_methT {pl : Sem Bool} (he : PE X o ta) (c : Cls X.K C) (hm : Meth X.K C m f) (F : FnOk X.prog X.w X.K X.mg X.base CX k f fd ps sp) (hr : Room k X.A) (hb : L2.Binds X.K fd ps []) (hx : ∀ σ, PassesAt CX X σ (E σ)) (ha : PA X (e :: es) t)
    (hst : starEach (e :: es) X.env = (false, eval e X.env) :: starEach es X.env := by rfl) (hpl : (backTo pos (starEach es X.env)).any (·.1) = false := by rfl)
    (ht : eval (.Call (.Attribute o m apos) (e :: es) [] pos) X.env = (do
      let ov ← eval o X.env
      standAt apos.atName
      let (f, first) ← holding [ov] (getMethod ov m pl)
      callWith pos f first (backTo pos (starEach (e :: es) X.env)) (backToKw pos (keywordEach [] X.env))) := by rfl) :
    PE X (.Call (.Attribute o m apos) (e :: es) [] pos) (tMethT C m sp E ta t) := by
  refine ⟨fun pins s σ H Q I h => ?_⟩
  refine PySem.W.methodCall_KW (pl := pl) (thn (he.run pins s σ H _ I h) fun u s1 ⟨x, H1, I1, rx, a, dx, fs, ex, ea, l, q⟩ => ?_) ht
  subst ex
  obtain rfl : u = Value.ref a := rx
  refine getmeth_ok I1 ea c hm l ?_
  refine PySem.W.callWith_K (first := [.ref a]) (h₀ := X.base) I.ok.mod.kin hm.kp (thn (ha.run pos pins s1 σ H1 _ I1 q) fun us s2 ⟨vs, H2, I2, r, q2⟩ => ⟨I2.kIn, ?_⟩) hst hpl
  exact run_fnS (us := .ref a :: us) (vs := .ref a :: vs) F hr hb (hx σ) I2 (.cons rfl r) q2
end
end UL

set_option Elab.async false
set_option linter.all false
set_option maxRecDepth 100000
/-! own: the text of the nodes -/
namespace UL
open PySem PySem.Spec PyProof.Rows L2 Evl TL

def ndT (f : Nat → List Nat) : Nd → List Nat
  | .name w => tl w
  | .call w os => tl w ++ 40 :: joinC (os.map f) ++ [41]
  | .op w os => tl w ++ 40 :: joinC (os.map f) ++ [41]
def txs (N : List Nd) : List (List Nat) := N.foldl (fun T nd => T ++ [ndT (fun i => T.getD i []) nd]) []
def tx (N : List Nd) (i : Nat) : List Nat := (txs N).getD i []
theorem txs_snoc (N : List Nd) (nd : Nd) : txs (N ++ [nd]) = txs N ++ [ndT (tx N) nd] := by
  unfold txs
  rw [List.foldl_append]
  rfl
theorem txs_len (N : List Nd) : (txs N).length = N.length := by
  have gen : ∀ (N : List Nd) (T : List (List Nat)), (N.foldl (fun T nd => T ++ [ndT (fun i => T.getD i []) nd]) T).length = T.length + N.length := by
    intro N
    induction N with
    | nil => intro T; rfl
    | cons nd r ih =>
      intro T
      rw [List.foldl_cons, ih, List.length_append, List.length_singleton, List.length_cons]
      omega
  have := gen N []
  rw [List.length_nil, Nat.zero_add] at this
  exact this
theorem tx_old {N : List Nd} {nd : Nd} {i : Nat} (h : i < N.length) : tx (N ++ [nd]) i = tx N i := by
  unfold tx
  rw [txs_snoc, List.getD_eq_getElem?_getD, List.getD_eq_getElem?_getD, List.getElem?_append_left (by rw [txs_len]; exact h)]
theorem tx_new {N : List Nd} {nd : Nd} : tx (N ++ [nd]) N.length = ndT (tx N) nd := by
  show (txs (N ++ [nd])).getD N.length [] = _
  rw [txs_snoc, List.getD_eq_getElem?_getD, List.getElem?_append_right (by rw [txs_len]; exact Nat.le_refl _), txs_len, Nat.sub_self]
  rfl
/-! ### what was read -/
theorem cut_flat : ∀ (t p : List Nat), (cutGo p t).flatten = p ++ t
  | [], p => by
    rw [cutGo_nil]
    by_cases h : p = []
    · rw [if_pos h, h]; rfl
    · rw [if_neg h]; simp
  | c :: r, p => by
    rw [cutGo_cons]
    by_cases h1 : c = 40
    · rw [if_pos h1, List.flatten_cons, cut_flat r []]
      simp
    · rw [if_neg h1]
      by_cases h2 : c = 44 ∨ c = 41
      · rw [if_pos h2, List.flatten_append, List.flatten_cons, cut_flat r []]
        by_cases h3 : p = []
        · rw [if_pos h3, h3]; simp
        · rw [if_neg h3]; simp
      · rw [if_neg h2, cut_flat r (p ++ [c])]
        simp
def midT (f : Nat → List Nat) (os : List Nat) : List Nat := os.flatMap fun o => f o ++ [44]
theorem joinC_snoc : ∀ (ts : List (List Nat)) (t : List Nat), joinC (ts ++ [t]) = (ts.flatMap fun u => u ++ [44]) ++ t
  | [], t => rfl
  | [u], t => by simp [joinC]
  | u :: v :: r, t => by
    have := joinC_snoc (v :: r) t
    show joinC (u :: v :: (r ++ [t])) = _
    rw [joinC]
    rw [show v :: (r ++ [t]) = (v :: r) ++ [t] from rfl, this, List.flatMap_cons]
    simp
theorem mid_join (f : Nat → List Nat) (os : List Nat) (o : Nat) : midT f os ++ f o = joinC ((os ++ [o]).map f) := by
  rw [List.map_append, List.map_singleton, joinC_snoc, List.flatMap_map]
  rfl
theorem join_mid (f : Nat → List Nat) {os : List Nat} (h : os ≠ []) : joinC (os.map f) ++ [44] = midT f os := by
  rcases List.eq_nil_or_concat os with e | ⟨q, o, e⟩
  · exact absurd e h
  · rw [List.concat_eq_append] at e
    subst e
    rw [← mid_join]
    unfold midT
    rw [List.flatMap_append]
    simp
def segT (f : Nat → List Nat) (V : Wt) : List Nat := V.flatMap fun y => tl y.1 ++ 40 :: midT f y.2
theorem segT_snoc (f : Nat → List Nat) (V : Wt) (w : Str) (os : List Nat) : segT f (V ++ [(w, os)]) = segT f V ++ (tl w ++ 40 :: midT f os) := by
  unfold segT
  rw [List.flatMap_append]
  simp
theorem midT_congr {f g : Nat → List Nat} {os : List Nat} (h : ∀ o ∈ os, f o = g o) : midT f os = midT g os := by
  unfold midT
  induction os with
  | nil => rfl
  | cons o r ih =>
    rw [List.flatMap_cons, List.flatMap_cons, h o List.mem_cons_self, ih fun q hq => h q (List.mem_cons_of_mem _ hq)]
theorem segT_congr {f g : Nat → List Nat} {V : Wt} (h : ∀ y ∈ V, ∀ o ∈ y.2, f o = g o) : segT f V = segT g V := by
  unfold segT
  induction V with
  | nil => rfl
  | cons y r ih =>
    rw [List.flatMap_cons, List.flatMap_cons, midT_congr (h y List.mem_cons_self), ih fun q hq => h q (List.mem_cons_of_mem _ hq)]
/-- the text that was read up to here -/
inductive SoFar : Rd → List Nat → Prop
  | start : SoFar ⟨[], [], false⟩ []
  | whole {N : List Nd} : SoFar ⟨N, [], true⟩ (tx N (N.length - 1))
  | open_ {N : List Nd} {V : Wt} {w : Str} {os : List Nat} : SoFar ⟨N, V ++ [(w, os)], false⟩ (segT (tx N) V ++ (tl w ++ 40 :: midT (tx N) os))
  | shut {N : List Nd} {V : Wt} {w : Str} {os : List Nat} (h : os ≠ []) : SoFar ⟨N, V ++ [(w, os)], true⟩ (segT (tx N) V ++ (tl w ++ 40 :: joinC (os.map (tx N))))
theorem sofar_add {N : List Nd} {V : Wt} {nd : Nd} (hw : ∀ y ∈ V, ∀ o ∈ y.2, o < N.length) : SoFar ⟨N ++ [nd], addTop V N.length, true⟩ (segT (tx N) V ++ ndT (tx N) nd) := by
  rcases List.eq_nil_or_concat V with e | ⟨U, ⟨w, os⟩, e⟩
  · subst e
    have h := SoFar.whole (N := N ++ [nd])
    rw [List.length_append, List.length_singleton, Nat.add_sub_cancel, tx_new] at h
    exact h
  · rw [List.concat_eq_append] at e
    subst e
    rw [addTop_snoc, segT_snoc]
    have h := SoFar.shut (N := N ++ [nd]) (V := U) (w := w) (os := os ++ [N.length]) (by simp)
    rw [← mid_join, tx_new, segT_congr (g := tx N) (fun y hy o ho => tx_old (hw y (List.mem_append_left _ hy) o ho)), midT_congr (g := tx N) (fun o ho => tx_old (hw (w, os) (by simp) o ho))] at h
    rw [List.append_assoc, List.append_assoc, List.cons_append]
    exact h
theorem oper_word {okw : Str → Bool} {w : Str} {os : List Nat} {nd : Nd} (h : oper okw w os = some nd) : nd = .call w os ∨ nd = .op w os := by
  cases hl : opsT.lookup w with
  | some n =>
    rw [oper_at hl] at h
    exact .inr (some_if h).2.symm
  | none =>
    rw [oper_no hl] at h
    exact .inl (some_if h).2.symm
theorem sofar_step {okw : Str → Bool} {s s' : Rd} {p C : List Nat} (R : WfR s) (J : SoFar s C) (h : rstep okw s p = some s') : SoFar s' (C ++ p) := by
  by_cases e1 : p = [44]
  · subst e1
    obtain ⟨h1, h2, rfl⟩ := rstep_comma h
    cases J with
    | start => cases h2
    | whole => exact absurd rfl h1
    | open_ => cases h2
    | @shut N V w os hos =>
      rw [List.append_assoc, List.append_assoc, List.cons_append, join_mid _ hos]
      exact .open_
  · by_cases e2 : p = [41]
    · subst e2
      obtain ⟨W, w, os, nd, hW, hb, hop, rfl⟩ := rstep_close h
      have hnd : ndT (tx s.N) nd = tl w ++ 40 :: joinC (os.map (tx s.N)) ++ [41] := by
        rcases oper_word hop with rfl | rfl <;> rfl
      have hC : C ++ [41] = segT (tx s.N) W ++ ndT (tx s.N) nd := by
        rw [hnd]
        cases J with
        | start => cases W <;> cases hW
        | whole => cases W <;> cases hW
        | @open_ N V w' os' =>
          have hW : V ++ [(w', os')] = W ++ [(w, os)] := hW
          obtain ⟨rfl, h3⟩ := List.append_inj' hW rfl
          cases h3
          rcases hb with rfl | hb
          · simp [midT, joinC]
          · cases hb
        | @shut N V w' os' h =>
          have hW : V ++ [(w', os')] = W ++ [(w, os)] := hW
          obtain ⟨rfl, h3⟩ := List.append_inj' hW rfl
          cases h3
          simp
      rw [hC]
      exact sofar_add fun y hy o ho => R.ww y (by rw [hW]; exact List.mem_append_left _ hy) o ho
    · obtain ⟨hb, ⟨hp, rfl⟩ | ⟨_, _, rfl⟩⟩ := rstep_else e1 e2 h
      · have hp2 : p = p.dropLast ++ [40] := by
          rcases List.eq_nil_or_concat p with e | ⟨q, c, e⟩
          · rw [e] at hp; cases hp
          · rw [List.concat_eq_append] at e
            rw [e, List.getLast?_concat] at hp
            rw [e, List.dropLast_concat, Option.some.inj hp]
        have fin : ∀ V N, C = segT (tx N) V → SoFar ⟨N, V ++ [(ofL p.dropLast, [])], false⟩ (C ++ p) := fun V N hC => by
          have h := SoFar.open_ (N := N) (V := V) (w := ofL p.dropLast) (os := [])
          rw [tl_ofL] at h
          rw [hC]
          conv => arg 2; rw [hp2]
          exact h
        cases J with
        | start => exact fin [] [] rfl
        | whole => cases hb
        | @open_ N V w os => exact fin _ N (segT_snoc _ _ _ _).symm
        | shut h => cases hb
      · have hC : C ++ p = segT (tx s.N) s.W ++ ndT (tx s.N) (.name (ofL p)) := by
          rw [show ndT (tx s.N) (.name (ofL p)) = p from tl_ofL p]
          cases J with
          | start => rfl
          | whole => cases hb
          | open_ => rw [segT_snoc]
          | shut h => cases hb
        rw [hC]
        exact sofar_add R.ww
theorem sofar_run {okw : Str → Bool} : ∀ {ps : List (List Nat)} {s s' : Rd} {C : List Nat}, WfR s → SoFar s C → rrun okw s ps = some s' → SoFar s' (C ++ ps.flatten)
  | [], s, s', C, R, J, h => by
    obtain rfl := Option.some.inj h
    rw [List.flatten_nil, List.append_nil]
    exact J
  | p :: ps, s, s', C, R, J, h => by
    rw [rrun] at h
    obtain ⟨t, h1, h2⟩ := Option.bind_eq_some_iff.mp h
    rw [List.flatten_cons, ← List.append_assoc]
    exact sofar_run (rstep_wf R h1) (sofar_step R J h1) h2
theorem good_text {okw : Str → Bool} {t : List Nat} {ns : List Nd} (g : GoodE okw t 0 ns) : tx ns (ns.length - 1) = t := by
  have h := sofar_run (s := ⟨[], [], false⟩) ⟨(fun j nd h => by cases h), (fun y hy => by cases hy)⟩ .start (good_run g)
  rw [cut_flat, List.nil_append, List.nil_append] at h
  generalize hs : (⟨ns, [], true⟩ : Rd) = s at h
  cases h with
  | start => exact absurd (congrArg Rd.b hs) (by simp)
  | whole => cases hs; rfl
  | open_ => exact absurd (congrArg Rd.b hs) (by simp)
  | @shut N V w os h => exact absurd (congrArg Rd.W hs) (by simp)
/-! ### nodes that can be read -/
structure WordOk (okw : Str → Bool) : Prop where
  pl : ∀ w, okw w = true → plainL (tl w)
  ne : ∀ w, okw w = true → tl w ≠ []
  le : ∀ w, okw w = true → (tl w).length ≤ 8
  no : ∀ w, okw w = true → opsT.lookup w = none
def GoodNd (okw : Str → Bool) : Nd → Prop
  | .name w => okw w = true
  | .call w os => okw w = true ∧ os.length ≤ 4
  | .op w os => opsT.lookup w = some (os.length : Int)
theorem op_pl {w : Str} {n : Int} (h : opsT.lookup w = some n) : plainL (tl w) ∧ (tl w).length ≤ 8 ∧ n ≤ 2 := by
  unfold opsT at h
  have e : ∀ (a b : Str) (m : Int) (r : List (Str × Int)), w ≠ a → ((a, m) :: r).lookup w = r.lookup w := fun a b m r hne => by
    rw [List.lookup_cons]
    have : (w == a) = false := by
      rw [beq_eq_false_iff_ne]
      exact hne
    rw [this]
  by_cases h1 : w = "part"
  · subst h1
    rw [List.lookup_cons_self] at h
    exact ⟨by unfold plainL; decide +kernel, by decide +kernel, by have := Option.some.inj h; omega⟩
  · rw [e _ "" _ _ h1] at h
    by_cases h2 : w = "pick"
    · subst h2
      rw [List.lookup_cons_self] at h
      exact ⟨by unfold plainL; decide +kernel, by decide +kernel, by have := Option.some.inj h; omega⟩
    · rw [e _ "" _ _ h2] at h
      by_cases h3 : w = "then"
      · subst h3
        rw [List.lookup_cons_self] at h
        exact ⟨by unfold plainL; decide +kernel, by decide +kernel, by have := Option.some.inj h; omega⟩
      · rw [e _ "" _ _ h3] at h
        cases h
theorem joinC_le : ∀ b : List It1, (∀ i ∈ b, i.1.length ≤ 14 * i.2.length) → (joinC (b.map (·.1))).length ≤ 14 * (flat b).length + b.length
  | [], _ => Nat.zero_le _
  | [i], h => by
    have := h i List.mem_cons_self
    simp only [List.map_cons, List.map_nil, joinC, flat, List.flatMap_cons, List.flatMap_nil, List.append_nil, List.length_cons, List.length_nil]
    omega
  | i :: j :: r, h => by
    have h1 := h i List.mem_cons_self
    have h2 := joinC_le (j :: r) fun k hk => h k (List.mem_cons_of_mem _ hk)
    rw [show (flat (i :: j :: r)).length = i.2.length + (flat (j :: r)).length by simp [flat]]
    rw [List.map_cons, List.map_cons, joinC, List.length_append, List.length_cons, List.length_cons]
    rw [List.map_cons] at h2
    omega
theorem flat_snoc (a : List It1) (i : It1) : flat (a ++ [i]) = flat a ++ i.2 := by simp [flat]
/-- every forest of good nodes is read from some texts -/
theorem forest_stk {okw : Str → Bool} (K : WordOk okw) {N : List Nd} {st : List Nat} (F : Forest N st) : (∀ nd ∈ N, GoodNd okw nd) →
    ∃ its : List It1, Stk okw 0 its ∧ flat its = N ∧ rootsL 0 its = st ∧ ∀ i ∈ its, i.1.length ≤ 14 * i.2.length := by
  induction F with
  | nil => exact fun _ => ⟨[], trivial, rfl, rfl, fun i h => by cases h⟩
  | @node N r nd F ih =>
    intro hN
    obtain ⟨its, hs, hf, hr, hl⟩ := ih fun d hd => hN d (List.mem_append_left _ hd)
    have hnd := hN nd (List.mem_append_right _ (List.mem_singleton.mpr rfl))
    have hlen : its.length = r.length + (opsOf nd).length := by
      have := congrArg List.length hr
      rw [roots_len, List.length_append] at this
      exact this
    obtain ⟨a, b, rfl, hal⟩ : ∃ a b, its = a ++ b ∧ a.length = r.length := ⟨its.take r.length, its.drop r.length, (List.take_append_drop _ _).symm, by rw [List.length_take]; omega⟩
    obtain ⟨sa, sb⟩ := (stk_append okw a b 0).mp hs
    rw [Nat.zero_add] at sb
    rw [roots_append, Nat.zero_add] at hr
    obtain ⟨ra, rb⟩ := List.append_inj hr (by rw [roots_len]; exact hal)
    have hfl : N.length = (flat a).length + (flat b).length := by
      rw [← hf]
      simp [flat]
    have hfab : flat a ++ flat b = N := by
      rw [← hf]
      simp [flat]
    have hbl : b.length = (opsOf nd).length := by
      rw [← rb, roots_len]
    have jl := joinC_le b fun i hi => hl i (List.mem_append_right _ hi)
    obtain ⟨t, hg, htl⟩ : ∃ t, GoodE okw t (flat a).length (flat b ++ [nd]) ∧ t.length ≤ 14 * (flat b ++ [nd]).length := by
      cases nd with
      | name w =>
        have hb : b = [] := List.eq_nil_of_length_eq_zero hbl
        subst hb
        have h := good_name (okw := okw) (lo := (flat a).length) (K.pl w hnd) (K.ne w hnd) (by rw [ofL_tl]; exact hnd)
        rw [ofL_tl] at h
        have := K.le w hnd
        exact ⟨tl w, h, by rw [List.length_append, List.length_singleton]; omega⟩
      | call w os =>
        obtain ⟨h1, h2⟩ := hnd
        have ho : oper okw (ofL (tl w)) (rootsL (flat a).length b) = some (.call w os) := by
          rw [ofL_tl, rb, oper_no (K.no w h1), if_pos ⟨h1, h2⟩]
          rfl
        refine ⟨_, good_op sb (K.pl w h1) ho, ?_⟩
        have := K.le w h1
        have hb4 : b.length ≤ 4 := by rw [hbl]; exact h2
        rw [List.length_append, List.length_append, List.length_cons, List.length_append, List.length_singleton, List.length_singleton]
        omega
      | op w os =>
        have h1 : opsT.lookup w = some (os.length : Int) := hnd
        have ho : oper okw (ofL (tl w)) (rootsL (flat a).length b) = some (.op w os) := by
          rw [ofL_tl, rb, oper_at h1]
          show (if (os.length : Int) = (os.length : Int) then _ else _) = _
          rw [if_pos rfl]
          rfl
        obtain ⟨p1, p2, p3⟩ := op_pl h1
        refine ⟨_, good_op sb p1 ho, ?_⟩
        have hb4 : b.length ≤ 4 := by
          rw [hbl]
          show os.length ≤ 4
          omega
        rw [List.length_append, List.length_append, List.length_cons, List.length_append, List.length_singleton, List.length_singleton]
        omega
    refine ⟨a ++ [(t, flat b ++ [nd])], (stk_append okw a _ 0).mpr ⟨sa, by rw [Nat.zero_add]; exact ⟨hg, trivial⟩⟩, ?_, ?_, ?_⟩
    · rw [flat_snoc, ← List.append_assoc, hfab]
    · rw [roots_append, Nat.zero_add, ra]
      show r ++ [(flat a).length + (flat b ++ [nd]).length - 1] = _
      rw [List.length_append, List.length_singleton, hfl]
      congr 2
    · intro i hi
      rcases List.mem_append.mp hi with h | h
      · exact hl i (List.mem_append_left _ h)
      · rw [List.mem_singleton.mp h]
        exact htl
theorem forest_good {okw : Str → Bool} (K : WordOk okw) {N : List Nd} {r : Nat} (F : Forest N [r]) (hN : ∀ nd ∈ N, GoodNd okw nd) : GoodE okw (tx N (N.length - 1)) 0 N ∧ (tx N (N.length - 1)).length ≤ 14 * N.length := by
  obtain ⟨its, hs, hf, hr, hl⟩ := forest_stk K F hN
  have h1 : its.length = 1 := by
    have := congrArg List.length hr
    rw [roots_len] at this
    exact this
  match its, h1 with
  | [(t, ns)], _ =>
    have hf : ns = N := by rw [← hf]; simp [flat]
    subst hf
    have hg : GoodE okw t 0 ns := hs.1
    rw [good_text hg]
    exact ⟨hg, hl (t, ns) List.mem_cons_self⟩
/-- other words, the same operands -/
theorem forest_same {N : List Nd} {st : List Nat} (F : Forest N st) : ∀ {M : List Nd}, M.map opsOf = N.map opsOf → Forest M st := by
  induction F with
  | nil =>
    intro M h
    cases M with
    | nil => exact .nil
    | cons _ _ => cases h
  | @node N r nd F ih =>
    intro M h
    rcases List.eq_nil_or_concat M with e | ⟨L, d, e⟩
    · rw [e] at h
      simp at h
    · rw [List.concat_eq_append] at e
      subst e
      rw [List.map_append, List.map_append] at h
      obtain ⟨h1, h2⟩ := List.append_inj' h rfl
      have h2 : opsOf d = opsOf nd := by simpa using h2
      have hl : L.length = N.length := by
        have := congrArg List.length h1
        rw [List.length_map, List.length_map] at this
        exact this
      rw [← hl]
      refine .node ?_
      rw [h2]
      exact ih h1
/-! ### how long the texts are -/
def wordOf : Nd → Str
  | .name w => w
  | .call w _ => w
  | .op w _ => w
theorem joinC_len2 (f : Nat → List Nat) : ∀ os : List Nat, (joinC (os.map f)).length ≤ (os.map fun o => (f o).length).sum + os.length
  | [] => Nat.le_refl _
  | [o] => by simp [joinC]
  | o :: q :: r => by
    have := joinC_len2 f (q :: r)
    rw [List.map_cons] at this
    rw [List.map_cons, List.map_cons, joinC, List.length_append, List.length_cons, List.map_cons, List.sum_cons, List.length_cons]
    omega
theorem ndT_len (f : Nat → List Nat) {nd : Nd} (h : (tl (wordOf nd)).length ≤ 8) (h4 : (opsOf nd).length ≤ 4) : (ndT f nd).length ≤ 14 + ((opsOf nd).map fun o => (f o).length).sum := by
  cases nd with
  | name w =>
    show (tl w).length ≤ _
    have : (tl w).length ≤ 8 := h
    omega
  | call w os =>
    have h : (tl w).length ≤ 8 := h
    have h4 : os.length ≤ 4 := h4
    have := joinC_len2 f os
    show (tl w ++ 40 :: joinC (os.map f) ++ [41]).length ≤ 14 + (os.map fun o => (f o).length).sum
    rw [List.length_append, List.length_append, List.length_cons, List.length_singleton]
    omega
  | op w os =>
    have h : (tl w).length ≤ 8 := h
    have h4 : os.length ≤ 4 := h4
    have := joinC_len2 f os
    show (tl w ++ 40 :: joinC (os.map f) ++ [41]).length ≤ 14 + (os.map fun o => (f o).length).sum
    rw [List.length_append, List.length_append, List.length_cons, List.length_singleton]
    omega
theorem forest_mem {N : List Nd} {st : List Nat} (F : Forest N st) : ∀ r ∈ st, r < N.length := by
  induction F with
  | nil => exact fun r h => by cases h
  | @node N r nd F ih =>
    intro q hq
    rw [List.length_append, List.length_singleton]
    rcases List.mem_append.mp hq with h | h
    · have := ih q (List.mem_append_left _ h)
      omega
    · rw [List.mem_singleton.mp h]
      omega
theorem forest_len {N : List Nd} {st : List Nat} (F : Forest N st) : (∀ nd ∈ N, (tl (wordOf nd)).length ≤ 8 ∧ (opsOf nd).length ≤ 4) →
    (st.map fun r => (tx N r).length).sum ≤ 14 * N.length ∧ ∀ i, i < N.length → (tx N i).length ≤ 14 * N.length := by
  induction F with
  | nil => exact fun _ => ⟨Nat.le_refl _, fun i h => by cases h⟩
  | @node N r nd F ih =>
    intro hN
    obtain ⟨h1, h2⟩ := ih fun d hd => hN d (List.mem_append_left _ hd)
    obtain ⟨g1, g2⟩ := hN nd (List.mem_append_right _ (List.mem_singleton.mpr rfl))
    have hm := forest_mem F
    have hnew := ndT_len (tx N) g1 g2
    rw [List.map_append, List.sum_append] at h1
    have old : (r.map fun q => (tx (N ++ [nd]) q).length) = r.map fun q => (tx N q).length := List.map_congr_left fun q hq => by rw [tx_old (hm q (List.mem_append_left _ hq))]
    rw [List.length_append, List.length_singleton]
    refine ⟨?_, fun i hi => ?_⟩
    · rw [List.map_append, List.sum_append, old]
      show _ + ((tx (N ++ [nd]) N.length).length + 0) ≤ _
      rw [tx_new]
      omega
    · by_cases e : i < N.length
      · rw [tx_old e]
        have := h2 i e
        omega
      · have e : i = N.length := by omega
        rw [e, tx_new]
        omega
/-! ### nodes as data -/
def ndI (os : List Nat) : List PyData := os.map fun (n : Nat) => PyData.int (n : Int)
def nodeD : Nd → PyData
  | .name w => .tuple [.str "name", .str w]
  | .call w os => .tuple [.str "call", .str w, .tuple (ndI os)]
  | .op w os => .tuple (.str w :: ndI os)
theorem eqv_ndI : ∀ os qs : List Nat, PyData.eqvAll (ndI os) (ndI qs) = decide (os = qs)
  | [], [] => by rw [show decide (([] : List Nat) = []) = true from decide_eq_true rfl]; simp [ndI, PyData.eqvAll]
  | [], q :: r => by simp [ndI, PyData.eqvAll]
  | o :: r, [] => by simp [ndI, PyData.eqvAll]
  | o :: r, q :: t => by
    have h := eqv_ndI r t
    unfold ndI at h ⊢
    rw [List.map_cons, List.map_cons, PyData.eqvAll, h, PyData.eqv, Bool.eq_iff_iff]
    simp
    intro _
    omega
theorem eqv_str (a b : Str) : PyData.eqv (.str a) (.str b) = decide (a = b) := by
  rw [PyData.eqv, Bool.eq_iff_iff]
  simp
def OpW (w : Str) : Prop := w ≠ "name" ∧ w ≠ "call"
def NdW : Nd → Prop
  | .op w _ => OpW w
  | _ => True
theorem eqv_node {a b : Nd} (ha : NdW a) (hb : NdW b) : PyData.eqv (nodeD a) (nodeD b) = decide (a = b) := by
  cases a with
  | name w =>
    cases b with
    | name v =>
      show PyData.eqv (.tuple [.str "name", .str w]) (.tuple [.str "name", .str v]) = _
      simp [PyData.eqv, PyData.eqvAll]
      exact Bool.eq_iff_iff.mpr (by simp)
    | call v qs =>
      show PyData.eqv (.tuple [.str "name", .str w]) (.tuple [.str "call", .str v, .tuple (ndI qs)]) = _
      simp [PyData.eqv, PyData.eqvAll]
    | op v qs =>
      show PyData.eqv (.tuple [.str "name", .str w]) (.tuple (.str v :: ndI qs)) = _
      rw [PyData.eqv, PyData.eqvAll, eqv_str, decide_eq_false (fun z => hb.1 z.symm)]
      simp
  | call w os =>
    cases b with
    | name v =>
      show PyData.eqv (.tuple [.str "call", .str w, .tuple (ndI os)]) (.tuple [.str "name", .str v]) = _
      simp [PyData.eqv, PyData.eqvAll]
    | call v qs =>
      show PyData.eqv (.tuple [.str "call", .str w, .tuple (ndI os)]) (.tuple [.str "call", .str v, .tuple (ndI qs)]) = _
      simp [PyData.eqv, PyData.eqvAll, eqv_ndI]
      exact Bool.eq_iff_iff.mpr (by simp)
    | op v qs =>
      show PyData.eqv (.tuple [.str "call", .str w, .tuple (ndI os)]) (.tuple (.str v :: ndI qs)) = _
      rw [PyData.eqv, PyData.eqvAll, eqv_str, decide_eq_false (fun z => hb.2 z.symm)]
      simp
  | op w os =>
    cases b with
    | name v =>
      show PyData.eqv (.tuple (.str w :: ndI os)) (.tuple [.str "name", .str v]) = _
      rw [PyData.eqv, PyData.eqvAll, eqv_str, decide_eq_false ha.1]
      simp
    | call v qs =>
      show PyData.eqv (.tuple (.str w :: ndI os)) (.tuple [.str "call", .str v, .tuple (ndI qs)]) = _
      rw [PyData.eqv, PyData.eqvAll, eqv_str, decide_eq_false ha.2]
      simp
    | op v qs =>
      show PyData.eqv (.tuple (.str w :: ndI os)) (.tuple (.str v :: ndI qs)) = _
      rw [PyData.eqv, PyData.eqvAll, eqv_str, eqv_ndI, Bool.eq_iff_iff]
      simp
theorem eqv_nodes : ∀ ns ms : List Nd, (∀ nd ∈ ns, NdW nd) → (∀ nd ∈ ms, NdW nd) → PyData.eqvAll (ns.map nodeD) (ms.map nodeD) = decide (ns = ms)
  | [], [], _, _ => by simp [PyData.eqvAll]
  | [], q :: r, _, _ => by simp [PyData.eqvAll]
  | o :: r, [], _, _ => by simp [PyData.eqvAll]
  | o :: r, q :: t, h1, h2 => by
    rw [List.map_cons, List.map_cons, PyData.eqvAll, eqv_node (h1 o List.mem_cons_self) (h2 q List.mem_cons_self), eqv_nodes r t (fun d hd => h1 d (List.mem_cons_of_mem _ hd)) (fun d hd => h2 d (List.mem_cons_of_mem _ hd)), Bool.eq_iff_iff]
    simp
end UL

set_option Elab.async false
set_option linter.all false
set_option maxRecDepth 100000
/-! own: o.m(e, .., k = v, ..), also in a try -/
namespace UL
open PySem PySem.Spec PyProof.Rows L2 Evl TL
def tMethK (C : Addr) (m : Str) (n mk : Nat) (sp : Sp) (gV : List V → List V → List V) (E : L2.St → XK) (ta : TE) (t tk : TA) : TE := fun σ H Q => ta σ H fun x H1 => ∃ a dx fs, x = .ref a ∧ H1 a = some (.ins C dx fs) ∧ fs.lookup m = none ∧
  t σ H1 fun vs H2 => tk σ H2 fun zs H3 => vs.length + 1 = n ∧ zs.length = mk ∧ sp (gV (.ref a :: vs) zs) H3 Q (E σ)
section
variable {X : Cx} {CX : CXT} {k n : Nat} {f C : Addr} {fd : FuncData} {ps ks : List Str} {sp : Sp} {E : L2.St → XK} {m : Str} {pos apos : Pos} {e o : Expr} {es : List Expr} {kws : List Keyword} {ta : TE} {t tk : TA} {g : List Value → List Value → List Value} {gV : List V → List V → List V}
theorem pe_methK {pl : Sem Bool} (he : PE X o ta) (c : Cls X.K C) (hm : Meth X.K C m f) (F : FnOk X.prog X.w X.K X.mg X.base CX k f fd ps sp) (hr : Room k X.A) (hb : KBn X.K fd ps n ks g gV) (hx : ∀ σ, PassesAt CX X σ (E σ)) (ha : PA X (e :: es) t) (hkw : PK X kws tk)
    (hall : (backToKw pos (keywordEach kws X.env)).all (·.1.isSome) = true := by rfl) (hks : (backToKw pos (keywordEach kws X.env)).filterMap (·.1) = ks := by rfl)
    (hst : starEach (e :: es) X.env = (false, eval e X.env) :: starEach es X.env := by rfl) (hpl : ((backTo pos (starEach (e :: es) X.env)).any (·.1) || (backToKw pos (keywordEach kws X.env)).any (·.1.isNone)) = false := by rfl)
    (ht : eval (.Call (.Attribute o m apos) (e :: es) kws pos) X.env = (do
      let ov ← eval o X.env
      standAt apos.atName
      let (f, first) ← holding [ov] (getMethod ov m pl)
      callWith pos f first (backTo pos (starEach (e :: es) X.env)) (backToKw pos (keywordEach kws X.env))) := by rfl) :
    PE X (.Call (.Attribute o m apos) (e :: es) kws pos) (tMethK C m n ks.length sp gV E ta t tk) := by
  refine ⟨fun pins s σ H Q I h => ?_⟩
  refine PySem.W.methodCall_KW (pl := pl) (thn (he.run pins s σ H _ I h) fun u s1 ⟨x, H1, I1, rx, a, dx, fs, ex, ea, l, q⟩ => ?_) ht
  subst ex
  obtain rfl : u = Value.ref a := rx
  refine getmeth_ok I1 ea c hm l ?_
  refine PySem.W.callWith_KW (first := [.ref a]) (h₀ := X.base) I1.ok.mod.kin hm.kp hall (thn (ha.run pos pins s1 σ H1 _ I1 q) fun us s2 ⟨vs, H2, I2, r, q2⟩ => ?_) hpl hst
  refine thn (hkw.run pos pins s2 σ H2 _ I2 q2) fun ws s3 ⟨zs, H3, I3, rz, l1, l2, q3⟩ => ⟨I3.kIn, ?_⟩
  rw [hks]
  have r1 : Vals (V.ref a :: vs) (Value.ref a :: us) := .cons rfl r
  have r2 := hb.rel r1 rz
  refine wpAny_call (codeAny_mono (F.run X.A X.stack s3 H3 ⟨Value.ref a :: us, ks.zip ws⟩ (g (Value.ref a :: us) ws) (gV (V.ref a :: vs) zs) Q (E σ) hr I3.env0 (hb.to s3 (Value.ref a :: us) ws I3.kIn (by rw [List.length_cons, ← r.length]; exact l1) (rz.length.symm.trans l2)) r2 q3) fun rr s' hq => ?_)
  cases rr with
  | error er => exact hx σ pins H3 s3 er s' I3 hq
  | ok fl =>
    cases fl with
    | ret u => exact I3.after hq
    | next => exact False.elim hq
    | brk => exact False.elim hq
    | cont => exact False.elim hq
/-- o.m(e, ..) in a try, with defaults left out -/
def tMethTD (C : Addr) (m : Str) (sp : Sp) (dvs : List V) (E : L2.St → XK) (ta : TE) (t : TA) : TE := fun σ H Q => ta σ H fun x H1 => ∃ a dx fs, x = .ref a ∧ H1 a = some (.ins C dx fs) ∧ fs.lookup m = none ∧ t σ H1 fun vs H2 => sp (.ref a :: (vs ++ dvs)) H2 Q (E σ)
theorem pe_methTD {pl : Sem Bool} {ds : List Value} {dvs : List V} (he : PE X o ta) (c : Cls X.K C) (hm : Meth X.K C m f) (F : FnOk X.prog X.w X.K X.mg X.base CX k f fd ps sp) (hr : Room k X.A) (hb : L2.Binds X.K fd ps ds) (hd : Vals dvs ds) (hx : ∀ σ, PassesAt CX X σ (E σ)) (ha : PA X (e :: es) t)
    (hst : starEach (e :: es) X.env = (false, eval e X.env) :: starEach es X.env := by rfl) (hpl : (backTo pos (starEach es X.env)).any (·.1) = false := by rfl)
    (ht : eval (.Call (.Attribute o m apos) (e :: es) [] pos) X.env = (do
      let ov ← eval o X.env
      standAt apos.atName
      let (f, first) ← holding [ov] (getMethod ov m pl)
      callWith pos f first (backTo pos (starEach (e :: es) X.env)) (backToKw pos (keywordEach [] X.env))) := by rfl) :
    PE X (.Call (.Attribute o m apos) (e :: es) [] pos) (tMethTD C m sp dvs E ta t) := by
  refine ⟨fun pins s σ H Q I h => ?_⟩
  refine PySem.W.methodCall_KW (pl := pl) (thn (he.run pins s σ H _ I h) fun u s1 ⟨x, H1, I1, rx, a, dx, fs, ex, ea, l, q⟩ => ?_) ht
  subst ex
  obtain rfl : u = Value.ref a := rx
  refine getmeth_ok I1 ea c hm l ?_
  refine PySem.W.callWith_K (first := [.ref a]) (h₀ := X.base) I1.ok.mod.kin hm.kp (thn (ha.run pos pins s1 σ H1 _ I1 q) fun us s2 ⟨vs, H2, I2, r, q2⟩ => ⟨I2.kIn, ?_⟩) hst hpl
  have rv : Vals ((V.ref a :: vs) ++ dvs) ((Value.ref a :: us) ++ ds) := by
    have gen : ∀ {vs : List V} {us : List Value}, Vals vs us → Vals (vs ++ dvs) (us ++ ds) := by
      intro vs us h
      induction h with
      | nil => exact hd
      | cons h _ ih => exact .cons h ih
    exact gen (.cons rfl r)
  have hl : ((Value.ref a :: us) ++ ds).length = ps.length := by rw [← rv.length]; exact F.len _ _ _ _ q2
  refine wpAny_call (codeAny_mono (F.run X.A X.stack s2 H2 ⟨Value.ref a :: us, []⟩ ((Value.ref a :: us) ++ ds) ((V.ref a :: vs) ++ dvs) Q (E σ) hr I2.env0 (hb s2 (Value.ref a :: us) I2.kIn hl) rv q2) fun rr s' hq => ?_)
  cases rr with
  | error er => exact hx σ pins H2 s2 er s' I2 hq
  | ok fl =>
    cases fl with
    | ret u => exact I2.after hq
    | next => exact False.elim hq
    | brk => exact False.elim hq
    | cont => exact False.elim hq
end
end UL

set_option Elab.async false
set_option linter.all false
set_option maxRecDepth 100000
/-! own: zip of two things of which each is a list or a tuple -/
namespace UL
open PySem PySem.Spec PyProof.Rows L2 Evl TL
/-- a tuple (true) or a list (false) -/
def SqK (K : PySem.W.Frag) : Bool → Hp → Addr → List V → Prop
  | true => SqT K
  | false => SqL K
def IterK : Bool → Heap → Addr → Addr → Nat → Prop
  | true => fun h it a i => h.IsTupleIter it a i
  | false => fun h it a i => h.IsListIter it a i
def HasK : Bool → Heap → Addr → Array Value → Prop
  | true => fun h a xs => h.IsTuple a xs
  | false => fun h a xs => h.IsList a xs
theorem IterK.cell : ∀ {t : Bool} {h : Heap} {it a : Addr} {i : Nat}, IterK t h it a i → ∃ o, h.get? it = some o ∧ ∀ v, o.data ≠ .cell v
  | true, _, _, _, _, ⟨o, e, _, d⟩ => ⟨o, e, fun v q => by rw [d] at q; cases q⟩
  | false, _, _, _, _, ⟨o, e, _, d⟩ => ⟨o, e, fun v q => by rw [d] at q; cases q⟩
theorem IterK.kept : ∀ {t : Bool} {h h' : Heap} {it a : Addr} {i : Nat}, IterK t h it a i → (∀ o, h.get? it = some o → h'.get? it = some o) → IterK t h' it a i
  | true, _, _, _, _, _, x, k => Heap.IsTupleIter.at x k
  | false, _, _, _, _, _, x, k => Heap.IsListIter.at x k
theorem drawsK {prog : Program} {w : World} {A : Around} (hh : A.handled = none) (it a : Addr) (hne : a ≠ it) (xs : Array Value) :
    ∀ t : Bool, Draws prog w A it [it, a] xs.size (fun i v => xs[i]? = some v) (fun i h => IterK t h it a i ∧ HasK t h a xs)
  | true => Draws.tuple hh it a hne xs
  | false => Draws.list hh it a hne xs
theorem seqK {X : Cx} {pins : List (Addr × Obj)} {σ : L2.St} {H : Hp} {s : Shared} {a : Addr} {xs : List V} (I : Inv X pins σ H s) : ∀ {t : Bool}, SqK X.K t H a xs → ∃ its : List Value, Vals xs its ∧ HasK t s.heap a its.toArray ∧ a < s.heap.objs.size
  | true, h => by
    obtain ⟨its, r, p, _⟩ := I.tuple h
    obtain ⟨o, e, _⟩ := id p
    exact ⟨its, r, p, Heap.lt_size e⟩
  | false, h => by
    obtain ⟨its, r, p, _⟩ := I.list h
    exact ⟨its, r, p.isList, p.lt⟩
theorem seqK_inj {X : Cx} {pins : List (Addr × Obj)} {σ : L2.St} {H : Hp} {s : Shared} {a : Addr} {xs ys : List V} (I : Inv X pins σ H s) : ∀ {t : Bool}, SqK X.K t H a xs → SqK X.K t H a ys → xs = ys
  | true, h, h' => I.tuple_inj h h'
  | false, h, h' => I.list_inj h h'
theorem beginsK (a : Addr) (xs : Array Value) : ∀ t : Bool, ∃ o, Begins (.ref a) o (fun h => HasK t h a xs) ∧ ∀ (h : Heap) (it : Addr), h.get? it = some o → IterK t h it a 0
  | true => ⟨_, begins_tuple a xs, fun h it e => ⟨_, e, rfl, rfl⟩⟩
  | false => ⟨_, begins_list a xs, fun h it e => ⟨_, e, rfl, rfl⟩⟩
/-- the two as they stand at each turn, the items in new pairs -/
def ItzK (K : PySem.W.Frag) (t u : Bool) (a b : Addr) : It where
  go := fun i H => ∃ (xs ys : List V) (x y : V), SqK K t H a xs ∧ SqK K u H b ys ∧ xs[i]? = some x ∧ ys[i]? = some y
  yld := fun i H v H' => ∃ T x y, v = .ref T ∧ H T = none ∧ H' = upd H T (.tup [x, y]) ∧ (∀ xs, SqK K t H a xs → xs[i]? = some x) ∧ ∀ ys, SqK K u H b ys → ys[i]? = some y
  stop := fun i H => ∃ xs ys : List V, SqK K t H a xs ∧ SqK K u H b ys ∧ i = min xs.length ys.length
theorem in5 {c z TI TO i1 i2 : Addr} {p : Addr → Prop} (h : c ∈ [z, TI, TO, i1, i2]) (h1 : p z) (h2 : p TI) (h3 : p TO) (h4 : p i1) (h5 : p i2) : p c := by
  simp only [List.mem_cons, List.not_mem_nil, or_false] at h
  rcases h with rfl | rfl | rfl | rfl | rfl <;> assumption
theorem turn_zipK {P : Program} {w : World} {K : PySem.W.Frag} {elts : List Expr} {kk : Nat} {tpos : Pos} {t u : Bool} {a b z TI TO i1 i2 : Addr} (D : ZipSep2 z TI TO i1 i2 [i1, a] [i2, b]) (h1a : a ≠ i1) (h2b : b ≠ i2) :
    Turn P w K (.Tuple elts kk tpos) (ItzK K t u a b) [z, TI, TO, i1, i2] z (fun i h => IsZip h z TI TO .none ∧ IsTupOf2 h TI (.ref i1) (.ref i2) ∧ (∃ x y, IsTupOf2 h TO x y) ∧ IterK t h i1 a i ∧ IterK u h i2 b i) where
  mem := List.mem_cons_self
  obj := fun i h st c hc => by
    obtain ⟨hz, hTI, ⟨x, y, hTO⟩, h1, h2⟩ := st
    exact in5 (p := fun c => ∃ o, h.get? c = some o ∧ ∀ v, o.data ≠ .cell v) hc ⟨_, hz, fun v q => nomatch q⟩ ⟨_, hTI, fun v q => nomatch q⟩ ⟨_, hTO, fun v q => nomatch q⟩ h1.cell h2.cell
  keep := fun i h h' st k => by
    obtain ⟨hz, hTI, ⟨x, y, hTO⟩, h1, h2⟩ := st
    exact ⟨k z (by simp) _ hz, k TI (by simp) _ hTI, ⟨x, y, k TO (by simp) _ hTO⟩, h1.kept fun o q => k i1 (by simp) o q, h2.kept fun o q => k i2 (by simp) o q⟩
  item := by
    intro X hP hw hK hc i pins s σ H E I hf st hg
    subst hP hw hK
    obtain ⟨hz, hTI, ⟨x0, y0, hTO⟩, h1, h2⟩ := st
    obtain ⟨xs, ys, x, y, hqx, hqy, hx, hy⟩ := hg
    obtain ⟨its, rv, p, _⟩ := seqK I hqx
    obtain ⟨its2, rv2, p2, _⟩ := seqK I hqy
    have l1 := rv.length
    have l2 := rv2.length
    have li := (List.getElem?_eq_some_iff.mp hx).1
    have lj := (List.getElem?_eq_some_iff.mp hy).1
    have D1 := drawsK (prog := X.prog) (w := X.w) (A := X.A.in1) (I.ok.hd hc) i1 a h1a its.toArray t
    have D2 := drawsK (prog := X.prog) (w := X.w) (A := X.A.in1) (I.ok.hd hc) i2 b h2b its2.toArray u
    refine wpAny_pyNext_zipD2_item D D1 D2 hz hTI hTO ⟨h1, p⟩ ⟨h2, p2⟩ (by simp; omega) (by simp; omega) fun v1 v2 h' tk q1 q2 z' TO' s1 s2 hT hsz hk => ?_
    obtain ⟨u1, hu1, ru1⟩ := rv.get hx
    obtain ⟨u2, hu2, ru2⟩ := rv2.get hy
    obtain rfl : v1 = u1 := by simpa [hu1] using q1.symm
    obtain rfl : v2 = u2 := by simpa [hu2] using q2.symm
    refine ⟨_, rfl, wpAny_letOwnedTupleGo_zip (s := { s with heap := h', toks := tk }) z' fun h'' z'' sb => ?_⟩
    have zl : z < s.heap.objs.size := Heap.lt_size hz
    have lt5 : ∀ c ∈ [z, TI, TO, i1, i2], c < s.heap.objs.size := fun c hc => by
      obtain ⟨_, e1, _⟩ := h1.cell
      obtain ⟨_, e2, _⟩ := h2.cell
      exact in5 (p := fun c => c < s.heap.objs.size) hc zl (Heap.lt_size hTI) (Heap.lt_size hTO) (Heap.lt_size e1) (Heap.lt_size e2)
    have hT2 := (sb.2 _ (Nat.ne_of_gt zl)).trans hT
    have off : ∀ c o, c ∉ [z, TI, TO, i1, i2] → s.heap.get? c = some o → h''.get? c = some o := fun c o hb q => by
      simp only [List.mem_cons, List.not_mem_nil, or_false, not_or] at hb
      exact (sb.2 c hb.1).trans (hk c o hb.1 hb.2.2.1 hb.2.2.2.1 hb.2.2.2.2 q)
    have new : ObjOk X.prog X.w (upd H s.heap.objs.size (.tup [x, y])) h'' s.heap.objs.size (.tup [x, y]) := ⟨by show 2 ≤ sizeLine; decide, [v1, v2], .cons ru1 (.cons ru2 .nil), ⟨_, hT2, rfl, _, rfl⟩⟩
    have I1 : Inv X pins σ (upd H s.heap.objs.size (.tup [x, y])) { s with heap := h'', toks := tk } := I.turnedNew (ch := [z, TI, TO, i1, i2]) off hf (Nat.le_refl _) new
    refine ⟨.ref s.heap.objs.size, _, I1, rfl, ⟨_, x, y, rfl, I.hok.fresh (Nat.le_refl _), rfl, fun l hl => by rw [seqK_inj I hl hqx]; exact hx, fun l hl => by rw [seqK_inj I hl hqy]; exact hy⟩, ⟨z'', ?_, ⟨v1, v2, (sb.2 _ D.TOz).trans TO'⟩, ?_, ?_⟩, fun c hcm => ?_⟩
    · exact (sb.2 _ D.TIz).trans (hk _ _ D.TIz D.TITO D.TIi1 D.TIi2 hTI)
    · exact s1.1.kept fun o q => (sb.2 _ D.zi1.symm).trans q
    · exact s2.1.kept fun o q => (sb.2 _ D.zi2.symm).trans q
    · rw [upd_ne (Nat.ne_of_lt (lt5 c hcm))]
      exact (hf c hcm).1
  done := by
    intro X hP hw hK hc i pins s σ H E I hf st hg
    subst hP hw hK
    obtain ⟨hz, hTI, ⟨x0, y0, hTO⟩, h1, h2⟩ := st
    obtain ⟨xs, ys, hqx, hqy, rfl⟩ := hg
    obtain ⟨its, rv, p, _⟩ := seqK I hqx
    obtain ⟨its2, rv2, p2, _⟩ := seqK I hqy
    have l1 := rv.length
    have l2 := rv2.length
    have D1 := drawsK (prog := X.prog) (w := X.w) (A := X.A.in1) (I.ok.hd hc) i1 a h1a its.toArray t
    have D2 := drawsK (prog := X.prog) (w := X.w) (A := X.A.in1) (I.ok.hd hc) i2 b h2b its2.toArray u
    refine wpAny_pyNext_zipD2_end D D1 D2 hz hTI hTO ⟨h1, p⟩ ⟨h2, p2⟩ (by simp; omega) (by simp; omega) (by simp; omega) fun h' tk hk => ⟨rfl, I.turnedL (t' := tk) (ch := [z, TI, TO, i1, i2]) (fun c o hb q => ?_) hf⟩
    simp only [List.mem_cons, List.not_mem_nil, or_false, not_or] at hb
    exact hk c o hb.1 hb.2.2.1 hb.2.2.2.1 hb.2.2.2.2 q
  self := fun A i s Q E st h => wpAny_pyIter_zip st.1 h
def iZipK (K : PySem.W.Frag) (ta : TA) : TI := fun σ H R => ta σ H fun vs H1 => ∃ a b xs ys t u, vs = [.ref a, .ref b] ∧ SqK K t H1 a xs ∧ SqK K u H1 b ys ∧ R (ItzK K t u a b) H1
theorem pi_zipK {X : Cx} {e e2 : Expr} {ta : TA} {p pos tpos : Pos} {elts : List Expr} {kk : Nat} (hg : Gl X "zip") (hm : X.mg "zip" = none) (ha : PA X [e, e2] ta)
    (hs : starEach [e, e2] X.env = (false, eval e X.env) :: starEach [e2] X.env := by rfl) (hpl : (backTo pos (starEach [e2] X.env)).any (·.1) = false := by rfl) :
    PI X (.Tuple elts kk tpos) (.Call (.Name "zip" p) [e, e2] [] pos) (iZipK X.K ta) := by
  refine ⟨fun pins s σ H R I h => Call_ (ld_blt I hg hm PyProof.Rows.boot_zip (PyProof.Rows.callWith_type1 (thn (ha.run pos pins s σ H _ I h) fun us s1 ⟨vs, H1, I1, r1, q1⟩ => ?_) hs hpl))⟩
  obtain ⟨a, b, xs, ys, t, u, rfl, hqx, hqy, q⟩ := q1
  obtain ⟨rfl⟩ : us = [Value.ref a, Value.ref b] := by
    cases r1 with
    | cons r rr =>
      cases rr with
      | cons r' rr =>
        cases rr
        cases r
        cases r'
        rfl
  obtain ⟨its, _, p1, la⟩ := seqK I1 hqx
  obtain ⟨its2, _, p2, lb⟩ := seqK I1 hqy
  obtain ⟨o1, B1, z1⟩ := beginsK a its.toArray t
  obtain ⟨o2, B2, z2⟩ := beginsK b its2.toArray u
  refine zip_begins2 B1 B2 p1 p2 fun h' hz hTI hTO g1 g2 hsz hk => wpAny_pyIter_zip hz ?_
  have I2 : Inv X pins σ H1 { s1 with heap := h' } := I1.kept (t' := s1.toks) hk
  have S := zip_sep2 (N := s1.heap.objs.size) (fp1 := [a]) (fp2 := [b]) (fun c hc => by rw [List.mem_singleton.mp hc]; exact la) (fun c hc => by rw [List.mem_singleton.mp hc]; exact lb)
  refine ⟨_, [s1.heap.objs.size + 4, s1.heap.objs.size + 2, s1.heap.objs.size + 3, s1.heap.objs.size, s1.heap.objs.size + 1], _, _, H1, rfl, I2, turn_zipK (t := t) (u := u) S (Nat.ne_of_lt la) (Nat.ne_of_lt (Nat.lt_succ_of_lt lb)), ⟨hz, hTI, ⟨_, _, hTO⟩, z1 _ _ g1, z2 _ _ g2⟩, fun c hcm => ?_, q⟩
  have hle : s1.heap.objs.size ≤ c := in5 (p := fun c => s1.heap.objs.size ≤ c) hcm (Nat.le_add_right _ _) (Nat.le_add_right _ _) (Nat.le_add_right _ _) (Nat.le_refl _) (Nat.le_add_right _ _)
  exact I1.fpOk hle (I1.hok.fresh hle)
theorem walk_zipK {K : PySem.W.Frag} {t u : Bool} {a b : Addr} {xs ys : List V} {n : Nat} (hn : n = min xs.length ys.length) : L2.Walk (ItzK K t u a b) n (fun H => SqK K t H a xs ∧ SqK K u H b ys) (YPair (fun i => xs[i]?) (fun i => ys[i]?)) := by
  subst hn
  refine ⟨fun i _ hi q => ?_, fun _ q => ⟨xs, ys, q.1, q.2, rfl⟩, fun i H v H' _ q ⟨T, x, z, h1, h2, h3, h4, h5⟩ => ⟨T, x, z, h1, h2, h3, h4 xs q.1, h5 ys q.2⟩⟩
  have h1 : i < xs.length := by omega
  have h2 : i < ys.length := by omega
  exact ⟨xs, ys, xs[i], ys[i], q.1, q.2, by simp [h1], by simp [h2]⟩
end UL

set_option Elab.async false
set_option linter.all false
set_option maxRecDepth 100000
/-! own: enumerate(xs, start = k) of a list or a tuple -/
namespace UL
open PySem PySem.Spec PyProof.Rows L2 Evl TL
def ItnK (K : PySem.W.Frag) (t : Bool) (a : Addr) (k : Int) : It where
  go := fun i H => ∃ (xs : List V) (x : V), SqK K t H a xs ∧ xs[i]? = some x
  yld := fun i H v H' => ∃ T x, v = .ref T ∧ H T = none ∧ H' = upd H T (.tup [.int (k + (i : Nat)), x]) ∧ ∀ xs, SqK K t H a xs → xs[i]? = some x
  stop := fun i H => ∃ xs : List V, SqK K t H a xs ∧ i = xs.length
theorem turn_enumK {P : Program} {w : World} {K : PySem.W.Frag} {elts : List Expr} {kk : Nat} {tpos : Pos} {t : Bool} {a e it : Addr} (k : Int) (hei : e ≠ it) (hea : e ≠ a) (hia : a ≠ it) :
    Turn P w K (.Tuple elts kk tpos) (ItnK K t a k) [e, it] e (fun i h => (∃ old, IsEnum h e it (k + (i : Nat)) old) ∧ IterK t h it a i) where
  mem := List.mem_cons_self
  obj := fun i h st b hb => by
    obtain ⟨⟨old, he⟩, hi⟩ := st
    simp only [List.mem_cons, List.not_mem_nil, or_false] at hb
    rcases hb with rfl | rfl
    · exact ⟨_, he, fun v q => nomatch q⟩
    · exact hi.cell
  keep := fun i h h' ⟨⟨old, he⟩, hi⟩ q => ⟨⟨old, q e (by simp) _ he⟩, hi.kept fun o z => q it (by simp) o z⟩
  item := by
    intro X hP hw hK hc i pins s σ H E I hf st hg
    subst hP hw hK
    obtain ⟨⟨old, he⟩, hi⟩ := st
    obtain ⟨xs, x, hq, hx⟩ := hg
    obtain ⟨its, rv, p, _⟩ := seqK I hq
    obtain ⟨u, hu, ru⟩ := rv.get hx
    have l1 := rv.length
    have li := (List.getElem?_eq_some_iff.mp hx).1
    have el : e < s.heap.objs.size := Heap.lt_size he
    have D := drawsK (prog := X.prog) (w := X.w) (A := X.A.in1) (I.ok.hd hc) it a hia its.toArray t
    refine wpAny_pyNext_enum_itemC D he ⟨hi, p⟩ (by simp; omega) hei (by simp [hei, hea]) fun v h' tk hP ho hst hT hsz hk => ?_
    obtain rfl : v = u := by simpa [hu] using hP.symm
    refine ⟨_, rfl, wpAny_letOwnedTupleGo_enum (s := { s with heap := h', toks := tk + 1 }) ho fun h'' he' sb => ?_⟩
    have hT2 := (sb.2 _ (Nat.ne_of_gt el)).trans hT
    have new : ObjOk X.prog X.w (upd H s.heap.objs.size (.tup [.int (k + (i : Nat)), x])) h'' s.heap.objs.size (.tup [.int (k + (i : Nat)), x]) := ⟨by show 2 ≤ sizeLine; decide, [.int (k + (i : Nat)) tk, v], .cons ⟨_, rfl⟩ (.cons ru .nil), ⟨_, hT2, rfl, _, rfl⟩⟩
    have I1 : L2.Inv X pins σ (upd H s.heap.objs.size (.tup [.int (k + (i : Nat)), x])) { s with heap := h'', toks := tk + 1 } :=
      I.turnedNew (ch := [e, it]) (fun b o hb q => by
        simp only [List.mem_cons, List.not_mem_nil, or_false, not_or] at hb
        exact (sb.2 b hb.1).trans (hk b o hb.1 hb.2 q)) hf (Nat.le_refl _) new
    refine ⟨.ref s.heap.objs.size, _, I1, rfl, ⟨_, x, rfl, I.hok.fresh (Nat.le_refl _), rfl, fun l hl => by rw [seqK_inj I hl hq]; exact hx⟩, ⟨⟨v, ?_⟩, hst.1.kept fun o q => (sb.2 it hei.symm).trans q⟩, fun b hb => ?_⟩
    · rw [show k + ((i + 1 : Nat) : Int) = k + (i : Nat) + 1 by omega]
      exact he'
    · have hb' : b < s.heap.objs.size := by
        obtain ⟨_, e1, _⟩ := hi.cell
        simp only [List.mem_cons, List.not_mem_nil, or_false] at hb
        rcases hb with rfl | rfl
        · exact el
        · exact Heap.lt_size e1
      rw [upd_ne (Nat.ne_of_lt hb')]
      exact (hf b hb).1
  done := by
    intro X hP hw hK hc i pins s σ H E I hf st hg
    subst hP hw hK
    obtain ⟨⟨old, he⟩, hi⟩ := st
    obtain ⟨xs, hq, rfl⟩ := hg
    obtain ⟨its, rv, p, _⟩ := seqK I hq
    have l1 := rv.length
    have D := drawsK (prog := X.prog) (w := X.w) (A := X.A.in1) (I.ok.hd hc) it a hia its.toArray t
    exact wpAny_pyNext_enum_endD D he (by rw [l1] at hi; exact ⟨(by simpa using hi), p⟩) fun h' eb => ⟨rfl, I.turnedL (t' := s.toks) (ch := [e, it]) (fun b o hb q => eb b o (fun z => hb (by simp [z])) q) hf⟩
  self := fun A i s Q E st h => let ⟨⟨_, he⟩, _⟩ := st; wpAny_pyIter_enum he h
def iEnumK (K : PySem.W.Frag) (ta tk : TA) : TI := fun σ H R => ta σ H fun vs H1 => tk σ H1 fun zs H2 => ∃ a xs t k, vs = [.ref a] ∧ zs = [.int k] ∧ 0 ≤ k ∧ k < 1000 ∧ SqK K t H2 a xs ∧ R (ItnK K t a k) H2

theorem pi_enumK {X : Cx} {e : Expr} {kws : List Keyword} {ta tk : TA} {p pos tpos : Pos} {elts : List Expr} {kk : Nat} (hg : Gl X "enumerate") (hm : X.mg "enumerate" = none) (ha : PA X [e] ta) (hkw : PK X kws tk)
    (he : starEach [e] X.env = (false, eval e X.env) :: starEach [] X.env := by rfl) (hpl : ((backTo pos (starEach [e] X.env)).any (·.1) || (backToKw pos (keywordEach kws X.env)).any (·.1.isNone)) = false := by rfl)
    (hall : (backToKw pos (keywordEach kws X.env)).all (·.1.isSome) = true := by rfl) (hks : (backToKw pos (keywordEach kws X.env)).filterMap (·.1) = [Str.ofString "start"] := by rfl) :
    PI X (.Tuple elts kk tpos) (.Call (.Name "enumerate" p) [e] kws pos) (iEnumK X.K ta tk) := by
  refine ⟨fun pins s σ H R I h => ?_⟩
  refine wpAny_Call_Name_kw ?_
  refine ld_blt I hg hm boot_enumerate ?_
  refine PySem.W.callWith_of (P := fun _ => True) hpl (fun h _ => ⟨.machine, .inr (.inl rfl), PySem.W.Looks.of_pure rfl⟩) (evalArgs_kw2 hall ?_ he)
  refine thn (ha.run pos pins s σ H _ I h) fun us s1 ⟨vs, H1, I1, r1, q1⟩ => ?_
  refine thn (hkw.run pos pins s1 σ H1 _ I1 q1) fun ws s2 ⟨zs, H2, I2, r2, q2⟩ => ?_
  rw [hks]
  refine ⟨trivial, ?_⟩
  obtain ⟨a, xs, t, k, rfl, rfl, k0, k1, hq, q⟩ := q2
  obtain ⟨u, rfl, ru⟩ := vals1 r1
  obtain rfl : u = Value.ref a := ru
  obtain ⟨z, rfl, tk0, rfl⟩ := vals1 r2
  obtain ⟨its, _, p1, la⟩ := seqK I2 hq
  obtain ⟨o1, B1, z1⟩ := beginsK a its.toArray t
  refine enum_begins_start B1 p1 (by omega) (by omega) fun h' he g1 hsz hk => wpAny_pyIter_enum he ?_
  have I3 : L2.Inv X pins σ H2 { s2 with heap := h' } := I2.kept (t' := s2.toks) hk
  refine ⟨_, [s2.heap.objs.size + 1, s2.heap.objs.size], _, _, H2, rfl, I3, turn_enumK (t := t) (a := a) k (Nat.succ_ne_self _) (Nat.ne_of_gt (Nat.lt_succ_of_lt la)) (Nat.ne_of_lt la), ⟨⟨.none, by simpa using he⟩, z1 _ _ g1⟩, fun b hb => ?_, q⟩
  have hle : s2.heap.objs.size ≤ b := by
    simp only [List.mem_cons, List.not_mem_nil, or_false] at hb
    rcases hb with rfl | rfl
    · exact Nat.le_succ _
    · exact Nat.le_refl _
  exact I2.fpOk hle (I2.hok.fresh hle)
def YNum (k : Int) (xs : List V) : Nat → Hp → V → Hp → Prop := fun i H v H' => ∃ T x, v = .ref T ∧ H T = none ∧ H' = upd H T (.tup [.int (k + (i : Nat)), x]) ∧ xs[i]? = some x
theorem walk_enumK {K : PySem.W.Frag} {t : Bool} {a : Addr} {xs : List V} {k : Int} : L2.Walk (ItnK K t a k) xs.length (fun H => SqK K t H a xs) (YNum k xs) :=
  ⟨fun i _ hi q => ⟨xs, xs[i], q, by simp [hi]⟩, fun _ q => ⟨xs, q, rfl⟩, fun i H v H' _ q ⟨T, x, h1, h2, h3, h4⟩ => ⟨T, x, h1, h2, h3, h4 xs q⟩⟩
end UL

set_option Elab.async false
set_option linter.all false
set_option maxRecDepth 100000
/-! own: a list comprehension whose element may let an own error out, and over an iterator that is a thing of the abstract heap -/
namespace UL
open PySem PySem.Spec PyProof.Rows L2 Evl TL

/-- the block's context, with a wish about errors -/
abbrev blkE (X : Cx) (s : Shared) (H : Hp) (scope : Scope) (ce : Env) (fp : List Addr) (xe : Value → Shared → Prop) : Cx := { X.blk s H scope ce fp with xe := xe }
theorem inv_xe {X : Cx} {xe : Value → Shared → Prop} {pins : List (Addr × Obj)} {σ : L2.St} {H : Hp} {s : Shared} (I : Inv X pins σ H s) : Inv { X with xe := xe } pins σ H s := by
  obtain ⟨⟨a1, a2, a3, a4, a5, a6, a7, a8, a9, a10, a11, a12, a13, a14, a15, a16, a17, a18⟩, b1, b2, b3, b4, b5, b6, b7, b8, b9, b10⟩ := I
  exact ⟨⟨a1, a2, a3, a4, a5, a6, a7, a8, a9, a10, a11, a12, a13, a14, a15, a16, a17, a18⟩, b1, b2, b3, b4, b5, b6, b7, b8, b9, b10⟩

section
variable {X : Cx} {pins : List (Addr × Obj)} {σ : L2.St} {H3 : Hp} {s3 : Shared} {scope : Scope} {cl : List (Str × Addr)} {C : Addr} {fp : List Addr} {E : XK} {xe : Value → Shared → Prop}
/-- what a call in the block lets out, the def lets out -/
theorem passes_blk (hs : X.stack = X.env :: X.outer) (hf : X.env.frame = some X.env.locals) (I3 : Inv X pins σ H3 s3) (hC : s3.heap.objs.size = C) (hfp : ∀ b ∈ fp, FpOk X pins H3 b) (tk : Takes X fun cls d _ H => E cls d H)
    (hxe : xe = notedBy (model X.prog X.w) X.A (compEnvC scope cl C X.env) (CompFails (model X.prog X.w) X.A X.xe (compEnvC scope cl C X.env))) :
    Passes (L2.CX X.prog X.w) (blkE X s3 H3 scope (compEnvC scope cl C X.env) fp xe) E := by
  intro pins' σ' H' s u s' J c
  have IX : Inv X pins σ H' s := I3.call' (ch := fp) J.os J.base J.hok J.bare fun b hb =>
    let z := hfp b hb
    ⟨z.2.2.2.1, z.2.1, z.2.2.2.2.1, z.2.2.2.2.2⟩
  obtain ⟨a, B, H2, cls, d, rfl, fl, hok, ub, na, os, ag, w⟩ := c
  have nC : H' C = none := J.free
  obtain ⟨m, ⟨oC, es, ep, hoC, hdC, rC⟩, _⟩ := J.loc
  have hoC : s.heap.get? C = some oC := hoC
  have okC : FpOk X pins H' C := I3.fpOk (Nat.le_of_eq hC) nC
  have Cnf : C ∉ frs X.stack := fun z => by
    obtain ⟨_, o, e, _⟩ := I3.stack.mem z
    exact absurd (hC ▸ Heap.lt_size e) (Nat.lt_irrefl _)
  have BC : B.get? C = some oC := ub.keep C oC hoC nC Cnf
  have n2C : H2 C = none := ub.free C oC hoC nC
  have hfr : X.A.frames = some (X.env :: X.outer) := by rw [I3.ok.frames, hs]
  subst hxe
  show wpAny _ _ (noteFrame (.ref a) (compEnvC scope cl C X.env)) _ _ s'
  rw [noteFrame_env (cenv := compEnvC scope cl C X.env) (env := X.env) _ rfl]
  refine HandSPX.looks_onZ Zc.steady hfr hf (by rw [← hs]; exact fl) fun h1 hh up1 => ?_
  rw [← hs] at hh
  obtain ⟨k1, k2, k3, oe, vs, T, oT, ts, he, hz, hd, hv, hnT, hTe, hT, hdT, ht3⟩ := hh
  have C1 : h1.get? C = some oC := k1 _ _ BC
  refine ⟨m, ⟨oC, es, ep, C1, hdC, rC⟩, fun h2 m2 hn2 sb => ?_⟩
  have sb : Heap.SameBut C h1 h2 := sb
  have hn2 : h2.Ns C m2 := hn2
  have nfC : ∀ {b : Addr} {o : Obj} {vs : Array Value}, h1.get? b = some o → o.data = .fields vs → b ≠ C := fun e q z => by
    rw [z, C1] at e; cases e
    rw [hdC] at q; cases q
  have mv : ∀ {b : Addr} {o : Obj}, b ≠ C → h1.get? b = some o → h2.get? b = some o := fun n e => (sb.2 _ n).trans e
  obtain ⟨B', hB'⟩ : ∃ B', B' = PySem.W.hideAll B [C] := ⟨_, rfl⟩
  have bIn : ∀ {b : Addr} {o : Obj}, b ≠ C → B.get? b = some o → B'.get? b = some o := fun n e => by
    rw [hB']; exact PySem.W.hideAll_get _ e (by simpa using n)
  have bOut : ∀ {b : Addr} {o : Obj}, B'.get? b = some o → B.get? b = some o := fun e => by
    rw [hB'] at e; exact PySem.W.of_hideAll _ e
  have bC : B'.get? C = none := by rw [hB']; exact PySem.W.hideAll_none _ (by simp)
  have bNo : ∀ {b : Addr}, B.get? b = none → B'.get? b = none := fun {b} n => by
    cases q : B'.get? b with
    | none => rfl
    | some o => rw [bOut q] at n; cases n
  have st2 : B'.StaysIn h2 := fun b o e => mv (fun z => by rw [z, bC] at e; cases e) (k1 _ _ (bOut e))
  have fr2 : h2.FunFrames B' X.stack := funFrames_none (Heap.FunFrames.sameBut sb hn2 k3) fun L hL => bNo (k3.mem hL).1
  have tr2 : HandSPX.TracedZ h2 B' a (Zc cls d) (rawInt X.env.locals) := ⟨oe, vs, T, oT, ts, mv (nfC he hd) he, hz, hd, hv, bNo hnT, hTe, mv (nfC hT hdT) hT, hdT, ht3⟩
  unfold PySem.passOn
  refine wpAny_bind (wpAny_field (mv (nfC he hd) he) hd hv ?_)
  rw [if_neg (by simp)]
  show wpAny _ _ (setFlight (.ref a) X.env.frame >>= fun _ => throw (.ref a)) _ _ _
  rw [hf]
  refine wpAny_bind (HandSPX.setFlight_anyZ st2 fr2 tr2 fun h3 j1 j2 j3 up3 => wpAny_throw ?_)
  have j3 : HandSPX.TracedZ h3 B' a (Zc cls d) (rawInt X.env.locals) := j3
  obtain ⟨G, g1, g2⟩ := L2.restrict h3 fun b => (B'.get? b).isSome || decide (b ∈ frs X.stack)
  have gB : ∀ {b : Addr} {o : Obj}, B'.get? b = some o → G.get? b = some o := fun {b o} e => by
    rw [g1 b (by simp [e])]; exact j1 _ _ e
  have gO : ∀ {b : Addr} {o : Obj}, G.get? b = some o → h3.get? b = some o ∧ ((B'.get? b).isSome = true ∨ b ∈ frs X.stack) := fun {b o} e => by
    cases q : ((B'.get? b).isSome || decide (b ∈ frs X.stack)) with
    | false => rw [g2 b q] at e; cases e
    | true => exact ⟨by rw [g1 b q] at e; exact e, by simpa [Bool.or_eq_true] using q⟩
  have gF : ∀ {b : Addr} {o : Obj}, s.heap.get? b = some o → b ∈ frs X.stack → ∃ sl, G.get? b = some { o with slots := sl } := fun {b o} e hb => by
    obtain ⟨sl, q⟩ := ub.slot b o e hb
    obtain ⟨_, o', e', nf⟩ := IX.stack.mem hb
    rw [e] at e'; cases e'
    obtain ⟨sl1, q1⟩ := up1 b _ q nf
    obtain ⟨sl2, q2⟩ := up3 b _ (mv (fun z => Cnf (z ▸ hb)) q1) nf
    exact ⟨sl2, by rw [g1 b (by simp [hb])]; exact q2⟩
  have okG : HOk X.prog X.w H2 G := fun b o q => (hok b o q).stay (fun c v hc r => gB (bIn (fun z => by
    rcases hc with hc | hc
    · rw [← hc, z, n2C] at q; cases q
    · rw [z, n2C] at hc; cases hc) r)) (fun _ r => r) fun _ _ r => r
  refine tk _ _ ⟨a, B', { s with heap := G, gens := s'.gens, drawn := s'.drawn, toks := s'.toks }, pins, σ, H2, cls, d, rfl, ?_, fun b o e nb => ?_, Heap.UpToSlots.of_keeps fun b o e => (gO e).1, .inr (.inr ⟨j1, bNo k2, j2, j3⟩), na, os, ag, w⟩
  · refine IX.call (ch := [C]) ⟨fun b o e n hb hc => gB (bIn (by simpa using hc) (ub.keep b o e n hb)), fun b o e _ hb _ => gF e hb, fun b o e n _ => ub.free b o e n, fun b o e hc => ?_, ub.tups, ub.frzs, ub.tbls⟩ okG ag fun b hb => ?_
    · by_cases hb : b ∈ frs X.stack
      · obtain ⟨_, q⟩ := gF e hb
        exact ⟨_, q⟩
      · obtain ⟨o', q⟩ := ub.there b o e hb
        exact ⟨o', gB (bIn (by simpa using hc) q)⟩
    · obtain rfl : b = C := by simpa using hb
      exact ⟨okC.2.2.2.1, okC.2.1, okC.2.2.2.2.1, okC.2.2.2.2.2⟩
  · rcases (gO e).2 with z | z
    · obtain ⟨o', q⟩ := Option.isSome_iff_exists.mp z
      have r := gB q
      rw [e] at r; cases r
      exact q
    · exact absurd z nb
end

/-- turns of an iterator, whose own state may be a thing of the abstract heap -/
structure TurnE (P : Program) (w : World) (K : PySem.W.Frag) (tg : Expr) (J : It) (fp : List Addr) (it : Addr) (tn : Nat → Heap → Prop) : Prop where
  obj : ∀ i h, tn i h → ∀ b ∈ fp, ∃ o, h.get? b = some o ∧ ∀ v, o.data ≠ .cell v
  keep : ∀ i h h', tn i h → (∀ b ∈ fp, ∀ o, h.get? b = some o → h'.get? b = some o) → tn i h'
  item : ∀ Y : Cx, Y.prog = P → Y.w = w → Y.K = K → Y.calm = true → ∀ (i : Nat) (pins : List (Addr × Obj)) (s : Shared) (σ : L2.St) (H : Hp) (E : Value → Shared → Prop), Inv Y pins σ H s → (∀ b ∈ fp, FpOk Y pins H b) → tn i s.heap → J.go i H →
    wpAny (model P w) Y.A (pyNext (.ref it)) (fun r s1 => ∃ u, r = some u ∧ wpAny (model P w) Y.A (letOwnedTupleGo tg (.ref it) u)
      (fun _ s2 => ∃ x H', Inv Y pins σ H' s2 ∧ RelV x u ∧ J.yld i H x H' ∧ tn (i + 1) s2.heap ∧ ∀ b ∈ fp, H' b = none) E s1) E s
  done : ∀ Y : Cx, Y.prog = P → Y.w = w → Y.K = K → Y.calm = true → ∀ (i : Nat) (pins : List (Addr × Obj)) (s : Shared) (σ : L2.St) (H : Hp) (E : Value → Shared → Prop), Inv Y pins σ H s → (∀ b ∈ fp, FpOk Y pins H b) → tn i s.heap → J.stop i H →
    wpAny (model P w) Y.A (pyNext (.ref it)) (fun r s1 => r = none ∧ Inv Y pins σ H s1) E s
  self : ∀ Y : Cx, Y.prog = P → Y.w = w → Y.K = K → ∀ (i : Nat) (pins : List (Addr × Obj)) (s : Shared) (σ : L2.St) (H : Hp) (Q E : Value → Shared → Prop), Inv Y pins σ H s → (J.go i H ∨ J.stop i H) → tn i s.heap → Q (.ref it) s → wpAny (model P w) Y.A (pyIter (.ref it)) Q E s
theorem TurnE.of {P : Program} {w : World} {K : PySem.W.Frag} {tg : Expr} {J : It} {fp : List Addr} {it : Addr} {tn : Nat → Heap → Prop} (T : L2.Turn P w K tg J fp it tn) : TurnE P w K tg J fp it tn :=
  ⟨T.obj, T.keep, T.item, T.done, fun Y _ _ _ i _ s _ _ Q E _ _ st q => T.self Y.A i s Q E st q⟩
/-- an iterator stands, the def's own or a thing of the abstract heap -/
def PIEe (X : Cx) (pins : List (Addr × Obj)) (σ : L2.St) (tg : Expr) (R : It → Hp → Prop) (itv : Value) (s2 : Shared) : Prop :=
  ∃ (it : Addr) (fp : List Addr) (tn : Nat → Heap → Prop) (J : It) (H' : Hp), itv = .ref it ∧ Inv X pins σ H' s2 ∧ TurnE X.prog X.w X.K tg J fp it tn ∧ tn 0 s2.heap ∧ (∀ b ∈ fp, FpOk X pins H' b) ∧ R J H'
structure PIe (X : Cx) (tg iter : Expr) (wi : TI) : Prop where
  run : ∀ (pins : List (Addr × Obj)) (s : Shared) (σ : L2.St) (H : Hp) (R : It → Hp → Prop), Inv X pins σ H s → wi σ H R → wpAny (model X.prog X.w) X.A (eval iter X.env)
    (fun v s1 => wpAny (model X.prog X.w) X.A (pyIter v) (PIEe X pins σ tg R) X.xe s1) X.xe s
theorem PIe.of {X : Cx} {tg iter : Expr} {wi : TI} (h : PI X tg iter wi) : PIe X tg iter wi :=
  ⟨fun pins s σ H R I hw => wpAny_mono (h.run pins s σ H R I hw) (fun v s1 h1 => wpAny_mono h1 (fun itv s2 ⟨it, fp, tn, J, H', e, I', T, r⟩ => ⟨it, fp, tn, J, H', e, I', TurnE.of T, r⟩) fun _ _ z => z) fun _ _ z => z⟩

/-- an element that may let an own error out, where the def does -/
def PEe (X : Cx) (scope : Scope) (e : Expr) (te : TE) : Prop := ∀ (s : Shared) (H : Hp) (C : Addr) (cl : List (Str × Addr)) (fp : List Addr) (xe : Value → Shared → Prop),
  (∀ E : XK, (Takes X fun c d _ H => E c d H) → Passes (L2.CX X.prog X.w) (blkE X s H scope (compEnvC scope cl C X.env) fp xe) E) → PE (blkE X s H scope (compEnvC scope cl C X.env) fp xe) e te
section
variable {X : Cx} {elt tg iter : Expr} {ifs : List Expr} {scope : Scope} {own : List (Str × Nat)} {wi : TI} {g : TG} {tt : TT} {te : TE}
theorem lc_coreE {pins : List (Addr × Obj)} {s : Shared} {σ : L2.St} {H : Hp} {Q : VK} {pos pos' : Pos} {use : Option (Value → Sem Unit)} {Qf : Value → Shared → Prop}
    (hst : X.stack = X.env :: X.outer) (hfm : X.env.frame = some X.env.locals) (calm : X.calm = true) (nd : X.N.Nodup) (I : Inv X pins σ H s) (hi : PIe X tg iter wi) (ok : BlkOk X.N X.env.scope scope own)
    (hg : ∀ (s : Shared) (H : Hp) (C : Addr) (cl : List (Str × Addr)) (fp : List Addr), PG (X.blk s H scope (compEnvC scope cl C X.env) fp) tg g)
    (ht : ∀ (s : Shared) (H : Hp) (C : Addr) (cl : List (Str × Addr)) (fp : List Addr), PTs (X.blk s H scope (compEnvC scope cl C X.env) fp) ifs tt)
    (he : PEe X scope elt te) (hfs : ∀ x, foldedSetIterable iter X.env x = pure x) (h : tLc wi g tt te (own.map (·.2)) σ H Q)
    (fin : ∀ D C s' m H' cenv, cenv.locals = C → Inv X pins σ H' s' → Q (.ref D) H' → s'.heap.Ns C m → FpOk X pins H' C → compEnds (model X.prog X.w) X.A X.xe use Qf (.ref D) cenv (.ok .next) s') :
    wpAny (model X.prog X.w) X.A (comprehension (.ListComp elt [⟨tg, iter, ifs, 0⟩] scope pos) scope X.env pos' (newList []) false (eval iter X.env) use) Qf X.xe s := by
  have frees : ∀ y ∈ scope.names, y.2 = .free → ∃ c, X.env.cells.lookup y.1 = some c := fun y hy e => (ok.free y hy e).elim (fun k => I.ok.has _ (.inl k)) fun k => I.ok.has _ (.inr k)
  refine comprehension_at (use := use) rfl hfs (closure_ok frees) ok.kind (fun y hy e => by rw [ok.uniq y hy, e]) ?_
  refine wpAny_mono (hi.run pins s σ H _ I h) (fun xv s1 hx => wpAny_mono hx (fun itv s2 h2 => ?_) fun _ _ z => z) fun _ _ z => z
  obtain ⟨it, fp, tn, J, H2, rfl, I2, T, st2, f2, q⟩ := h2
  refine wpAny_newObj_type (newEnv_comp ?_) (by show 0 ≤ sizeLine; decide)
  generalize hD : s2.heap.objs.size = D
  obtain ⟨W, ⟨m0, w0⟩, turn⟩ := q D (I2.hok.fresh (Nat.le_of_eq hD))
  generalize hs3 : ({ s2 with heap := s2.heap.push { cls := .type "list", data := .seq ([] : List Value).toArray } } : Shared) = s3
  have h3 : s3.heap = s2.heap.push { cls := .type "list", data := .seq ([] : List Value).toArray } := by rw [← hs3]
  have I3 : Inv X pins σ (upd H2 D (.lst [])) s3 := by
    rw [← hs3]
    refine I2.laid (t' := s2.toks) (fun _ _ e => Heap.get?_push_of_some _ e) (Nat.le_of_eq hD) ⟨Nat.zero_le _, [], 0, .nil, ?_⟩
    rw [← hD]
    exact Heap.get?_push_size _ rfl
  have f3 : ∀ b ∈ fp, FpOk X pins (upd H2 D (.lst [])) b ∧ b < s3.heap.objs.size := fun b hb => by
    obtain ⟨o, e, _⟩ := T.obj _ _ st2 b hb
    have lt := Heap.lt_size e
    refine ⟨⟨?_, (f2 b hb).2⟩, by rw [h3, Heap.size_push]; exact Nat.lt_succ_of_lt lt⟩
    rw [upd_ne fun z => absurd lt (by rw [z, ← hD]; exact Nat.lt_irrefl _)]
    exact (f2 b hb).1
  have st3 : tn 0 s3.heap := T.keep _ _ _ st2 fun _ _ _ e => by
    rw [h3]
    exact Heap.get?_push_of_some _ e
  have I4 := block_start I3 ok nd f3
  have pg := hg s3 (upd H2 D (.lst [])) s3.heap.objs.size (cellsFrom (s3.heap.objs.size + 1) scope.names (cloFrom X.env.cells scope.names [])) fp
  have pt := ht s3 (upd H2 D (.lst [])) s3.heap.objs.size (cellsFrom (s3.heap.objs.size + 1) scope.names (cloFrom X.env.cells scope.names [])) fp
  have pe := fun xe hxe => he s3 (upd H2 D (.lst [])) s3.heap.objs.size (cellsFrom (s3.heap.objs.size + 1) scope.names (cloFrom X.env.cells scope.names [])) fp xe fun E tk => passes_blk hst hfm I3 rfl (fun b hb => (f3 b hb).1) tk hxe
  show codeAny _ _ (.compStart (.ListComp elt [⟨tg, iter, ifs, 0⟩] scope pos) 0 (.ref it) (.ref D) (compEnvC scope (cellsFrom (s3.heap.objs.size + 1) scope.names (cloFrom X.env.cells scope.names [])) s3.heap.objs.size X.env))
    (compEnds (model X.prog X.w) X.A X.xe use Qf (.ref D) (compEnvC scope (cellsFrom (s3.heap.objs.size + 1) scope.names (cloFrom X.env.cells scope.names [])) s3.heap.objs.size X.env)) { s3 with heap := pushCells (s3.heap.push { cls := .type "dict", data := .dict #[] }) scope.names }
  have nfp : ∀ b ∈ fp, (upd H2 D (.lst [])) b = none := fun b hb => (f3 b hb).1.1
  generalize hce : compEnvC scope (cellsFrom (s3.heap.objs.size + 1) scope.names (cloFrom X.env.cells scope.names [])) s3.heap.objs.size X.env = ce at I4 pg pt pe ⊢
  have pe := pe _ rfl
  have cL : ce.locals = s3.heap.objs.size := by subst hce; rfl
  generalize hH3 : upd H2 D (.lst []) = H3 at I3 I4 pg pt pe w0 nfp f3
  generalize hs4 : ({ s3 with heap := pushCells (s3.heap.push { cls := .type "dict", data := .dict #[] }) scope.names } : Shared) = s4 at I4 ⊢
  have st4 : tn 0 s4.heap := T.keep _ _ _ st3 fun _ _ _ e => by
    rw [← hs4]
    exact pushCells_keeps _ _ _ _ (Heap.get?_push_of_some _ e)
  have stat : ∀ {σ' : L2.St} {H' : Hp} {s' : Shared}, Inv (X.blk s3 H3 scope ce fp) [] σ' H' s' → (∀ b ∈ fp, H' b = none) → ∀ b ∈ fp, FpOk (X.blk s3 H3 scope ce fp) [] H' b := fun {_ H' _} J hn b hb =>
    ⟨hn b hb, (J.ok.exf b hb).1, J.ok.exfs b hb, .inl hb, fun x c e => (J.ok.exf b hb).2 x c e, fun p hp => absurd (show p ∈ ([] : List (Addr × Obj)) ++ [] from hp) (by simp)⟩
  have err : ∀ {e : Value} {s' : Shared}, CompFails (model X.prog X.w) X.A X.xe ce e s' → compEnds (model X.prog X.w) X.A X.xe use Qf (.ref D) ce (.error e) s' := fun z => by cases use <;> exact z
  have loop : codeAny (model X.prog X.w) X.A (.compLoop (.ListComp elt [⟨tg, iter, ifs, 0⟩] scope pos) 0 (.ref it) (.ref D) ce) (compEnds (model X.prog X.w) X.A X.xe use Qf (.ref D) ce) s4 := by
    refine compLoop_any (fun n s' => ∃ i H', Inv (X.blk s3 H3 scope ce fp) [] (wipe σ (own.map (·.2))) H' s' ∧ tn i s'.heap ∧ (∀ b ∈ fp, H' b = none) ∧ W i n H') ?_ m0 ⟨0, H3, I4, st4, nfp, w0⟩
    rintro n s5 ⟨i, H5, I5, st5, n5, w5⟩
    rcases turn i n H5 w5 with ⟨stop, qq⟩ | ⟨go, Nx, down, step⟩
    · refine thnF (T.done (X.blk s3 H3 scope ce fp) rfl rfl rfl calm i [] s5 _ H5 (fun _ _ => False) I5 (stat I5 n5) st5 stop) fun r s6 ⟨hr, I6⟩ => ?_
      subst hr
      have I7 : Inv X pins σ H5 s6 := I3.call' (ch := fp) I6.os I6.base I6.hok I6.bare fun b hb =>
        let z := (f3 b hb).1
        ⟨z.2.2.2.1, z.2.1, z.2.2.2.2.1, z.2.2.2.2.2⟩
      have nC : H5 ce.locals = none := I6.free
      rw [cL] at nC
      obtain ⟨m, hn, _⟩ := I6.loc
      have hn : s6.heap.Ns ce.locals m := hn
      rw [cL] at hn
      exact fin D s3.heap.objs.size s6 m H5 ce cL I7 qq hn (I3.fpOk (Nat.le_refl _) nC)
    · refine thnF (T.item (X.blk s3 H3 scope ce fp) rfl rfl rfl calm i [] s5 _ H5 (fun _ _ => False) I5 (stat I5 n5) st5 go) fun r s6 ⟨u, hr, h6⟩ => ?_
      subst hr
      refine thnF h6 fun _ s7 ⟨x, H7, I7, r7, y7, st7, n7⟩ => ?_
      refine thnF (pg.run _ s7 _ H7 x u _ (I7.pinned (stat I7 n7) (T.obj _ _ st7)) r7 (step x H7 y7)) fun _ s8 ⟨σ8, H8, I8, hw8, q8⟩ => ?_
      refine thnF (pt.run _ s8 σ8 H8 _ I8 q8) fun b s9 ⟨H9, I9, q9⟩ => ?_
      have last : ∀ {s' : Shared} {H' : Hp}, Inv (X.blk s3 H3 scope ce fp) ([] ++ pinsAt fp s7.heap) σ8 H' s' → Nx H' → ∃ m, m < n ∧ ∃ i H', Inv (X.blk s3 H3 scope ce fp) [] (wipe σ (own.map (·.2))) H' s' ∧ tn i s'.heap ∧ (∀ b ∈ fp, H' b = none) ∧ W i m H' := fun {s' H'} J nx => by
        obtain ⟨m', lt, w'⟩ := down H' nx
        have stay : ∀ b ∈ fp, ∀ o, s7.heap.get? b = some o → s'.heap.get? b = some o ∧ H' b = none := fun b hb o e =>
          let z := J.pin (b, o) (List.mem_append_right _ (List.mem_append_right _ (mem_pinsAt hb e)))
          ⟨z.1, z.2.1⟩
        refine ⟨m', lt, i + 1, H', (J.unpinned (pins := [])).weak (by rw [← hw8, wipe_length]) (fun j v e => ?_), T.keep _ _ _ st7 fun b hb o e => (stay b hb o e).1, fun b hb => ?_, w'⟩
        · rw [← hw8] at e
          exact (wipe_some e).1
        · obtain ⟨o, e, _⟩ := T.obj _ _ st7 b hb
          exact (stay b hb o e).2
      cases b with
      | false => exact last I9 q9
      | true =>
        refine wpAny_mono (pe.run _ s9 σ8 H9 _ (inv_xe I9) q9) (fun z s10 ⟨yv, H10, I10, r10, acc, hD10, hz10, nx⟩ => ?_) fun e s' z => ?_
        · have I10' : Inv (X.blk s3 H3 scope ce fp) ([] ++ pinsAt fp s7.heap) σ8 H10 s10 := inv_xe (xe := fun _ _ => False) I10
          exact app_ok (X := X.blk s3 H3 scope ce fp) I10' hD10 hz10 r10 fun s11 I11 => last I11 nx
        · exact wpAny_mono z (fun _ _ y => err y) fun _ _ y => err y
  refine codeAny_compStart_list loop (T.self (X.blk s3 H3 scope ce fp) rfl rfl rfl 0 _ _ _ _ _ _ I4 ?_ st4 loop)
  exact (turn 0 m0 H3 w0).elim (fun z => .inr z.1) fun z => .inl z.1
/-- as a value -/
theorem pe_lcE {pos : Pos} (hst : X.stack = X.env :: X.outer) (hfm : X.env.frame = some X.env.locals) (calm : X.calm = true) (nd : X.N.Nodup) (hi : PIe X tg iter wi) (ok : BlkOk X.N X.env.scope scope own)
    (hg : ∀ (s : Shared) (H : Hp) (C : Addr) (cl : List (Str × Addr)) (fp : List Addr), PG (X.blk s H scope (compEnvC scope cl C X.env) fp) tg g)
    (ht : ∀ (s : Shared) (H : Hp) (C : Addr) (cl : List (Str × Addr)) (fp : List Addr), PTs (X.blk s H scope (compEnvC scope cl C X.env) fp) ifs tt)
    (he : PEe X scope elt te) (hfs : ∀ x, foldedSetIterable iter X.env x = pure x := by intro _; rfl) : PE X (.ListComp elt [⟨tg, iter, ifs, 0⟩] scope pos) (tLc wi g tt te (own.map (·.2))) := by
  refine ⟨fun pins s σ H Q I h => ?_⟩
  rw [eval_ListComp]
  refine lc_coreE hst hfm calm nd I hi ok hg ht he hfs h fun D C s' m H' cenv hc J q hn f => ⟨m, by rw [hc]; exact hn, fun h2 sb => ?_⟩
  exact ⟨.ref D, H', J.turned (t' := s'.toks) (fun b o nb e => (sb.2 b (by rw [hc]; exact nb)).trans e) f.1 f.2.1 f.2.2.2.1 f.2.2.2.2.1 f.2.2.2.2.2, rfl, q⟩
/-- to a name, on one line -/
theorem ps_setLcE {i : Nat} {y : Str} {py pos spos : Pos} (hst : X.stack = X.env :: X.outer) (hfm : X.env.frame = some X.env.locals) (calm : X.calm = true) (nd : X.N.Nodup) (hy : X.N[i]? = some y) (hyl : X.env.scope.names.lookup y = some .local)
    (hsw : swapsWith (.ListComp elt [⟨tg, iter, ifs, 0⟩] scope pos) (some (.Name y py)) spos.line X.env = pure true) (hi : PIe X tg iter wi) (ok : BlkOk X.N X.env.scope scope own)
    (hg : ∀ (s : Shared) (H : Hp) (C : Addr) (cl : List (Str × Addr)) (fp : List Addr), PG (X.blk s H scope (compEnvC scope cl C X.env) fp) tg g)
    (ht : ∀ (s : Shared) (H : Hp) (C : Addr) (cl : List (Str × Addr)) (fp : List Addr), PTs (X.blk s H scope (compEnvC scope cl C X.env) fp) ifs tt)
    (he : PEe X scope elt te) (hfs : ∀ x, foldedSetIterable iter X.env x = pure x := by intro _; rfl) : PS X (.Assign [.Name y py] (.ListComp elt [⟨tg, iter, ifs, 0⟩] scope pos) spos) (tAsg (tLc wi g tt te (own.map (·.2))) (gName i)) := by
  refine ⟨fun pins s σ H D I h => ?_⟩
  have h : tLc wi g tt te (own.map (·.2)) σ H (fun x H1 => gName i x σ H1 D.nx) := h
  rw [exec_Assign_Name_used _ _ _ _ hsw]
  refine wpAny_bind (wpAny_standAt (wpAny_bind ?_))
  show wpAny _ X.A (do let _ ← comprehension (.ListComp elt [⟨tg, iter, ifs, 0⟩] scope pos) scope X.env (firstIterPos [⟨tg, iter, ifs, 0⟩] pos) (newList []) false (eval iter X.env) (some (assign (.Name y py) X.env))) _ _ s
  refine wpAny_bind (wpAny_mono (lc_coreE (Qf := fun _ s' => SP X pins D .next s') hst hfm calm nd I hi ok hg ht he hfs h fun L C s' m H' cenv hc J q hn f => ?_) (fun _ s' hq => wpAny_pure (wpAny_pure hq)) fun _ _ z => z)
  show wpAny _ _ (assign (.Name y py) X.env (.ref L)) _ _ _
  refine wpAny_assign_Name (store_ok2 (v := V.ref L) J nd hy (.inl hyl) rfl (fun s2 J2 ⟨a, sb, ha⟩ => ?_) (.inr hyl))
  have ne : C ≠ a := ha.elim (fun z => z ▸ f.2.1) fun z e => f.2.2.2.2.1 y a z e.symm
  refine ⟨m, by rw [hc]; exact hn.sameBut sb ne, fun h3 sb3 => ?_⟩
  exact ⟨_, H', J2.turned (t' := s2.toks) (fun b o nb e => (sb3.2 b (by rw [hc]; exact nb)).trans e) f.1 f.2.1 f.2.2.2.1 f.2.2.2.2.1 f.2.2.2.2.2, q⟩
end
end UL

set_option Elab.async false
set_option linter.all false
set_option maxRecDepth 100000
/-! own: tuple(d) of a dict, the truth of a dict, a rule that is one of two rules -/
namespace UL
open PySem PySem.Spec PyProof.Rows L2 Evl TL
section
variable {prog : Program} {w : World} {A : Around} {E : Value → Shared → Prop} {s : Shared} {d : Addr} {n : Nat} {Pn : Nat → Value → Prop} {OK : Heap → Prop}
theorem tup_dict_new {Q : Value → Shared → Prop} (S : PySem.W.KdlSrc prog w "dict" d d n Pn OK) (hh : A.handled = none) (hok : OK s.heap) (hn : n ≤ sizeLine)
    (h : ∀ (h' : Heap) (tk : Nat) (acc : Array Value), (∀ b o, s.heap.get? b = some o → h'.get? b = some o) → ItemsOf Pn acc n → Q (.ref h'.objs.size) { s with heap := h'.push { cls := .type "tuple", data := .seq acc }, toks := tk }) :
    codeAny (model prog w) A (.call (.builtin "tuple.__new__") ⟨[.type "tuple", .ref d], []⟩) (wants Q E) s := by
  refine codeAny_of_tree (wpAny_bind (m := checkBuiltinCall "tuple.__new__" ⟨[.type "tuple", .ref d], []⟩) (wpAny_of_eq (F.newCall_tuple_1 _) (wpAny_pure ⟨plainId_quiet F.plain_tuple_new _, codeAny_builtin F.entry_tuple_new ?_⟩)))
  rw [show A.under _ = _ from Around.under_plainId F.plain_tuple_new _]; have g1 := sub_tuple_self; have g2 := init_tuple_lookup; have g3 := madeHere_tuple
  have hT : s.TypeIs (.ref d) "dict" := S.type s hok; have gh : A.in1.handled = none := hh
  wp_walk using wpAny_typeOf hT, PySem.W.kdu_collect (A := A.in1) S gh hok hn
  intro h' tk acc hk ia
  show wpAny _ _ (Builtin.Tuple.tupleExact acc.toList.toArray >>= ret) _ _ _
  rw [Array.toArray_toList]; unfold Builtin.Tuple.tupleExact
  exact wpAny_bind (wpAny_newObj_type (wpAny_pure (h h' tk acc hk ia)) (by show acc.size ≤ sizeLine; rw [ia.1]; exact hn))
theorem tup_dict {Q : Value → Shared → Prop} (S : PySem.W.KdlSrc prog w "dict" d d n Pn OK) (hh : A.handled = none) (hok : OK s.heap) (hn : n ≤ sizeLine)
    (h : ∀ (h' : Heap) (tk : Nat) (acc : Array Value), (∀ b o, s.heap.get? b = some o → h'.get? b = some o) → ItemsOf Pn acc n → Q (.ref h'.objs.size) { s with heap := h'.push { cls := .type "tuple", data := .seq acc }, toks := tk }) :
    wpAny (model prog w) A (call (.type "tuple") [.ref d]) Q E s :=
  callType_codes (Q₁ := fun v t => t.TypeIs v "tuple" ∧ Q v t) F.called_tuple (F.typeCall_tuple_1 _) F.entry_object_init (tup_dict_new (A := A.in1) S hh hok hn fun h' tk acc hk ia => ⟨⟨_, Heap.get?_push_size _ rfl, rfl⟩, h h' tk acc hk ia⟩)
    fun v t q => ⟨q.1, F.args_object_init_2 v _, object_init_meets F.called_tuple.init.lookup F.called_tuple.made (by decide) prog w A.in1 _ t ⟨q.1, rfl, q.2⟩⟩
end
variable {X : Cx}
def rTupD : List V → Hp → VK → Prop := fun xs H Q => ∃ p ks, xs = [.ref p] ∧ H p = some (.dK ks) ∧ ∀ q, H q = none → Q (.ref q) (upd H q (.tup (ks.map fun kv => kV kv.1)))
theorem call_tuple_dK (hc : X.calm = true) : CallR X (.type "tuple") rTupD := by
  rintro pins s σ H xs us Q I r ⟨p, ks, rfl, hk, q⟩
  obtain ⟨u, rfl, rx⟩ := vals1 r
  obtain rfl : u = Value.ref p := rx
  obtain ⟨z, lo, vs, rk, hd⟩ := (show ObjOk X.prog X.w H s.heap p (.dK ks) from I.hok p _ hk)
  obtain ⟨ep, hat⟩ := hd.dictAt
  have hl : ks.length = vs.length := Paired.length rk
  refine tup_dict (PySem.W.kdl_dict (knd := mixKind X.prog X.w) (kvs := vs) (ep := ep) lo) (I.ok.hd hc) hat (by rw [← hl]; exact z) fun h' tk acc hkeep ia => ?_
  have I2 : L2.Inv X pins σ H { s with heap := h', toks := tk } := I.kept hkeep
  have key : ∀ (j : Nat) (k : Key) (v : Value), ks[j]?.map (·.1) = some k → acc[j]? = some v → L2.RelV (kV k) v := fun j k v h1 h2 => by
    obtain ⟨k', y, e1, e2⟩ := ia.2 j v h2
    have e3 : (vs.map (·.1))[j]? = some k' := by rw [List.getElem?_map, e1]; rfl
    rw [← KV.keys rk, List.getElem?_map, h1] at e3
    obtain rfl := Option.some.inj e3
    exact keyIs_rel e2
  have new : ObjOk X.prog X.w (upd H h'.objs.size (.tup (ks.map fun kv => kV kv.1))) (h'.push { cls := .type "tuple", data := .seq acc }) h'.objs.size (.tup (ks.map fun kv => kV kv.1)) := by
    refine ⟨by rw [List.length_map]; exact z, acc.toList, vals_of_at (by have := ia.1; simp only [List.length_map, Array.length_toList]; omega) fun j x v h1 h2 => ?_, by rw [Array.toArray_toList]; exact IsTup.new _ _⟩
    rw [List.getElem?_map] at h1
    cases e : ks[j]? with
    | none => rw [e] at h1; cases h1
    | some kv =>
      rw [e] at h1
      cases h1
      exact key j kv.1 v (by rw [e]; rfl) (by rw [← Array.getElem?_toList]; exact h2)
  exact ⟨.ref h'.objs.size, _, I2.laid (t' := tk) (fun _ _ e => Heap.get?_push_of_some _ e) (Nat.le_refl _) new, rfl, q _ (I2.hok.fresh (Nat.le_refl _))⟩
theorem cr_alt {f : Value} {r r' : List V → Hp → VK → Prop} (h : CallR X f r) (h' : CallR X f r') : CallR X f (fun xs H Q => r xs H Q ∨ r' xs H Q) := fun pins s σ H xs us Q I rx q => q.elim (h pins s σ H xs us Q I rx) (h' pins s σ H xs us Q I rx)
end UL

set_option Elab.async false
set_option linter.all false
set_option maxRecDepth 100000
/-! own: a comprehension over an object of an own class whose __iter__ hands out the iterator of a tuple: the iterator is a thing of the abstract heap, it may be spent -/
namespace UL
open PySem PySem.Spec PyProof.Rows L2 Evl TL

/-- the iterator has come to its end -/
def Spent (h : Heap) (it : Addr) : Prop := ∃ o v, h.get? it = some o ∧ o.cls = .type "tuple_iterator" ∧ o.data = .fields #[.none, v]
section
variable {prog : Program} {w : World} {A : Around} {E : Value → Shared → Prop} {s : Shared} {it t : Addr} {i : Nat} {items : Array Value} {Q : Option Value → Shared → Prop}
theorem tupleIter_stops (calm : A.handled = none) (hit : s.heap.IsTupleIter it t i ∨ Spent s.heap it) (ht : s.heap.IsTuple t items) (hx : items[i]? = none) (h : ∀ h', Heap.ExtBut it s.heap h' → Spent h' it → Q none { s with heap := h' }) :
    wpAny (model prog w) A (pyNext (.ref it)) Q E s := by
  have ty : s.TypeIs (.ref it) "tuple_iterator" := hit.elim (fun z => z.typeIs) fun ⟨o, _, e, c, _⟩ => ⟨o, e, c⟩
  unfold pyNext
  refine wpAny_bind (wpAny_attempt (wpAny_callSpecial?_slot (name := Str.ofString "__next__") ty F.slot_tuple_iterator_next (wpAny_call_entry F.slot_tuple_iterator_next ty F.entry_tuple_iterator_next ?_ (F.args_tuple_iterator_next_1 _))))
  show wpAny _ _ (field (.ref it) 0 >>= _) _ _ s
  rcases hit with ⟨o, ho, hc, hd⟩ | ⟨o, v, ho, hc, hd⟩
  · obtain ⟨ol, hol, _, nl, hdl⟩ := ht
    refine wpAny_bind (wpAny_field ho hd (x := .ref t) rfl ?_)
    show wpAny _ _ (if (Value.ref t == Value.none) = true then _ else _) _ _ s
    rw [if_neg (show ¬ ((Value.ref t == Value.none) = true) from Bool.false_ne_true)]
    show wpAny _ _ (field (.ref it) 1 >>= _) _ _ s
    refine wpAny_bind (wpAny_field ho hd (x := .int i 0) rfl ?_)
    show wpAny _ _ (seqItems? (.ref t) >>= _) _ _ s
    refine wpAny_bind (wpAny_seqItems hol hdl ?_)
    simp only [Int.toNat_natCast, hx]
    refine wpAny_bind (wpAny_rule (wpAny_bind (wpAny_setField ho hd (by simp) ?_)))
    show wpAny _ _ (newExc (.type "StopIteration") [] >>= _) _ _ _
    have sp : Spent (s.heap.update it (Obj.mapFields (·.setIfInBounds 0 Value.none))) it := ⟨_, .int i 0, Heap.get?_update_self _ ho (Obj.isFreed_of_fields (Obj.data_mapFields hd _)), (Obj.cls_mapFields ..).trans hc, by
      rw [Obj.data_mapFields hd]
      simp⟩
    refine wpAny_bind ?_
    simp only [newExc, newTuple]
    refine wpAny_bind (wpAny_newObj_type ?_ (by size_fits))
    refine wpAny_bind (m := firstArgMember _ _) (wpAny_of_eq (a := Value.none) (by first | rfl | (simp only [firstArgMember]; rfl)) (wpAny_newObj_type ?_ (by size_fits)))
    simp only [raiseNew]
    refine wpAny_bind (wpAny_handled ?_)
    first | rw [show A.in1.handled = none from calm] | rw [calm]
    refine wpAny_bind (wpAny_pure (wpAny_throw ?_))
    show wpAny _ _ (isInstance _ (.type "StopIteration") >>= _) _ _ _
    refine wpAny_bind (wpAny_isInstance (T := "StopIteration") (b := true) ⟨_, Heap.get?_push_size _ rfl, rfl⟩ isSubtype_stop ?_)
    obtain ⟨o', v', e', c', d'⟩ := sp
    exact wpAny_pure (h _ (((Heap.SameBut.update ..).extBut.push _).push _) ⟨o', v', Heap.get?_push_of_some _ (Heap.get?_push_of_some _ e'), c', d'⟩)
  · refine wpAny_bind (wpAny_field ho hd (x := .none) rfl ?_)
    show wpAny _ _ (if (Value.none == Value.none) = true then _ else _) _ _ s
    rw [if_pos (by rfl)]
    refine wpAny_bind (wpAny_rule (wpAny_bind ?_))
    show wpAny _ _ (newExc (.type "StopIteration") [] >>= _) _ _ _
    refine wpAny_bind ?_
    simp only [newExc, newTuple]
    refine wpAny_bind (wpAny_newObj_type ?_ (by size_fits))
    refine wpAny_bind (m := firstArgMember _ _) (wpAny_of_eq (a := Value.none) (by first | rfl | (simp only [firstArgMember]; rfl)) (wpAny_newObj_type ?_ (by size_fits)))
    simp only [raiseNew]
    refine wpAny_bind (wpAny_handled ?_)
    first | rw [show A.in1.handled = none from calm] | rw [calm]
    refine wpAny_bind (wpAny_pure (wpAny_throw ?_))
    show wpAny _ _ (isInstance _ (.type "StopIteration") >>= _) _ _ _
    refine wpAny_bind (wpAny_isInstance (T := "StopIteration") (b := true) ⟨_, Heap.get?_push_size _ rfl, rfl⟩ isSubtype_stop ?_)
    exact wpAny_pure (h _ (fun b o _ e => Heap.get?_push_of_some _ (Heap.get?_push_of_some _ e)) ⟨o, v, Heap.get?_push_of_some _ (Heap.get?_push_of_some _ ho), hc, hd⟩)
end

/-- the iterator at it, behind i of the n parts of t -/
def ItTO (t it : Addr) (i n : Nat) : HO := .ext fun h => h.IsTupleIter it t i ∨ (i = n ∧ Spent h it)
theorem itTO_ok {P : Program} {w : World} {H : Hp} {h : Heap} {t it : Addr} {i n : Nat} (e : h.IsTupleIter it t i ∨ (i = n ∧ Spent h it)) : ObjOk P w H h it (ItTO t it i n) :=
  ⟨e, e.elim (fun ⟨o, ho, _⟩ => ⟨o, ho⟩) fun ⟨_, o, _, ho, _⟩ => ⟨o, ho⟩, fun _ _ z k => z.elim (fun ⟨o, ho, r⟩ => .inl ⟨o, k _ ho, r⟩) fun ⟨q, o, v, ho, r⟩ => .inr ⟨q, o, v, k _ ho, r⟩⟩
/-- its turns -/
def ItO (K : PySem.W.Frag) (t it : Addr) (zs : List V) : It :=
  ⟨fun i H => H it = some (ItTO t it i zs.length) ∧ SqT K H t zs ∧ i < zs.length, fun i H x H' => zs[i]? = some x ∧ H' = upd H it (ItTO t it (i + 1) zs.length), fun i H => H it = some (ItTO t it i zs.length) ∧ SqT K H t zs ∧ i = zs.length⟩
theorem turn_own {P : Program} {w : World} {K : PySem.W.Frag} {tg : Expr} {t it : Addr} {zs : List V} : TurnE P w K tg (ItO K t it zs) [] it (fun _ _ => True) where
  obj := fun _ _ _ b hb => absurd hb (by simp)
  keep := fun _ _ _ _ _ => trivial
  item := by
    intro Y rfl rfl rfl _ i pins s σ H E I _ _ ⟨hi, hq, lt⟩
    obtain ⟨its, rv, p, _⟩ := I.tuple hq
    obtain ⟨u, hu, ru⟩ := rv.get (List.getElem?_eq_getElem lt)
    have st : s.heap.IsTupleIter it t i := (I.hok it _ hi).1.elim id fun z => absurd z.1 (Nat.ne_of_lt lt)
    refine wpAny_pyNext_tuple_item st p (x := u) (by simpa using hu) fun h' st' sb => ?_
    obtain ⟨o, e, c, d⟩ := id st'
    have J : Inv Y pins σ (upd H it (ItTO t it (i + 1) zs.length)) { s with heap := h' } :=
      I.write (x := it) (e := it) (t' := s.toks) (by rw [hi]; exact True.intro) (.inl rfl) (fun b o nb z => (sb.2 b nb).trans z) ⟨o, e⟩ (itTO_ok (.inl st'))
    exact ⟨u, rfl, go_of (s := { s with heap := h' }) e c d (by decide) ⟨_, _, J, ru, ⟨List.getElem?_eq_getElem lt, rfl⟩, trivial, fun b hb => absurd hb (by simp)⟩⟩
  done := by
    intro Y rfl rfl rfl calm i pins s σ H E I _ _ ⟨hi, hq, e0⟩
    obtain ⟨its, rv, p, _⟩ := I.tuple hq
    have hl := rv.length
    refine tupleIter_stops (I.ok.hd calm) ((I.hok it _ hi).1.imp id fun z => z.2) p (by simp; omega) fun h' eb sp => ⟨rfl, ?_⟩
    have J := I.write (x := it) (e := it) (o := ItTO t it i zs.length) (h' := h') (t' := s.toks) (by rw [hi]; exact True.intro) (.inl rfl) (fun b o nb z => eb b o nb z) (let ⟨o, _, e, _⟩ := sp; ⟨o, e⟩) (itTO_ok (.inr ⟨e0, sp⟩))
    rw [upd_id hi] at J
    exact J
  self := by
    intro Y rfl rfl rfl i pins s σ H Q E I hj _ q
    have hi : H it = some (ItTO t it i zs.length) := hj.elim (fun z => z.1) fun z => z.1
    have ty : s.TypeIs (.ref it) "tuple_iterator" := (I.hok it _ hi).1.elim (fun z => z.typeIs) fun ⟨_, o, _, e, c, _⟩ => ⟨o, e, c⟩
    refine wpAny_pyIter_slot ty F.slot_tuple_iterator_iter (wpAny_call_entry F.slot_tuple_iterator_iter ty F.entry_tuple_iterator_iter ?_ (F.args_tuple_iterator_iter_1 _))
    show wpAny _ _ (ret (.ref it)) _ _ s
    exact wpAny_pure ⟨_, rfl, "tuple_iterator", _, ty, F.slot_tuple_iterator_next.lookup, q⟩

/-- what `for x in o` asks of the class: the method's promise is the iterator of a tuple -/
def tItOwn (K : PySem.W.Frag) (C : Addr) (sp : Sp) (E : XK) (ta : TE) : TI := fun σ H R => ta σ H fun x H1 => ∃ a dx fs, x = .ref a ∧ H1 a = some (.ins C dx fs) ∧
  sp [.ref a] H1 (fun v H2 => ∃ it t zs, v = .ref it ∧ H2 it = some (ItTup t it 0) ∧ SqT K H2 t zs ∧ t ≠ it ∧ R (ItO K t it zs) (upd H2 it (ItTO t it 0 zs.length))) E
section
variable {X : Cx} {n : Nat} {C fi : Addr} {fdI : FuncData} {psI : List Str} {spI : Sp} {EI : XK} {e : Expr} {tg : Expr} {ta : TE}
theorem pi_ownT (hs : PySem.W.findIn X.K (.ref C) "__iter__" = some (some (.ref fi))) (hf : PySem.W.isFn X.K (.ref fi) = true) (FI : FnOk X.prog X.w X.K X.mg X.base CX0 n fi fdI psI spI) (bI : L2.Binds X.K fdI psI []) (room : Room (n + 1) X.A) (he : PE X e ta) :
    PIe X tg e (tItOwn X.K C spI EI ta) := by
  refine ⟨fun pins s σ H R I h => wpAny_mono (he.run pins s σ H _ I h) (fun v s1 h1 => ?_) fun _ _ z => z⟩
  obtain ⟨x, H1, I1, rx, a, dx, fs, rfl, ha, q⟩ := h1
  cases rx
  obtain ⟨_, J, _⟩ := ins_get I1.hok ha
  obtain ⟨_, J, _⟩ := J.look
  obtain ⟨_, frm⟩ := I1.fr
  refine PySem.W.owit_iter frm I1.ok.mod.kin J hs hf ?_
  have r2 : Vals [V.ref a] [Value.ref a] := .cons rfl .nil
  have n2 : [Value.ref a].length = psI.length := r2.length.symm.trans (FI.len _ _ _ _ q)
  have bd := bI _ [Value.ref a] I1.kIn (by rw [List.append_nil]; exact n2)
  rw [List.append_nil] at bd
  refine wpAny_call (codeAny_mono (FI.run X.A X.stack _ _ ⟨[.ref a], []⟩ [.ref a] [.ref a] _ EI (room.mono (Nat.le_succ n)) I1.env0 bd r2 q) fun rr s' z => ?_)
  match rr, z with
  | .error er, z => exact False.elim z
  | .ok .next, z => exact False.elim z
  | .ok .brk, z => exact False.elim z
  | .ok .cont, z => exact False.elim z
  | .ok (.ret w), z =>
    obtain ⟨v, H2, I2, rv, it, t, zs, rfl, hit, hq, nt, hR⟩ := I1.after z
    cases rv
    obtain ⟨o, ho, hc, hd⟩ := (I2.hok it _ hit).1
    have ty : s'.TypeIs (.ref it) "tuple_iterator" := ⟨o, ho, hc⟩
    unfold PySem.W.OwitIt
    refine wpAny_specialOf ty PySem.F.slot_tuple_iterator_next.lookup ?_
    have I3 : Inv X pins σ (upd H2 it (ItTO t it 0 zs.length)) s' := I2.write (x := it) (e := it) (h' := s'.heap) (t' := s'.toks) (by rw [hit]; exact True.intro) (.inl rfl) (fun _ _ _ z => z) ⟨o, ho⟩ (itTO_ok (.inl ⟨o, ho, hc, hd⟩))
    exact ⟨it, [], fun _ _ => True, ItO X.K t it zs, _, rfl, I3, turn_own, trivial, fun b hb => absurd hb (by simp), hR⟩
end
end UL

set_option Elab.async false
set_option linter.all false
set_option maxRecDepth 100000
/-! own: xs.extend(t) of a tuple -/
namespace UL
open PySem PySem.Spec PyProof.Rows L2 Evl TL
set_option maxRecDepth 8000 in
open PySem.AutoSeq1 in
theorem extend_tup (l : Addr) (items : Array Value) (n : Nat) (b : Addr) (items2 : Array Value) (n2 : Nat) (dd : Option Addr) (sl : Array (Option Value)) (hs0 : ¬(!items.isEmpty && Builtin.List.listTooLong (items.size + items2.size)) = true) (hs1 : items.size ≤ sizeLine) (hs2 : items.size + items2.size ≤ sizeLine + 1) :
    Meets (Builtin.«list.extend» ⟨[.ref l, .ref b], []⟩) (fun _ R s => s.heap.get? l = some { cls := .type "list", dict := none, data := .seq items n, slots := #[] } ∧ s.heap.get? b = some { cls := .type "tuple", dict := dd, data := .seq items2 n2, slots := sl } ∧ R (.ok (.ret Value.none)) { s with heap := s.heap.update l (Obj.mapSeq fun x => x ++ items2), toks := s.toks }) :=
  .of_wp fun prog w A R s h => by
    obtain ⟨hp, g, d, tk, os⟩ := s; obtain ⟨hl, hb, h⟩ := h; have f1 := PySem.AutoSeq1.idx_int; have f2 := PySem.AutoSeq1.sub_tuple_tuple; have f3 := PySem.AutoSeq1.sub_list_list; have f4 := PySem.AutoSeq1.sub_tuple_list; have f5 := PySem.AutoSeq1.sub_list_tuple;
    have hz' : (items ++ items2).size ≤ sizeLine + 1 := by rw [Array.size_append]; exact hs2
    wp_walk using (wpAny_updateSeq hl rfl (hz := hs1) (_hz' := hz')), wpAny_loadPart' hl, wpAny_loadPart' hb; exact ⟨_, rfl, h⟩
section
variable {X : Cx}
def rExtT (K : PySem.W.Frag) : V → List V → Hp → VK → Prop := fun x vs H Q => ∃ l b xs zs, x = .ref l ∧ vs = [.ref b] ∧ H l = some (.lst xs) ∧ SqT K H b zs ∧ xs.length + zs.length ≤ sizeLine ∧ Q .non (upd H l (.lst (xs ++ zs)))
theorem mt_extT : MtM X "list.extend" (rExtT X.K) := by
  intro pins s σ H x vs v us Q I rx rv h
  obtain ⟨l, b, xs, zs, rfl, rfl, hH, hB, hz, q⟩ := h
  cases rx
  obtain ⟨u, rfl, ru⟩ := rv.one
  cases ru
  obtain ⟨z, its, n, r, hl, e⟩ := I.lstM hH
  obtain ⟨its2, r2, e2, hl2⟩ := I.tuple hB
  have hl3 := r2.length
  have hsz : its.toArray.size + its2.toArray.size ≤ sizeLine := by rw [List.size_toArray, List.size_toArray]; omega
  have hlong : ¬ (!its.toArray.isEmpty && Builtin.List.listTooLong (its.toArray.size + its2.toArray.size)) = true := by
    rw [notLongL hsz, Bool.and_false]
    exact Bool.false_ne_true
  obtain ⟨o2, e2, hc2, n2, hd2⟩ := e2
  obtain ⟨c2, dd, da, sl⟩ := o2
  cases hc2
  cases hd2
  refine call_meets F.slot_list_extend ⟨_, e, rfl⟩ F.entry_list_extend (F.args_list_extend_2 _ _)
    (extend_tup l its.toArray n b its2.toArray n2 dd sl hlong (by rw [List.size_toArray]; omega) (by omega)) ⟨e, e2, ?_⟩
  refine ⟨.non, _, I.lset (its' := its ++ its2) hH e (by simp) (r.append r2) ?_, rfl, q⟩
  rw [List.length_append]
  omega
end
end UL

set_option Elab.async false
set_option linter.all false
set_option maxRecDepth 100000
/-! own: a try with several clauses, each 'except C as n' with the same n -/
namespace UL
open PySem PySem.Spec PyProof.Rows L2 Evl TL

/-- the clauses, and what they wish together of an error of the body -/
inductive AsOk (X : Cx) (i : Nat) (n : Str) : List ExceptHandler → (WX → Ends → WX) → Prop
  | nil : AsOk X i n [] (fun W _ => W)
  | cons {y : Str} {k : Value} {su : Addr → Value → Option Addr → TS} {st : Stmt} {sts : List Stmt} {q q' : Pos} {rest : List ExceptHandler} {f : WX → Ends → WX} (cn : Names X y k)
      (run : ∀ (a : Addr) (ob : Obj) (cls : Value) (d : Option Addr) (ps : List (Addr × Obj)), Zc cls d ob → (∃ z, ob.data = .fields z) → PSs (X.suite a ((a, ob) :: ps)) (st :: sts) (su a cls d)) (tl : AsOk X i n rest f) :
      AsOk X i n (.ExceptHandler (some (.Name y q)) (some n) (st :: sts) q' :: rest) (fun W D => wAs X.K k i su (f W D) D)
section
variable {X : Cx} {n : Str} {i : Nat} {body : List Stmt} {c0 : ExceptHandler} {cs : List ExceptHandler} {f : WX → Ends → WX} {tb : WX → TS} {W0 : WX} {pos : Pos}
theorem ps_try_asMany (e1 : X.stack = X.env :: X.outer) (e2 : X.env.frame = some X.env.locals) (nd : X.N.Nodup) (at_ : X.N[i]? = some n) (lo : X.env.kindOf n = some .local) (tk : Takes X W0)
    (hb : ∀ (W : WX) (pn : List (Addr × Obj)) (xe : Value → Shared → Prop), Takes (X.tr pn xe) W → PassesOwn (model X.prog X.w) X.A X.env xe → PSs (X.tr pn xe) body (tb W)) (hc : AsOk X i n (c0 :: cs) f) :
    PS X (.Try body (c0 :: cs) [] [] pos) (fun D σ H => tb (f W0 D) D σ H) := by
  refine ⟨fun pins s σ H D I h => wpAny_Try_except ?_⟩
  have ok := I.ok
  have fr : X.A.frames = some (X.env :: X.outer) := ok.frames.trans (by rw [e1])
  refine wpAny_mono ((hb (f W0 D) (X.pn ++ pins) (fun e s₁ => wpAny (model X.prog X.w) X.A (noteFrame e X.env) (fun _ s₂ => wpAny (model X.prog X.w) X.A (setFlight e none) (fun _ s₃ =>
    wpAny (model X.prog X.w) X.A (handleBy e X.env (c0 :: cs)) (SP X pins D) X.xe s₃) X.xe s₂) X.xe s₁) (fun u t xx => ?_) PassesOwn.looking).run [] s σ H D (I.toTry _) h) (fun fl s1 q => ?_) (fun _ _ z => z)
  · obtain ⟨a, B, t0, pins1, σ1, H1, cls, d, rfl, J1, nb, up, sky, na, os, ag, wish⟩ := xx
    have J := J1.ofTry (pins := pins) ok
    show wpAny _ X.A (noteFrame (.ref a) X.env) _ _ _
    refine Sky.land Zc.steady fr e2 (by rw [← e1]; exact sky) fun h3 fl3 up3 => ?_
    have J3 := J.landed (s' := { t with heap := h3 }) nb fl3.1 (up.trans up3) os ag
    obtain ⟨o3, z3, g3, k3, d3⟩ := fl3.there
    have nfr : a ∉ frs (X.env :: X.outer) := fun hm => by
      obtain ⟨_, o4, g4, nf⟩ := fl3.2.2.1.mem hm
      rw [g3] at g4
      cases g4
      exact nf _ d3
    have nL : a ≠ X.env.locals := fun z => nfr (List.mem_filterMap.mpr ⟨X.env, List.mem_cons_self, by rw [e2, z]⟩)
    have nF : a ∉ X.fs := fun hm => by
      obtain ⟨v, hv, q⟩ := List.mem_filterMap.mp hm
      exact nfr (List.mem_filterMap.mpr ⟨v, List.mem_cons_of_mem _ hv, q⟩)
    have S3 := J3.suite g3 d3 na nL nF
    have down : ∀ {l : List ExceptHandler} {g : WX → Ends → WX}, AsOk X i n l g → g W0 D cls d σ1 H1 → wpAny (model X.prog X.w) X.A (handleBy (.ref a) X.env l) (SP X pins D) X.xe { t with heap := h3 } := by
      intro l g hl
      induction hl with
      | nil =>
        intro w
        refine wpAny_handleBy_nil ?_
        obtain ⟨_, _, _, _, _, T, _, _, gz, _, dz, slot, _⟩ := id fl3
        unfold PySem.passOn
        refine wpAny_bind (wpAny_field gz dz slot ?_)
        rw [if_neg (by simp)]
        have go : wpAny (model X.prog X.w) X.A (setFlight (.ref a) X.env.frame) (fun _ t4 => wpAny (model X.prog X.w) X.A (throw (.ref a) : Sem Flow) (SP X pins D) X.xe t4) X.xe { t with heap := h3 } := by
          rw [e2]
          exact HandSPX.setFlight_upZ fl3 fun h4 hh4 up4 => wpAny_throw (tk _ _ ⟨a, B, t0, pins, σ1, H1, cls, d, rfl, J, nb, (up.trans up3).trans up4, .inr (.inr (by rw [e1]; exact hh4)), na, os, ag, w⟩)
        first
          | exact wpAny_bind go
          | exact wpAny_bind (wpAny_pure (wpAny_bind go))
      | @cons y k su st sts q q' rest g cn run tl ih =>
        rintro ⟨b, hb1, yes, no⟩
        refine wpAny_handleBy_cons (codeAny_handlers_test ?_) (fun z => nomatch z)
        have ty : PySem.W.Looks (model X.prog X.w) h3 (typeOf (.ref a)) cls := fun A Q E s k q => wpAny_typeOf_ref (k _ _ g3) (by rw [k3.1]; exact q)
        have look := PySem.W.exm_one (M := model X.prog X.w) J3.kIn ty hb1
        have seen : ∀ {Q : Value → Shared → Prop} {E : Value → Shared → Prop}, Q k { t with heap := h3 } → wpAny (model X.prog X.w) (X.A.mark (some (.ref a))) (eval (.Name y q) X.env) Q E { t with heap := h3 } := fun {Q E} p => by
          obtain ⟨c1, c2, c3 | ⟨c3, c4, c5⟩⟩ := cn
          · exact ld_glob (X := X.suite a ((a, o3) :: (X.pn ++ pins))) S3 c1 c3 p c2
          · exact ld_blt (X := X.suite a ((a, o3) :: (X.pn ++ pins))) S3 c1 c3 c4 p c5 c2
        refine seen (look.here ?_)
        cases b with
        | false => exact ih (no rfl)
        | true =>
          refine codeAny_handlers_suite_as (HandSPX.lands_againZ fl3 fun h4 fl4 up4 => ?_)
          have J4 := J.landed (s' := { t with heap := h4 }) nb fl4.1 ((up.trans up3).trans up4) os ag
          obtain ⟨o4, z4, g4, k4, d4⟩ := fl4.there
          refine store_ok (X := X.suite a ((a, o4) :: (X.pn ++ pins))) (v := .ref a) (J4.suite g4 d4 na nL nF) nd at_ (.inl lo) rfl (fun t5 S5 => ?_) (.inr lo)
          refine wpAny_mono ((run a o4 cls d (X.pn ++ pins) k4 ⟨_, d4⟩).run [] t5 _ H1 _ S5 (yes rfl a na)) (fun fl t6 r => ?_) (fun _ _ z => z.elim)
          have fin : ∀ {σ6 : L2.St} {H6 : Hp} {Q : Shared → Prop}, Inv (X.suite a ((a, o4) :: (X.pn ++ pins))) [] σ6 H6 t6 → (∀ t7, Inv X pins (σ6.set i none) H6 t7 → Q t7) →
              wpAny (model X.prog X.w) X.A (do bindName X.env n .none; unbindBehindTheSuite X.env n q') (fun _ t7 => Q t7) X.xe t6 := fun {σ6 H6 Q} S6 p => gone_ok (S6.unsuite ok) nd at_ lo p
          cases fl with
          | ret u =>
            obtain ⟨v, σ6, H6, S6, rv, p⟩ := r
            exact fin S6 fun t7 J7 => ⟨v, _, _, J7, rv, p⟩
          | next =>
            obtain ⟨σ6, H6, S6, p⟩ := r
            exact fin S6 fun t7 J7 => ⟨_, _, J7, p⟩
          | brk =>
            obtain ⟨σ6, H6, S6, p⟩ := r
            exact fin S6 fun t7 J7 => ⟨_, _, J7, p⟩
          | cont =>
            obtain ⟨σ6, H6, S6, p⟩ := r
            exact fin S6 fun t7 J7 => ⟨_, _, J7, p⟩
    exact down hc wish
  · cases fl with
    | ret u =>
      obtain ⟨v, σ1, H1, J, rv, p⟩ := q
      exact ⟨v, _, _, J.ofTry ok, rv, p⟩
    | next =>
      obtain ⟨σ1, H1, J, p⟩ := q
      exact wpAny_execs_nil ⟨_, _, J.ofTry ok, p⟩
    | brk =>
      obtain ⟨σ1, H1, J, p⟩ := q
      exact ⟨_, _, J.ofTry ok, p⟩
    | cont =>
      obtain ⟨σ1, H1, J, p⟩ := q
      exact ⟨_, _, J.ofTry ok, p⟩
end
end UL

set_option Elab.async false
set_option linter.all false
set_option maxRecDepth 100000
/-! own: C(e, ..) and C.m(e, ..) of a classmethod in a try, where they may let an error out -/
namespace UL
open PySem PySem.Spec PyProof.Rows L2 Evl TL ClX
def tMakeT (C : Addr) (sp : Sp) (E : L2.St → XK) (t : TA) : TE := fun σ H Q => t σ H fun vs H1 =>
  ∀ x dx, H1 x = none → H1 dx = none → dx ≠ x → sp (.ref x :: vs) (upd (upd H1 dx (.own x)) x (.ins C dx [])) (fun v H2 => v = .non ∧ Q (.ref x) H2) (E σ)
def tCMethT (C : Addr) (sp : Sp) (E : L2.St → XK) (ta : TE) (t : TA) : TE := fun σ H Q => ta σ H fun x H1 => x = .ref C ∧ t σ H1 fun vs H2 => sp (.ref C :: vs) H2 Q (E σ)
section
variable {X : Cx} {CX : CXT} {k : Nat} {f C : Addr} {fd : FuncData} {ps : List Str} {sp : Sp} {E : L2.St → XK} {x : Str} {p pos : Pos} {e : Expr} {es : List Expr} {t : TA}
theorem make_runT {pins : List (Addr × Obj)} {σ : L2.St} {H : Hp} {s : Shared} {Q : VK} {us : List Value} {vs : List V} (M : Mk X.K C f) (F : FnOk X.prog X.w X.K X.mg X.base CX k f fd ps sp) (hr : Room (k + 1) X.A) (hb : L2.Binds X.K fd ps [])
    (hx : PassesAt CX X σ (E σ)) (I : Inv X pins σ H s) (r : Vals vs us)
    (h : ∀ x dx, H x = none → H dx = none → dx ≠ x → sp (.ref x :: vs) (upd (upd H dx (.own x)) x (.ins C dx [])) (fun v H2 => v = .non ∧ Q (.ref x) H2) (E σ)) :
    wpAny (model X.prog X.w) X.A (call (.ref C) us) (EP X pins σ Q) X.xe s := by
  let sz := s.heap.objs.size
  have J := Inv.made (C := C) I
  have q0 := h (sz + 1) sz (I.hok.fresh (Nat.le_succ _)) (I.hok.fresh (Nat.le_refl _)) (Nat.ne_of_lt (Nat.lt_succ_self _))
  have ra : Vals (V.ref (sz + 1) :: vs) (Value.ref (sz + 1) :: us) := .cons rfl r
  have na : (Value.ref (sz + 1) :: us ++ []).length = ps.length := by
    rw [List.append_nil, ← ra.length]
    exact F.len _ _ _ _ q0
  have bb := hb _ (Value.ref (sz + 1) :: us) J.kIn na
  rw [List.append_nil] at bb
  have run := F.run _ X.stack _ _ ⟨Value.ref (sz + 1) :: us, []⟩ (Value.ref (sz + 1) :: us) _ _ (E σ) (hr.make C us []) (J.env0.make C us []) bb ra q0
  refine wpAny_call (make_map (f := f) I.kIn M.makes M.init (beq_iff_eq.mp M.fn) (codeAny_mono run fun rr s' z => ?_))
  match rr, z with
  | .error er, z => exact hx pins _ _ er s' J z
  | .ok (.ret u), z =>
    obtain ⟨v, H', J', rv, ev, q⟩ := J.after z
    subst ev
    exact ⟨rv, ⟨V.ref (sz + 1), H', J', rfl, q⟩⟩
  | .ok .next, z => exact False.elim z
  | .ok .brk, z => exact False.elim z
  | .ok .cont, z => exact False.elim z
theorem pe_makeT (M : Mk X.K C f) (F : FnOk X.prog X.w X.K X.mg X.base CX k f fd ps sp) (hr : Room (k + 1) X.A) (hg : Gl X x) (hm : X.mg x = some (.ref C)) (hb : L2.Binds X.K fd ps []) (hx : ∀ σ, PassesAt CX X σ (E σ))
    (ha : PA X (e :: es) t) (hdb : (x == ("__debug__" : Str)) = false := by decide) (he : starEach (e :: es) X.env = (false, eval e X.env) :: starEach es X.env := by rfl) (hpl : (backTo pos (starEach es X.env)).any (·.1) = false := by rfl) :
    PE X (.Call (.Name x p) (e :: es) [] pos) (tMakeT C sp E t) := by
  refine ⟨fun pins s σ H Q I h => ?_⟩
  refine wpAny_Call_Name_kw (ld_glob I hg hm ?_ hdb)
  refine PySem.W.callWith_K (h₀ := X.base) I.ok.mod.kin M.kp (thn (ha.run pos pins s σ H _ I h) fun us s1 ⟨vs, H1, I1, r, q⟩ => ⟨I1.kIn, ?_⟩) he hpl
  exact make_runT M F hr hb (hx σ) I1 r q
end
section
variable {X : Cx} {CX : CXT} {k : Nat} {C p g : Addr} {mc : Value} {fd : FuncData} {ps : List Str} {sp : Sp} {E : L2.St → XK} {o e : Expr} {es : List Expr} {m : Str} {pos apos : Pos} {ta : TE} {t : TA} {pl : Sem Bool}
theorem pe_cmethT (he : PE X o ta) (r : CRead X.K C mc) (c : CMet X.K C mc m p g) (F : FnOk X.prog X.w X.K X.mg X.base CX k g fd ps sp) (hr : Room k X.A) (hb : L2.Binds X.K fd ps []) (hx : ∀ σ, PassesAt CX X σ (E σ)) (ha : PA X (e :: es) t)
    (hst : starEach (e :: es) X.env = (false, eval e X.env) :: starEach es X.env := by rfl) (hpl : (backTo pos (starEach es X.env)).any (·.1) = false := by rfl)
    (ht : eval (.Call (.Attribute o m apos) (e :: es) [] pos) X.env = (do
      let ov ← eval o X.env
      standAt apos.atName
      let (f, first) ← holding [ov] (getMethod ov m pl)
      callWith pos f first (backTo pos (starEach (e :: es) X.env)) (backToKw pos (keywordEach [] X.env))) := by rfl) :
    PE X (.Call (.Attribute o m apos) (e :: es) [] pos) (tCMethT C sp E ta t) := by
  refine ⟨fun pins s σ H Q I h => ?_⟩
  refine PySem.W.methodCall_KW (pl := pl) (thn (he.run pins s σ H _ I h) fun u s1 ⟨x, H1, I1, rx, ex, q⟩ => ?_) ht
  subst ex
  obtain rfl : u = Value.ref C := rx
  refine getmethcm_ok I1 r c fun s2 I2 => ?_
  refine callwith_cm I2 (base_none I1 (Nat.le_refl _)) c.fi (thn (ha.run pos _ s2 σ H1 _ I2 q) fun us s3 ⟨vs, H2, I3, rv, q2⟩ => ⟨⟨pin_at I3, I3.kIn⟩, ?_⟩) hst hpl
  have rr : Vals (V.ref C :: vs) (Value.ref C :: us) := .cons rfl rv
  have hl : (Value.ref C :: us).length = ps.length := by rw [← rr.length]; exact F.len _ _ _ _ q2
  have b := hb s3 (Value.ref C :: us) I3.kIn (by rw [List.append_nil]; exact hl)
  rw [List.append_nil] at b
  have z : wpAny (model X.prog X.w) X.A (call (.ref s1.heap.objs.size) us) (EP X ((s1.heap.objs.size, PySem.W.methodObj (.ref g) (.ref C)) :: pins) σ Q) X.xe s3 :=
    wpAny_call (PySem.W.method_call (pin_at I3) (codeAny_mono (F.run X.A X.stack s3 H2 ⟨Value.ref C :: us, []⟩ (Value.ref C :: us) (V.ref C :: vs) Q (E σ) hr I3.env0 b rr q2) fun r s' hq => match r, hq with
      | .error e, hq => hx σ _ H2 s3 e s' I3 hq
      | .ok (.ret u), hq => I3.after hq
      | .ok .next, hq => False.elim hq
      | .ok .brk, hq => False.elim hq
      | .ok .cont, hq => False.elim hq))
  exact thn z fun _ _ y => unpinE y
end
end UL

set_option Elab.async false
set_option linter.all false
set_option maxRecDepth 100000
/-! own: texts of nodes with labels in the place of some; the operands in a range -/
namespace UL
open PySem PySem.Spec PyProof.Rows L2 Evl TL
def labT (L : Nat → Option Str) (i : Nat) (t : List Nat) : List Nat := match L i with
  | some z => tl z
  | none => t
def txsL (L : Nat → Option Str) (N : List Nd) : List (List Nat) := N.foldl (fun T nd => T ++ [labT L T.length (ndT (fun i => T.getD i []) nd)]) []
def txL' (L : Nat → Option Str) (N : List Nd) (i : Nat) : List Nat := (txsL L N).getD i []
theorem txsL_len (L : Nat → Option Str) (N : List Nd) : (txsL L N).length = N.length := by
  have gen : ∀ (N : List Nd) (T : List (List Nat)), (N.foldl (fun T nd => T ++ [labT L T.length (ndT (fun i => T.getD i []) nd)]) T).length = T.length + N.length := by
    intro N
    induction N with
    | nil => intro T; rfl
    | cons nd r ih =>
      intro T
      rw [List.foldl_cons, ih, List.length_append, List.length_singleton, List.length_cons]
      omega
  have := gen N []
  rw [List.length_nil, Nat.zero_add] at this
  exact this
theorem txsL_snoc (L : Nat → Option Str) (N : List Nd) (nd : Nd) : txsL L (N ++ [nd]) = txsL L N ++ [labT L N.length (ndT (txL' L N) nd)] := by
  have h : txsL L (N ++ [nd]) = txsL L N ++ [labT L (txsL L N).length (ndT (txL' L N) nd)] := by
    unfold txsL
    rw [List.foldl_append]
    rfl
  rw [h, txsL_len]
theorem labT_none (i : Nat) (t : List Nat) : labT (fun _ => none) i t = t := rfl
/-- without labels these are the texts -/
theorem txsL_none (N : List Nd) : txsL (fun _ => none) N = txs N := rfl
theorem txL_old {L : Nat → Option Str} {N : List Nd} {nd : Nd} {i : Nat} (h : i < N.length) : txL' L (N ++ [nd]) i = txL' L N i := by
  unfold txL'
  rw [txsL_snoc, List.getD_eq_getElem?_getD, List.getD_eq_getElem?_getD, List.getElem?_append_left (by rw [txsL_len]; exact h)]
theorem txL_new {L : Nat → Option Str} {N : List Nd} {nd : Nd} : txL' L (N ++ [nd]) N.length = labT L N.length (ndT (txL' L N) nd) := by
  show (txsL L (N ++ [nd])).getD N.length [] = _
  rw [txsL_snoc, List.getD_eq_getElem?_getD, List.getElem?_append_right (by rw [txsL_len]; exact Nat.le_refl _), txsL_len, Nat.sub_self]
  rfl
/-- the operands of a node lie in its range -/
theorem forest_ops {N : List Nd} {st : List Nat} (F : Forest N st) : ∀ (k : Nat) (nd : Nd), N[k]? = some nd → ∀ o ∈ opsOf nd, fst N k ≤ o ∧ o < k := by
  induction F with
  | nil => exact fun k nd h => by cases h
  | @node N r nd F ih =>
    intro k d hk o ho
    by_cases e : k < N.length
    · rw [List.getElem?_append_left e] at hk
      rw [fst_old e]
      exact ih k d hk o ho
    · have hlt := (List.getElem?_eq_some_iff.mp hk).1
      rw [List.length_append, List.length_singleton] at hlt
      have e : k = N.length := by omega
      subst e
      rw [List.getElem?_append_right (Nat.le_refl _), Nat.sub_self] at hk
      have hk : some nd = some d := hk
      cases hk
      obtain ⟨m, pr, po⟩ := (part_append _ _ _ _ _).mp (forest_ok F).part
      have h1 := part_mem po o ho
      rw [fst_new]
      cases hos : opsOf nd with
      | nil => rw [hos] at ho; cases ho
      | cons q qs =>
        rw [hos] at po
        have h2 : fst N q = m := po.1
        show fst N q ≤ o ∧ o < N.length
        omega
/-- and so they lie in the range of each node above it -/
theorem range_ops {N : List Nd} {st : List Nat} (F : Forest N st) {at_ k : Nat} {nd : Nd} (ha : at_ < N.length) (h1 : fst N at_ ≤ k) (h2 : k ≤ at_) (hk : N[k]? = some nd) : ∀ o ∈ opsOf nd, fst N at_ ≤ o ∧ o < k := by
  have ok := forest_ok F
  intro o ho
  obtain ⟨g1, g2⟩ := forest_ops F k nd hk o ho
  have tr : ∀ {p : Nat → Option Nat} {x y z : Nat}, Anc p x y → Anc p y z → Anc p x z := by
    intro p x y z a b
    induction a with
    | refl => exact b
    | step hp _ ih => exact .step hp (ih b)
  have hkl : k < N.length := by omega
  have a1 := (ok.anc k at_ hkl ha).mpr ⟨h1, h2⟩
  have a2 := (ok.anc o k (by omega) hkl).mpr ⟨g1, by omega⟩
  exact ⟨((ok.anc o at_ (by omega) ha).mp (tr a2 a1)).1, g2⟩
end UL

set_option Elab.async false
set_option linter.all false
namespace UL
open PySem PySem.Spec PyProof.Rows L2
def tNo : TE := fun _ _ _ => False
theorem pe_never {X : Cx} {e : Expr} : PE X e tNo := ⟨fun _ _ _ _ _ _ h => h.elim⟩
/-- a comprehension over a walk whose state goes on with the turns -/
theorem lc_at {J : It} {n : Nat} (G : Nat → Hp → Prop) (goes : ∀ i H, i < n → G i H → J.go i H) (stops : ∀ H, G n H → J.stop n H) {g : TG} {tt : TT} {te : TE} {vs : List Nat} {σ : L2.St} {H1 : Hp} {D : Addr} {Qd : Hp → Prop}
    (Pv : Nat → Hp → Prop) (h0 : Pv 0 (upd H1 D (.lst []))) (hG : ∀ i H, i ≤ n → Pv i H → G i H)
    (hs : ∀ i x H H', i < n → Pv i H → J.yld i H x H' → g x (wipe σ vs) H' fun σ2 H2 => wipe σ2 vs = wipe σ vs ∧ tt σ2 H2 fun b H3 =>
      if b = true then te σ2 H3 fun y H4 => ∃ acc, H4 D = some (.lst acc) ∧ acc.length < sizeLine ∧ Pv (i + 1) (upd H4 D (.lst (acc ++ [y]))) else Pv (i + 1) H3) (hd : ∀ H, Pv n H → Qd H) :
    ∃ W : Nat → Nat → Hp → Prop, (∃ m, W 0 m (upd H1 D (.lst []))) ∧ ∀ i m H, W i m H →
      (J.stop i H ∧ Qd H) ∨ (J.go i H ∧ ∃ Nx : Hp → Prop, (∀ H', Nx H' → ∃ m', m' < m ∧ W (i + 1) m' H') ∧ ∀ x H', J.yld i H x H' → g x (wipe σ vs) H' fun σ2 H2 => wipe σ2 vs = wipe σ vs ∧ tt σ2 H2 fun b H3 =>
        if b = true then te σ2 H3 fun y H4 => ∃ acc, H4 D = some (.lst acc) ∧ acc.length < sizeLine ∧ Nx (upd H4 D (.lst (acc ++ [y]))) else Nx H3) := by
  refine ⟨fun i m H => m = n - i ∧ i ≤ n ∧ Pv i H, ⟨n, by simp, Nat.zero_le _, h0⟩, ?_⟩
  rintro i m H ⟨rfl, hi, p⟩
  have q := hG i H hi p
  by_cases hlt : i < n
  · refine .inr ⟨goes i H hlt q, Pv (i + 1), fun H' p' => ⟨n - (i + 1), by omega, rfl, hlt, p'⟩, fun x H' y => hs i x H H' hlt p y⟩
  · have e : i = n := by omega
    subst e
    exact .inl ⟨stops H q, hd H p⟩
end UL

set_option Elab.async false
set_option linter.all false
/-! own: max of a list of whole numbers -/
namespace UL
open PySem PySem.Spec PyProof.Rows L2
def rMaxL (K : PySem.W.Frag) : List V → Hp → VK → Prop := fun vs H Q => ∃ (p : Addr) (ns : List Int), vs = [.ref p] ∧ SqL K H p (ns.map V.int) ∧ 0 < ns.length ∧ ∀ m, m ∈ ns → (∀ y, y ∈ ns → y ≤ m) → Q (.int m) H
section
variable {X : Cx}
theorem call_maxL (hc : X.calm = true) : CallR X (.builtin "max") (rMaxL X.K) := by
  intro pins s σ H vs us Q I r h
  obtain ⟨p, ns, rfl, hs, hn, q⟩ := h
  obtain ⟨its, rv, hl, _⟩ := I.list hs
  rw [Vals.ref1 r]
  have hlen : its.length = ns.length := by
    have e := rv.length
    rw [List.length_map] at e
    exact e.symm
  have hP : ∀ (i : Nat) (v : Value), its.toArray[i]? = some v → ∃ t, v = .int (ns.getD i 0) t := fun i v he => by
    rw [List.getElem?_toArray] at he
    have hi : i < ns.length := by
      rw [← hlen]
      exact (List.getElem?_eq_some_iff.mp he).1
    have e2 : (ns.map V.int)[i]? = some (V.int ns[i]) := by rw [List.getElem?_map, List.getElem?_eq_getElem hi]; rfl
    obtain ⟨u, hu, ru⟩ := rv.get e2
    rw [he] at hu
    obtain rfl := Option.some.inj hu
    have e3 : ns.getD i 0 = ns[i] := by rw [List.getD_eq_getElem?_getD, List.getElem?_eq_getElem hi] <;> rfl
    rw [e3]
    exact ru
  refine call_max_walk (iter_anyList hl.isList fun s₂ e st hfp hlI => ?_)
  subst e
  refine ⟨_, _, _, _, _, _, _, rfl, Walks.list (A := X.A.in1) (show X.A.in1.handled = none from I.ok.hd hc) _ p hlI its.toArray, st, hfp, (by rw [List.size_toArray, hlen]; exact hn), CmpOf.ints_gt (fun i => ns.getD i 0) hP, fun v h' tk hv' hk => ?_⟩
  obtain ⟨t, rfl⟩ := hP _ v hv'
  have hsz : its.toArray.size = ns.length := by rw [List.size_toArray, hlen]
  rw [hsz] at hv' ⊢
  obtain ⟨m1', m2'⟩ := argBest_gt (fun i => ns.getD i 0) (ns.length - 1)
  have m1 : argBest (fun i j => decide (ns.getD i 0 > ns.getD j 0)) (ns.length - 1) ≤ ns.length - 1 := m1'
  have m2 : ∀ j, j ≤ ns.length - 1 → ns.getD j 0 ≤ ns.getD (argBest (fun i j => decide (ns.getD i 0 > ns.getD j 0)) (ns.length - 1)) 0 := m2'
  refine ⟨.int _, H, I.kept (t' := tk) (PySem.old_kept hk), ⟨t, rfl⟩, q _ (PySem.getD_mem (by omega)) fun y hy => ?_⟩
  obtain ⟨j, hj, e⟩ := List.mem_iff_getElem.mp hy
  have z := m2 j (by omega)
  have e3 : ns.getD j 0 = y := by rw [List.getD_eq_getElem?_getD, List.getElem?_eq_getElem hj, ← e] <;> rfl
  rw [e3] at z
  exact z
end
end UL

set_option Elab.async false
set_option linter.all false
set_option maxRecDepth 100000
namespace K24
open PySem PySem.Spec PyProof.Rows L2 Evl TL UL StX
def k_BARE : List V := [V.str "block", V.str "if", V.str "else", V.str "loop", V.str "end"]
def k_BINDING : List V := [V.str "val", V.str "ref", V.str "set"]
def k_NUMERALS : List V := [V.str "0", V.str "1", V.str "2", V.str "3", V.str "4"]
def k_OPERATIONS : List (Str × Int) := [("part", 1), ("pick", 2), ("then", 2)]
def k_RESERVED : List V := [V.str "fun", V.str "out", V.str "use", V.str "val", V.str "ref", V.str "set", V.str "block", V.str "if", V.str "else", V.str "loop", V.str "end", V.str "part", V.str "pick", V.str "then", V.str "dead"]
/-! ### the text -/
def topS (i : Nat) : Stmt := PySem.Challenge.pw_unnamedlives_k24_bounds.main.body.getD i (.Pass ⟨0, 0, 0, 0⟩)
abbrev s_copied : Stmt := topS 2
abbrev n_copied : List Str := ["thing", "levels", "part", "key"]
abbrev p_copied : List Str := ["thing", "levels"]
theorem sc_copied : FnScope n_copied p_copied (defScope s_copied) := ⟨rfl, rfl, rfl, by decide +kernel, rfl, by decide +kernel, by decide +kernel⟩
abbrev s_lives_init : Stmt := inClass (topS 3) 0
abbrev n_lives_init : List Str := ["self", "what"]
abbrev p_lives_init : List Str := ["self", "what"]
theorem sc_lives_init : FnScope n_lives_init p_lives_init (defScope s_lives_init) := ⟨rfl, rfl, rfl, by decide +kernel, rfl, by decide +kernel, by decide +kernel⟩
abbrev s_is_whole : Stmt := topS 18
abbrev n_is_whole : List Str := ["thing"]
abbrev p_is_whole : List Str := ["thing"]
theorem sc_is_whole : FnScope n_is_whole p_is_whole (defScope s_is_whole) := ⟨rfl, rfl, rfl, by decide +kernel, rfl, by decide +kernel, by decide +kernel⟩
abbrev s_is_int : Stmt := topS 19
abbrev n_is_int : List Str := ["thing", "low", "high"]
abbrev p_is_int : List Str := ["thing", "low", "high"]
theorem sc_is_int : FnScope n_is_int p_is_int (defScope s_is_int) := ⟨rfl, rfl, rfl, by decide +kernel, rfl, by decide +kernel, by decide +kernel⟩
abbrev s_is_name : Stmt := topS 25
abbrev n_is_name : List Str := ["text", "sign"]
abbrev p_is_name : List Str := ["text"]
theorem sc_is_name : FnScope n_is_name p_is_name (defScope s_is_name) := ⟨rfl, rfl, rfl, by decide +kernel, rfl, by decide +kernel, by decide +kernel⟩
abbrev s_are_sources : Stmt := topS 48
abbrev n_are_sources : List Str := ["sources", "count", "least", "source"]
abbrev p_are_sources : List Str := ["sources", "count"]
theorem sc_are_sources : FnScope n_are_sources p_are_sources (defScope s_are_sources) := ⟨rfl, rfl, rfl, by decide +kernel, rfl, by decide +kernel, by decide +kernel⟩
abbrev s_is_signature : Stmt := topS 49
abbrev n_is_signature : List Str := ["name", "count", "sources"]
abbrev p_is_signature : List Str := ["name", "count", "sources"]
theorem sc_is_signature : FnScope n_is_signature p_is_signature (defScope s_is_signature) := ⟨rfl, rfl, rfl, by decide +kernel, rfl, by decide +kernel, by decide +kernel⟩
abbrev s_sig_init : Stmt := inClass (topS 50) 0
abbrev n_sig_init : List Str := ["self", "name", "count", "sources"]
abbrev p_sig_init : List Str := ["self", "name", "count", "sources"]
theorem sc_sig_init : FnScope n_sig_init p_sig_init (defScope s_sig_init) := ⟨rfl, rfl, rfl, by decide +kernel, rfl, by decide +kernel, by decide +kernel⟩
abbrev s_sig_text : Stmt := inClass (topS 50) 2
abbrev n_sig_text : List Str := ["self", "numbers", "source"]
abbrev p_sig_text : List Str := ["self"]
theorem sc_sig_text : FnScope n_sig_text p_sig_text (defScope s_sig_text) := ⟨rfl, rfl, rfl, by decide +kernel, rfl, by decide +kernel, by decide +kernel⟩
abbrev s_sig_read : Stmt := inClass (topS 50) 3
abbrev n_sig_read : List Str := ["line", "words", "numbers", "word"]
abbrev p_sig_read : List Str := ["line"]
theorem sc_sig_read : FnScope n_sig_read p_sig_read (defScope s_sig_read) := ⟨rfl, rfl, rfl, by decide +kernel, rfl, by decide +kernel, by decide +kernel⟩
abbrev s_book_init : Stmt := inClass (topS 51) 0
abbrev n_book_init : List Str := ["self", "signatures", "every", "by_name", "signature"]
abbrev p_book_init : List Str := ["self", "signatures"]
theorem sc_book_init : FnScope n_book_init p_book_init (defScope s_book_init) := ⟨rfl, rfl, rfl, by decide +kernel, rfl, by decide +kernel, by decide +kernel⟩
abbrev s_book_has : Stmt := inClass (topS 51) 2
abbrev n_book_has : List Str := ["self", "name"]
abbrev p_book_has : List Str := ["self", "name"]
theorem sc_book_has : FnScope n_book_has p_book_has (defScope s_book_has) := ⟨rfl, rfl, rfl, by decide +kernel, rfl, by decide +kernel, by decide +kernel⟩
abbrev s_book_get : Stmt := inClass (topS 51) 3
abbrev n_book_get : List Str := ["self", "name"]
abbrev p_book_get : List Str := ["self", "name"]
theorem sc_book_get : FnScope n_book_get p_book_get (defScope s_book_get) := ⟨rfl, rfl, rfl, by decide +kernel, rfl, by decide +kernel, by decide +kernel⟩
abbrev s_book_iter : Stmt := inClass (topS 51) 4
abbrev n_book_iter : List Str := ["self"]
abbrev p_book_iter : List Str := ["self"]
theorem sc_book_iter : FnScope n_book_iter p_book_iter (defScope s_book_iter) := ⟨rfl, rfl, rfl, by decide +kernel, rfl, by decide +kernel, by decide +kernel⟩
abbrev s_cut : Stmt := topS 29
abbrev n_cut : List Str := ["text", "pieces", "start", "at", "sign"]
abbrev p_cut : List Str := ["text"]
theorem sc_cut : FnScope n_cut p_cut (defScope s_cut) := ⟨rfl, rfl, rfl, by decide +kernel, rfl, by decide +kernel, by decide +kernel⟩
abbrev s_operation : Stmt := topS 30
abbrev n_operation : List Str := ["word", "operands"]
abbrev p_operation : List Str := ["word", "operands"]
theorem sc_operation : FnScope n_operation p_operation (defScope s_operation) := ⟨rfl, rfl, rfl, by decide +kernel, rfl, by decide +kernel, by decide +kernel⟩
abbrev s_closed : Stmt := topS 31
abbrev n_closed : List Str := ["waiting", "behind_operand", "word", "operands"]
abbrev p_closed : List Str := ["waiting", "behind_operand"]
theorem sc_closed : FnScope n_closed p_closed (defScope s_closed) := ⟨rfl, rfl, rfl, by decide +kernel, rfl, by decide +kernel, by decide +kernel⟩
abbrev s_add_node : Stmt := topS 32
abbrev n_add_node : List Str := ["nodes", "waiting", "node"]
abbrev p_add_node : List Str := ["nodes", "waiting", "node"]
theorem sc_add_node : FnScope n_add_node p_add_node (defScope s_add_node) := ⟨rfl, rfl, rfl, by decide +kernel, rfl, by decide +kernel, by decide +kernel⟩
abbrev s_nodes_of : Stmt := topS 33
abbrev n_nodes_of : List Str := ["text", "nodes", "waiting", "behind_operand", "piece", "node"]
abbrev p_nodes_of : List Str := ["text"]
theorem sc_nodes_of : FnScope n_nodes_of p_nodes_of (defScope s_nodes_of) := ⟨rfl, rfl, rfl, by decide +kernel, rfl, by decide +kernel, by decide +kernel⟩
abbrev s_operands_of : Stmt := topS 34
abbrev n_operands_of : List Str := ["node"]
abbrev p_operands_of : List Str := ["node"]
theorem sc_operands_of : FnScope n_operands_of p_operands_of (defScope s_operands_of) := ⟨rfl, rfl, rfl, by decide +kernel, rfl, by decide +kernel, by decide +kernel⟩
abbrev s_firsts_of : Stmt := topS 35
abbrev n_firsts_of : List Str := ["nodes", "firsts", "at", "node", "operands"]
abbrev p_firsts_of : List Str := ["nodes"]
theorem sc_firsts_of : FnScope n_firsts_of p_firsts_of (defScope s_firsts_of) := ⟨rfl, rfl, rfl, by decide +kernel, rfl, by decide +kernel, by decide +kernel⟩
abbrev s_node_text : Stmt := topS 36
abbrev n_node_text : List Str := ["node", "texts", "word", "inside", "i"]
abbrev p_node_text : List Str := ["node", "texts"]
theorem sc_node_text : FnScope n_node_text p_node_text (defScope s_node_text) := ⟨rfl, rfl, rfl, by decide +kernel, rfl, by decide +kernel, by decide +kernel⟩
abbrev s_ex_init : Stmt := inClass (topS 37) 1
abbrev n_ex_init : List Str := ["self", "nodes"]
abbrev p_ex_init : List Str := ["self", "nodes"]
theorem sc_ex_init : FnScope n_ex_init p_ex_init (defScope s_ex_init) := ⟨rfl, rfl, rfl, by decide +kernel, rfl, by decide +kernel, by decide +kernel⟩
abbrev s_ex_read : Stmt := inClass (topS 37) 2
abbrev n_ex_read : List Str := ["cls", "text", "nodes"]
abbrev p_ex_read : List Str := ["cls", "text"]
theorem sc_ex_read : FnScope n_ex_read p_ex_read (defScope s_ex_read) := ⟨rfl, rfl, rfl, by decide +kernel, rfl, by decide +kernel, by decide +kernel⟩
abbrev s_ex_nodes : Stmt := inClass (topS 37) 3
abbrev n_ex_nodes : List Str := ["self"]
abbrev p_ex_nodes : List Str := ["self"]
theorem sc_ex_nodes : FnScope n_ex_nodes p_ex_nodes (defScope s_ex_nodes) := ⟨rfl, rfl, rfl, by decide +kernel, rfl, by decide +kernel, by decide +kernel⟩
abbrev s_ex_len : Stmt := inClass (topS 37) 4
abbrev n_ex_len : List Str := ["self"]
abbrev p_ex_len : List Str := ["self"]
theorem sc_ex_len : FnScope n_ex_len p_ex_len (defScope s_ex_len) := ⟨rfl, rfl, rfl, by decide +kernel, rfl, by decide +kernel, by decide +kernel⟩
abbrev s_ex_first : Stmt := inClass (topS 37) 5
abbrev n_ex_first : List Str := ["self", "at"]
abbrev p_ex_first : List Str := ["self", "at"]
theorem sc_ex_first : FnScope n_ex_first p_ex_first (defScope s_ex_first) := ⟨rfl, rfl, rfl, by decide +kernel, rfl, by decide +kernel, by decide +kernel⟩
abbrev s_part_text : Stmt := inClass (topS 37) 7
abbrev n_part_text : List Str := ["self", "at", "named", "texts", "k"]
abbrev p_part_text : List Str := ["self", "at", "named"]
theorem sc_part_text : FnScope n_part_text p_part_text (defScope s_part_text) := ⟨rfl, rfl, rfl, by decide +kernel, rfl, by decide +kernel, by decide +kernel⟩
abbrev s_ex_text : Stmt := inClass (topS 37) 6
abbrev n_ex_text : List Str := ["self"]
abbrev p_ex_text : List Str := ["self"]
theorem sc_ex_text : FnScope n_ex_text p_ex_text (defScope s_ex_text) := ⟨rfl, rfl, rfl, by decide +kernel, rfl, by decide +kernel, by decide +kernel⟩
abbrev s_is_row : Stmt := topS 41
abbrev n_is_row : List Str := ["kind", "name", "expression"]
abbrev p_is_row : List Str := ["kind", "name", "expression"]
theorem sc_is_row : FnScope n_is_row p_is_row (defScope s_is_row) := ⟨rfl, rfl, rfl, by decide +kernel, rfl, by decide +kernel, by decide +kernel⟩
abbrev s_parts_of : Stmt := topS 42
abbrev n_parts_of : List Str := ["text", "kind", "_", "rest", "name", "inside"]
abbrev p_parts_of : List Str := ["text"]
theorem sc_parts_of : FnScope n_parts_of p_parts_of (defScope s_parts_of) := ⟨rfl, rfl, rfl, by decide +kernel, rfl, by decide +kernel, by decide +kernel⟩
abbrev s_row_init : Stmt := inClass (topS 43) 0
abbrev n_row_init : List Str := ["self", "kind", "name", "expression"]
abbrev p_row_init : List Str := ["self", "kind", "name", "expression"]
theorem sc_row_init : FnScope n_row_init p_row_init (defScope s_row_init) := ⟨rfl, rfl, rfl, by decide +kernel, rfl, by decide +kernel, by decide +kernel⟩
abbrev s_row_text : Stmt := inClass (topS 43) 1
abbrev n_row_text : List Str := ["self", "inside"]
abbrev p_row_text : List Str := ["self"]
theorem sc_row_text : FnScope n_row_text p_row_text (defScope s_row_text) := ⟨rfl, rfl, rfl, by decide +kernel, rfl, by decide +kernel, by decide +kernel⟩
abbrev s_row_read : Stmt := inClass (topS 43) 2
abbrev n_row_read : List Str := ["text", "kind", "name", "inside", "expression"]
abbrev p_row_read : List Str := ["text"]
theorem sc_row_read : FnScope n_row_read p_row_read (defScope s_row_read) := ⟨rfl, rfl, rfl, by decide +kernel, rfl, by decide +kernel, by decide +kernel⟩
abbrev s_text_of : Stmt := topS 53
abbrev n_text_of : List Str := ["book", "outs", "rows", "lines", "signature", "row"]
abbrev p_text_of : List Str := ["book", "outs", "rows"]
theorem sc_text_of : FnScope n_text_of p_text_of (defScope s_text_of) := ⟨rfl, rfl, rfl, by decide +kernel, rfl, by decide +kernel, by decide +kernel⟩
abbrev s_read_signature : Stmt := topS 54
abbrev n_read_signature : List Str := ["line", "j"]
abbrev p_read_signature : List Str := ["line", "j"]
theorem sc_read_signature : FnScope n_read_signature p_read_signature (defScope s_read_signature) := ⟨rfl, rfl, rfl, by decide +kernel, rfl, by decide +kernel, by decide +kernel⟩
abbrev s_read_outs : Stmt := topS 55
abbrev n_read_outs : List Str := ["line", "j", "outs", "name"]
abbrev p_read_outs : List Str := ["line", "j"]
theorem sc_read_outs : FnScope n_read_outs p_read_outs (defScope s_read_outs) := ⟨rfl, rfl, rfl, by decide +kernel, rfl, by decide +kernel, by decide +kernel⟩
abbrev s_read_row : Stmt := topS 56
abbrev n_read_row : List Str := ["line", "j"]
abbrev p_read_row : List Str := ["line", "j"]
theorem sc_read_row : FnScope n_read_row p_read_row (defScope s_read_row) := ⟨rfl, rfl, rfl, by decide +kernel, rfl, by decide +kernel, by decide +kernel⟩
abbrev s_read_lines : Stmt := topS 57
abbrev n_read_lines : List Str := ["text", "signatures", "outs", "rows", "lines", "j", "line", "is_head"]
abbrev p_read_lines : List Str := ["text"]
theorem sc_read_lines : FnScope n_read_lines p_read_lines (defScope s_read_lines) := ⟨rfl, rfl, rfl, by decide +kernel, rfl, by decide +kernel, by decide +kernel⟩
abbrev s_bl_init : Stmt := inClass (topS 58) 0
abbrev n_bl_init : List Str := ["self", "most_depth"]
abbrev p_bl_init : List Str := ["self", "most_depth"]
theorem sc_bl_init : FnScope n_bl_init p_bl_init (defScope s_bl_init) := ⟨rfl, rfl, rfl, by decide +kernel, rfl, by decide +kernel, by decide +kernel⟩
abbrev s_bl_take : Stmt := inClass (topS 58) 1
abbrev n_bl_take : List Str := ["self", "kind", "k"]
abbrev p_bl_take : List Str := ["self", "kind"]
theorem sc_bl_take : FnScope n_bl_take p_bl_take (defScope s_bl_take) := ⟨rfl, rfl, rfl, by decide +kernel, rfl, by decide +kernel, by decide +kernel⟩
abbrev s_bl_fin : Stmt := inClass (topS 58) 2
abbrev n_bl_fin : List Str := ["self", "k"]
abbrev p_bl_fin : List Str := ["self"]
theorem sc_bl_fin : FnScope n_bl_fin p_bl_fin (defScope s_bl_fin) := ⟨rfl, rfl, rfl, by decide +kernel, rfl, by decide +kernel, by decide +kernel⟩
abbrev s_bl_around : Stmt := inClass (topS 58) 3
abbrev n_bl_around : List Str := ["self", "k"]
abbrev p_bl_around : List Str := ["self", "k"]
theorem sc_bl_around : FnScope n_bl_around p_bl_around (defScope s_bl_around) := ⟨rfl, rfl, rfl, by decide +kernel, rfl, by decide +kernel, by decide +kernel⟩
abbrev s_bl_inner : Stmt := inClass (topS 58) 4
abbrev n_bl_inner : List Str := ["self", "k"]
abbrev p_bl_inner : List Str := ["self", "k"]
theorem sc_bl_inner : FnScope n_bl_inner p_bl_inner (defScope s_bl_inner) := ⟨rfl, rfl, rfl, by decide +kernel, rfl, by decide +kernel, by decide +kernel⟩
abbrev s_pr_init : Stmt := inClass (topS 59) 4
abbrev n_pr_init : List Str := ["self", "book", "outs", "rows"]
abbrev p_pr_init : List Str := ["self", "book", "outs", "rows"]
theorem sc_pr_init : FnScope n_pr_init p_pr_init (defScope s_pr_init) := ⟨rfl, rfl, rfl, by decide +kernel, rfl, by decide +kernel, by decide +kernel⟩
abbrev s_pr_outs : Stmt := inClass (topS 59) 5
abbrev n_pr_outs : List Str := ["self", "name"]
abbrev p_pr_outs : List Str := ["self"]
theorem sc_pr_outs : FnScope n_pr_outs p_pr_outs (defScope s_pr_outs) := ⟨rfl, rfl, rfl, by decide +kernel, rfl, by decide +kernel, by decide +kernel⟩
abbrev s_pr_check : Stmt := inClass (topS 59) 8
abbrev n_pr_check : List Str := ["self", "k", "name"]
abbrev p_pr_check : List Str := ["self", "k", "name"]
theorem sc_pr_check : FnScope n_pr_check p_pr_check (defScope s_pr_check) := ⟨rfl, rfl, rfl, by decide +kernel, rfl, by decide +kernel, by decide +kernel⟩
abbrev s_pr_scope : Stmt := inClass (topS 59) 10
abbrev n_pr_scope : List Str := ["self", "k", "name"]
abbrev p_pr_scope : List Str := ["self", "k", "name"]
theorem sc_pr_scope : FnScope n_pr_scope p_pr_scope (defScope s_pr_scope) := ⟨rfl, rfl, rfl, by decide +kernel, rfl, by decide +kernel, by decide +kernel⟩
abbrev s_pr_rows : Stmt := inClass (topS 59) 6
abbrev n_pr_rows : List Str := ["self", "count", "k", "row"]
abbrev p_pr_rows : List Str := ["self"]
theorem sc_pr_rows : FnScope n_pr_rows p_pr_rows (defScope s_pr_rows) := ⟨rfl, rfl, rfl, by decide +kernel, rfl, by decide +kernel, by decide +kernel⟩
abbrev s_pr_nodes : Stmt := inClass (topS 59) 7
abbrev n_pr_nodes : List Str := ["self", "k", "nodes", "node"]
abbrev p_pr_nodes : List Str := ["self", "k", "nodes"]
theorem sc_pr_nodes : FnScope n_pr_nodes p_pr_nodes (defScope s_pr_nodes) := ⟨rfl, rfl, rfl, by decide +kernel, rfl, by decide +kernel, by decide +kernel⟩
abbrev s_pr_name : Stmt := inClass (topS 59) 9
abbrev n_pr_name : List Str := ["self", "k", "row"]
abbrev p_pr_name : List Str := ["self", "k", "row"]
theorem sc_pr_name : FnScope n_pr_name p_pr_name (defScope s_pr_name) := ⟨rfl, rfl, rfl, by decide +kernel, rfl, by decide +kernel, by decide +kernel⟩
abbrev s_pr_len : Stmt := inClass (topS 59) 11
abbrev n_pr_len : List Str := ["self"]
abbrev p_pr_len : List Str := ["self"]
theorem sc_pr_len : FnScope n_pr_len p_pr_len (defScope s_pr_len) := ⟨rfl, rfl, rfl, by decide +kernel, rfl, by decide +kernel, by decide +kernel⟩
abbrev s_pr_text : Stmt := inClass (topS 59) 17
abbrev n_pr_text : List Str := ["self"]
abbrev p_pr_text : List Str := ["self"]
theorem sc_pr_text : FnScope n_pr_text p_pr_text (defScope s_pr_text) := ⟨rfl, rfl, rfl, by decide +kernel, rfl, by decide +kernel, by decide +kernel⟩
abbrev s_pr_read : Stmt := inClass (topS 59) 18
abbrev n_pr_read : List Str := ["cls", "text", "signatures", "outs", "rows"]
abbrev p_pr_read : List Str := ["cls", "text"]
theorem sc_pr_read : FnScope n_pr_read p_pr_read (defScope s_pr_read) := ⟨rfl, rfl, rfl, by decide +kernel, rfl, by decide +kernel, by decide +kernel⟩
abbrev s_draws : Stmt := topS 61
abbrev n_draws : List Str := ["_law_script", "_law_draws_here", "_law_place", "_law_cell", "_law_rest", "_law_turn", "_law_mixed"]
abbrev p_draws : List Str := ["_law_script"]
theorem sc_draws : FnScope n_draws p_draws (defScope s_draws) := ⟨rfl, rfl, rfl, by decide +kernel, rfl, by decide +kernel, by decide +kernel⟩
abbrev s_take : Stmt := topS 62
abbrev n_take : List Str := ["_law_draws_here", "_law_many"]
abbrev p_take : List Str := ["_law_draws_here", "_law_many"]
theorem sc_take : FnScope n_take p_take (defScope s_take) := ⟨rfl, rfl, rfl, by decide +kernel, rfl, by decide +kernel, by decide +kernel⟩
abbrev s_sizes : Stmt := topS 63
abbrev n_sizes : List Str := ["_law_draws_here", "_law_mode", "_law_few", "_law_sizes_here", "_law_k"]
abbrev p_sizes : List Str := ["_law_draws_here", "_law_mode", "_law_few"]
theorem sc_sizes : FnScope n_sizes p_sizes (defScope s_sizes) := ⟨rfl, rfl, rfl, by decide +kernel, rfl, by decide +kernel, by decide +kernel⟩
abbrev s_srows : Stmt := topS 64
abbrev n_srows : List Str := ["_law_draws_here", "_law_mode", "_law_letter", "_law_outs", "_law_rows", "_law_known", "_law_level", "_law_size", "_law_form", "_law_kind", "_law_word", "_law_choice", "_law_label", "_law_text", "_law_k"]
abbrev p_srows : List Str := ["_law_draws_here", "_law_mode", "_law_letter", "_law_outs"]
theorem sc_srows : FnScope n_srows p_srows (defScope s_srows) := ⟨rfl, rfl, rfl, by decide +kernel, rfl, by decide +kernel, by decide +kernel⟩
abbrev s_due : Stmt := topS 65
abbrev n_due : List Str := ["_law_outs", "_law_rows", "_law_known", "_law_word", "_law_used", "_law_level", "_law_row"]
abbrev p_due : List Str := ["_law_outs", "_law_rows"]
theorem sc_due : FnScope n_due p_due (defScope s_due) := ⟨rfl, rfl, rfl, by decide +kernel, rfl, by decide +kernel, by decide +kernel⟩
abbrev s_told : Stmt := topS 66
abbrev n_told : List Str := ["_law_outs", "_law_rows", "_law_text", "_law_read", "_law_got", "_law_told_here", "e", "_law_row"]
abbrev p_told : List Str := ["_law_outs", "_law_rows", "_law_text", "_law_read"]
theorem sc_told : FnScope n_told p_told (defScope s_told) := ⟨rfl, rfl, rfl, by decide +kernel, rfl, by decide +kernel, by decide +kernel⟩
abbrev s_law : Stmt := topS 67
abbrev n_law : List Str := ["_law_script", "_law_draws_here", "_law_mode", "_law_letter", "_law_few", "_law_outs", "_law_rows", "_law_lines", "_law_text", "_law_due_here", "_law_k", "_law_row"]
abbrev p_law : List Str := ["_law_script"]
theorem sc_law : FnScope n_law p_law (defScope s_law) := ⟨rfl, rfl, rfl, by decide +kernel, rfl, by decide +kernel, by decide +kernel⟩
structure Adr where
  copied : Addr
  d_copied : FuncData
  lives_init : Addr
  d_lives_init : FuncData
  is_whole : Addr
  d_is_whole : FuncData
  is_int : Addr
  d_is_int : FuncData
  is_name : Addr
  d_is_name : FuncData
  are_sources : Addr
  d_are_sources : FuncData
  is_signature : Addr
  d_is_signature : FuncData
  sig_init : Addr
  d_sig_init : FuncData
  sig_text : Addr
  d_sig_text : FuncData
  sig_read : Addr
  d_sig_read : FuncData
  book_init : Addr
  d_book_init : FuncData
  book_has : Addr
  d_book_has : FuncData
  book_get : Addr
  d_book_get : FuncData
  book_iter : Addr
  d_book_iter : FuncData
  cut : Addr
  d_cut : FuncData
  operation : Addr
  d_operation : FuncData
  closed : Addr
  d_closed : FuncData
  add_node : Addr
  d_add_node : FuncData
  nodes_of : Addr
  d_nodes_of : FuncData
  operands_of : Addr
  d_operands_of : FuncData
  firsts_of : Addr
  d_firsts_of : FuncData
  node_text : Addr
  d_node_text : FuncData
  ex_init : Addr
  d_ex_init : FuncData
  ex_read : Addr
  d_ex_read : FuncData
  ex_nodes : Addr
  d_ex_nodes : FuncData
  ex_len : Addr
  d_ex_len : FuncData
  ex_first : Addr
  d_ex_first : FuncData
  part_text : Addr
  d_part_text : FuncData
  ex_text : Addr
  d_ex_text : FuncData
  is_row : Addr
  d_is_row : FuncData
  parts_of : Addr
  d_parts_of : FuncData
  row_init : Addr
  d_row_init : FuncData
  row_text : Addr
  d_row_text : FuncData
  row_read : Addr
  d_row_read : FuncData
  text_of : Addr
  d_text_of : FuncData
  read_signature : Addr
  d_read_signature : FuncData
  read_outs : Addr
  d_read_outs : FuncData
  read_row : Addr
  d_read_row : FuncData
  read_lines : Addr
  d_read_lines : FuncData
  bl_init : Addr
  d_bl_init : FuncData
  bl_take : Addr
  d_bl_take : FuncData
  bl_fin : Addr
  d_bl_fin : FuncData
  bl_around : Addr
  d_bl_around : FuncData
  bl_inner : Addr
  d_bl_inner : FuncData
  pr_init : Addr
  d_pr_init : FuncData
  pr_outs : Addr
  d_pr_outs : FuncData
  pr_check : Addr
  d_pr_check : FuncData
  pr_scope : Addr
  d_pr_scope : FuncData
  pr_rows : Addr
  d_pr_rows : FuncData
  pr_nodes : Addr
  d_pr_nodes : FuncData
  pr_name : Addr
  d_pr_name : FuncData
  pr_len : Addr
  d_pr_len : FuncData
  pr_text : Addr
  d_pr_text : FuncData
  pr_read : Addr
  d_pr_read : FuncData
  draws : Addr
  d_draws : FuncData
  take : Addr
  d_take : FuncData
  sizes : Addr
  d_sizes : FuncData
  srows : Addr
  d_srows : FuncData
  due : Addr
  d_due : FuncData
  told : Addr
  d_told : FuncData
  law : Addr
  d_law : FuncData
  k_sig_init_sources : Addr
  o_sig_read : Addr
  o_ex_read : Addr
  o_ex_nodes : Addr
  o_row_read : Addr
  o_pr_read : Addr
  LivesError : Addr
  InvalidSignature : Addr
  UnknownFunction : Addr
  TooLarge : Addr
  DuplicateFunction : Addr
  Signature : Addr
  Book : Addr
  Expression : Addr
  Row : Addr
  Blocks : Addr
  Program : Addr
  Unbalanced : Addr
  DuplicateName : Addr
  UnknownName : Addr
  NotReference : Addr
  WrongCount : Addr
  BARE : Addr
  BINDING : Addr
  t_DIGITS : Nat
  t_LETTERS : Nat
  t_MOST_ARGUMENTS : Nat
  t_MOST_CHARACTERS : Nat
  t_MOST_GIVEN : Nat
  t_MOST_PARAMETERS : Nat
  NUMERALS : Addr
  OPERATIONS : Addr
  RESERVED : Addr
structure Tx0 (w : World) (K : PySem.W.Frag) (mg : Str → Option Value) (A : Adr) : Prop where
  F_copied : FunD K "copied" "copied" (defArgs s_copied) (defBody s_copied) (defScope s_copied) [.int 4] [] A.copied A.d_copied
  g_copied : mg "copied" = some (.ref A.copied)
  F_lives_init : Fun K "__init__" "LivesError.__init__" s_lives_init A.lives_init A.d_lives_init
  b_lives_init : L2.Binds K A.d_lives_init p_lives_init []
  ti_lives_init : PySem.W.typeIn K (.ref A.lives_init) = some (.type "function")
  F_is_whole : Fun K "is_whole" "is_whole" s_is_whole A.is_whole A.d_is_whole
  b_is_whole : L2.Binds K A.d_is_whole p_is_whole []
  g_is_whole : mg "is_whole" = some (.ref A.is_whole)
  F_is_int : Fun K "is_integer_in" "is_integer_in" s_is_int A.is_int A.d_is_int
  b_is_int : L2.Binds K A.d_is_int p_is_int []
  g_is_int : mg "is_integer_in" = some (.ref A.is_int)
  F_is_name : Fun K "is_name" "is_name" s_is_name A.is_name A.d_is_name
  b_is_name : L2.Binds K A.d_is_name p_is_name []
  g_is_name : mg "is_name" = some (.ref A.is_name)
  F_are_sources : Fun K "are_sources" "are_sources" s_are_sources A.are_sources A.d_are_sources
  b_are_sources : L2.Binds K A.d_are_sources p_are_sources []
  g_are_sources : mg "are_sources" = some (.ref A.are_sources)
  F_is_signature : Fun K "is_signature" "is_signature" s_is_signature A.is_signature A.d_is_signature
  b_is_signature : L2.Binds K A.d_is_signature p_is_signature []
  g_is_signature : mg "is_signature" = some (.ref A.is_signature)
  F_sig_init : FunD K "__init__" "Signature.__init__" (defArgs s_sig_init) (defBody s_sig_init) (defScope s_sig_init) [] [("sources", .ref A.k_sig_init_sources)] A.sig_init A.d_sig_init
  q_sig_init_sources : ∀ H : Hp, SqT K H A.k_sig_init_sources []
  o_sig_init_sources : ∃ o, K.lookup A.k_sig_init_sources = some o ∧ o.cls = .type "tuple"
  e_sig_init : Meth K A.Signature "__init__" A.sig_init
  F_sig_text : Fun K "text" "Signature.text" s_sig_text A.sig_text A.d_sig_text
  b_sig_text : L2.Binds K A.d_sig_text p_sig_text []
  e_sig_text : Meth K A.Signature "text" A.sig_text
  F_sig_read : Fun K "read" "Signature.read" s_sig_read A.sig_read A.d_sig_read
  b_sig_read : L2.Binds K A.d_sig_read p_sig_read []
  sm_sig_read : UL.SMet K A.Signature (.type "type") "read" A.o_sig_read A.sig_read
  F_book_init : Fun K "__init__" "Book.__init__" s_book_init A.book_init A.d_book_init
  e_book_init : Meth K A.Book "__init__" A.book_init
  F_book_has : Fun K "__contains__" "Book.__contains__" s_book_has A.book_has A.d_book_has
  b_book_has : L2.Binds K A.d_book_has p_book_has []
  e_book_has : Meth K A.Book "__contains__" A.book_has
  F_book_get : Fun K "__getitem__" "Book.__getitem__" s_book_get A.book_get A.d_book_get
  b_book_get : L2.Binds K A.d_book_get p_book_get []
  e_book_get : Meth K A.Book "__getitem__" A.book_get
  F_book_iter : Fun K "__iter__" "Book.__iter__" s_book_iter A.book_iter A.d_book_iter
  b_book_iter : L2.Binds K A.d_book_iter p_book_iter []
  e_book_iter : Meth K A.Book "__iter__" A.book_iter
  F_cut : Fun K "cut" "cut" s_cut A.cut A.d_cut
  b_cut : L2.Binds K A.d_cut p_cut []
  g_cut : mg "cut" = some (.ref A.cut)
  F_operation : Fun K "operation" "operation" s_operation A.operation A.d_operation
  b_operation : L2.Binds K A.d_operation p_operation []
  g_operation : mg "operation" = some (.ref A.operation)
  F_closed : Fun K "closed" "closed" s_closed A.closed A.d_closed
  b_closed : L2.Binds K A.d_closed p_closed []
  g_closed : mg "closed" = some (.ref A.closed)
  F_add_node : Fun K "add_node" "add_node" s_add_node A.add_node A.d_add_node
  b_add_node : L2.Binds K A.d_add_node p_add_node []
  g_add_node : mg "add_node" = some (.ref A.add_node)
  F_nodes_of : Fun K "nodes_of" "nodes_of" s_nodes_of A.nodes_of A.d_nodes_of
  b_nodes_of : L2.Binds K A.d_nodes_of p_nodes_of []
  g_nodes_of : mg "nodes_of" = some (.ref A.nodes_of)
  F_operands_of : Fun K "operands_of" "operands_of" s_operands_of A.operands_of A.d_operands_of
  b_operands_of : L2.Binds K A.d_operands_of p_operands_of []
  g_operands_of : mg "operands_of" = some (.ref A.operands_of)
  F_firsts_of : Fun K "firsts_of" "firsts_of" s_firsts_of A.firsts_of A.d_firsts_of
  b_firsts_of : L2.Binds K A.d_firsts_of p_firsts_of []
  g_firsts_of : mg "firsts_of" = some (.ref A.firsts_of)
  F_node_text : Fun K "node_text" "node_text" s_node_text A.node_text A.d_node_text
  b_node_text : L2.Binds K A.d_node_text p_node_text []
  g_node_text : mg "node_text" = some (.ref A.node_text)
  F_ex_init : Fun K "__init__" "Expression.__init__" s_ex_init A.ex_init A.d_ex_init
  b_ex_init : L2.Binds K A.d_ex_init p_ex_init []
  e_ex_init : Meth K A.Expression "__init__" A.ex_init
  F_ex_read : Fun K "read" "Expression.read" s_ex_read A.ex_read A.d_ex_read
  b_ex_read : L2.Binds K A.d_ex_read p_ex_read []
  cm_ex_read : ClX.CMet K A.Expression (.type "type") "read" A.o_ex_read A.ex_read
  F_ex_nodes : Fun K "nodes" "Expression.nodes" s_ex_nodes A.ex_nodes A.d_ex_nodes
  b_ex_nodes : L2.Binds K A.d_ex_nodes p_ex_nodes []
  r_ex_nodes : PropOf K A.Expression "nodes" A.o_ex_nodes A.ex_nodes
  F_ex_len : Fun K "__len__" "Expression.__len__" s_ex_len A.ex_len A.d_ex_len
  b_ex_len : L2.Binds K A.d_ex_len p_ex_len []
  e_ex_len : Meth K A.Expression "__len__" A.ex_len
  F_ex_first : Fun K "first" "Expression.first" s_ex_first A.ex_first A.d_ex_first
  b_ex_first : L2.Binds K A.d_ex_first p_ex_first []
  e_ex_first : Meth K A.Expression "first" A.ex_first
  F_part_text : FunD K "part_text" "Expression.part_text" (defArgs s_part_text) (defBody s_part_text) (defScope s_part_text) [] [("named", .non)] A.part_text A.d_part_text
  e_part_text : Meth K A.Expression "part_text" A.part_text
  F_ex_text : Fun K "text" "Expression.text" s_ex_text A.ex_text A.d_ex_text
  b_ex_text : L2.Binds K A.d_ex_text p_ex_text []
  e_ex_text : Meth K A.Expression "text" A.ex_text
  F_is_row : Fun K "is_row" "is_row" s_is_row A.is_row A.d_is_row
  b_is_row : L2.Binds K A.d_is_row p_is_row []
  g_is_row : mg "is_row" = some (.ref A.is_row)
  F_parts_of : Fun K "parts_of" "parts_of" s_parts_of A.parts_of A.d_parts_of
  b_parts_of : L2.Binds K A.d_parts_of p_parts_of []
  g_parts_of : mg "parts_of" = some (.ref A.parts_of)
  F_row_init : FunD K "__init__" "Row.__init__" (defArgs s_row_init) (defBody s_row_init) (defScope s_row_init) [] [("name", .str ""), ("expression", .non)] A.row_init A.d_row_init
  e_row_init : Meth K A.Row "__init__" A.row_init
  F_row_text : Fun K "text" "Row.text" s_row_text A.row_text A.d_row_text
  b_row_text : L2.Binds K A.d_row_text p_row_text []
  e_row_text : Meth K A.Row "text" A.row_text
  F_row_read : Fun K "read" "Row.read" s_row_read A.row_read A.d_row_read
  b_row_read : L2.Binds K A.d_row_read p_row_read []
  sm_row_read : UL.SMet K A.Row (.type "type") "read" A.o_row_read A.row_read
  F_text_of : Fun K "text_of" "text_of" s_text_of A.text_of A.d_text_of
  b_text_of : L2.Binds K A.d_text_of p_text_of []
  g_text_of : mg "text_of" = some (.ref A.text_of)
  F_read_signature : Fun K "read_signature" "read_signature" s_read_signature A.read_signature A.d_read_signature
  b_read_signature : L2.Binds K A.d_read_signature p_read_signature []
  g_read_signature : mg "read_signature" = some (.ref A.read_signature)
  F_read_outs : Fun K "read_outs" "read_outs" s_read_outs A.read_outs A.d_read_outs
  b_read_outs : L2.Binds K A.d_read_outs p_read_outs []
  g_read_outs : mg "read_outs" = some (.ref A.read_outs)
  F_read_row : Fun K "read_row" "read_row" s_read_row A.read_row A.d_read_row
  b_read_row : L2.Binds K A.d_read_row p_read_row []
  g_read_row : mg "read_row" = some (.ref A.read_row)
  F_read_lines : Fun K "read_lines" "read_lines" s_read_lines A.read_lines A.d_read_lines
  b_read_lines : L2.Binds K A.d_read_lines p_read_lines []
  g_read_lines : mg "read_lines" = some (.ref A.read_lines)
  F_bl_init : Fun K "__init__" "Blocks.__init__" s_bl_init A.bl_init A.d_bl_init
  b_bl_init : L2.Binds K A.d_bl_init p_bl_init []
  e_bl_init : Meth K A.Blocks "__init__" A.bl_init
  F_bl_take : Fun K "take" "Blocks.take" s_bl_take A.bl_take A.d_bl_take
  b_bl_take : L2.Binds K A.d_bl_take p_bl_take []
  e_bl_take : Meth K A.Blocks "take" A.bl_take
  F_bl_fin : Fun K "finish" "Blocks.finish" s_bl_fin A.bl_fin A.d_bl_fin
  b_bl_fin : L2.Binds K A.d_bl_fin p_bl_fin []
  e_bl_fin : Meth K A.Blocks "finish" A.bl_fin
  F_bl_around : Fun K "around" "Blocks.around" s_bl_around A.bl_around A.d_bl_around
  b_bl_around : L2.Binds K A.d_bl_around p_bl_around []
  e_bl_around : Meth K A.Blocks "around" A.bl_around
  F_bl_inner : Fun K "inner" "Blocks.inner" s_bl_inner A.bl_inner A.d_bl_inner
  b_bl_inner : L2.Binds K A.d_bl_inner p_bl_inner []
  e_bl_inner : Meth K A.Blocks "inner" A.bl_inner
  F_pr_init : Fun K "__init__" "Program.__init__" s_pr_init A.pr_init A.d_pr_init
  b_pr_init : L2.Binds K A.d_pr_init p_pr_init []
  e_pr_init : Meth K A.Program "__init__" A.pr_init
  F_pr_outs : Fun K "_take_outs" "Program._take_outs" s_pr_outs A.pr_outs A.d_pr_outs
  b_pr_outs : L2.Binds K A.d_pr_outs p_pr_outs []
  e_pr_outs : Meth K A.Program "_take_outs" A.pr_outs
  F_pr_check : Fun K "_check_scope" "Program._check_scope" s_pr_check A.pr_check A.d_pr_check
  b_pr_check : L2.Binds K A.d_pr_check p_pr_check []
  e_pr_check : Meth K A.Program "_check_scope" A.pr_check
  F_pr_scope : Fun K "is_in_scope" "Program.is_in_scope" s_pr_scope A.pr_scope A.d_pr_scope
  b_pr_scope : L2.Binds K A.d_pr_scope p_pr_scope []
  e_pr_scope : Meth K A.Program "is_in_scope" A.pr_scope
  F_pr_rows : Fun K "_take_rows" "Program._take_rows" s_pr_rows A.pr_rows A.d_pr_rows
  b_pr_rows : L2.Binds K A.d_pr_rows p_pr_rows []
  e_pr_rows : Meth K A.Program "_take_rows" A.pr_rows
  F_pr_nodes : Fun K "_check_nodes" "Program._check_nodes" s_pr_nodes A.pr_nodes A.d_pr_nodes
  b_pr_nodes : L2.Binds K A.d_pr_nodes p_pr_nodes []
  e_pr_nodes : Meth K A.Program "_check_nodes" A.pr_nodes
  F_pr_name : Fun K "_take_name" "Program._take_name" s_pr_name A.pr_name A.d_pr_name
  b_pr_name : L2.Binds K A.d_pr_name p_pr_name []
  e_pr_name : Meth K A.Program "_take_name" A.pr_name
  F_pr_len : Fun K "__len__" "Program.__len__" s_pr_len A.pr_len A.d_pr_len
  b_pr_len : L2.Binds K A.d_pr_len p_pr_len []
  e_pr_len : Meth K A.Program "__len__" A.pr_len
  F_pr_text : Fun K "text" "Program.text" s_pr_text A.pr_text A.d_pr_text
  b_pr_text : L2.Binds K A.d_pr_text p_pr_text []
  e_pr_text : Meth K A.Program "text" A.pr_text
  F_pr_read : Fun K "read" "Program.read" s_pr_read A.pr_read A.d_pr_read
  b_pr_read : L2.Binds K A.d_pr_read p_pr_read []
  cm_pr_read : ClX.CMet K A.Program (.type "type") "read" A.o_pr_read A.pr_read
  F_draws : Fun K "_law_draws" "_law_draws" s_draws A.draws A.d_draws
  b_draws : L2.Binds K A.d_draws p_draws []
  g_draws : mg "_law_draws" = some (.ref A.draws)
  F_take : Fun K "_law_take" "_law_take" s_take A.take A.d_take
  b_take : L2.Binds K A.d_take p_take []
  g_take : mg "_law_take" = some (.ref A.take)
  F_sizes : Fun K "_law_sizes" "_law_sizes" s_sizes A.sizes A.d_sizes
  b_sizes : L2.Binds K A.d_sizes p_sizes []
  g_sizes : mg "_law_sizes" = some (.ref A.sizes)
  F_srows : Fun K "_law_sized_rows" "_law_sized_rows" s_srows A.srows A.d_srows
  b_srows : L2.Binds K A.d_srows p_srows []
  g_srows : mg "_law_sized_rows" = some (.ref A.srows)
  F_due : Fun K "_law_due" "_law_due" s_due A.due A.d_due
  b_due : L2.Binds K A.d_due p_due []
  g_due : mg "_law_due" = some (.ref A.due)
  F_told : Fun K "_law_told" "_law_told" s_told A.told A.d_told
  b_told : L2.Binds K A.d_told p_told []
  g_told : mg "_law_told" = some (.ref A.told)
  F_law : Fun K "law" "law" s_law A.law A.d_law
  b_law : L2.Binds K A.d_law p_law []
  g_law : mg "law" = some (.ref A.law)
  m_ValueError : mg "ValueError" = none
  m_abs : mg "abs" = none
  m_all : mg "all" = none
  m_bool : mg "bool" = none
  m_dict : mg "dict" = none
  m_enumerate : mg "enumerate" = none
  m_int : mg "int" = none
  m_isinstance : mg "isinstance" = none
  m_iter : mg "iter" = none
  m_len : mg "len" = none
  m_list : mg "list" = none
  m_max : mg "max" = none
  m_min : mg "min" = none
  m_range : mg "range" = none
  m_reversed : mg "reversed" = none
  m_str : mg "str" = none
  m_tuple : mg "tuple" = none
  g_LivesError : mg "LivesError" = some (.ref A.LivesError)
  ex_LivesError : UL.ExF K A.LivesError A.lives_init
  g_InvalidSignature : mg "InvalidSignature" = some (.ref A.InvalidSignature)
  ex_InvalidSignature : UL.ExF K A.InvalidSignature A.lives_init
  g_UnknownFunction : mg "UnknownFunction" = some (.ref A.UnknownFunction)
  ex_UnknownFunction : UL.ExF K A.UnknownFunction A.lives_init
  xi_UnknownFunction : UL.ExI K A.UnknownFunction
  g_TooLarge : mg "TooLarge" = some (.ref A.TooLarge)
  ex_TooLarge : UL.ExF K A.TooLarge A.lives_init
  xi_TooLarge : UL.ExI K A.TooLarge
  g_DuplicateFunction : mg "DuplicateFunction" = some (.ref A.DuplicateFunction)
  ex_DuplicateFunction : UL.ExF K A.DuplicateFunction A.lives_init
  g_Signature : mg "Signature" = some (.ref A.Signature)
  cl_Signature : Cls K A.Signature
  ty_Signature : UL.TyF K A.Signature
  mk_Signature : Mk K A.Signature A.sig_init
  na_Signature_name : NoAttr K A.Signature "name"
  na_Signature_count : NoAttr K A.Signature "count"
  na_Signature_sources : NoAttr K A.Signature "sources"
  g_Book : mg "Book" = some (.ref A.Book)
  cl_Book : Cls K A.Book
  ty_Book : UL.TyF K A.Book
  mk_Book : Mk K A.Book A.book_init
  na_Book__given : NoAttr K A.Book "_given"
  na_Book__every : NoAttr K A.Book "_every"
  na_Book__by_name : NoAttr K A.Book "_by_name"
  g_Expression : mg "Expression" = some (.ref A.Expression)
  cl_Expression : Cls K A.Expression
  ty_Expression : UL.TyF K A.Expression
  mk_Expression : Mk K A.Expression A.ex_init
  cr_Expression : ClX.CRead K A.Expression (.type "type")
  cv_Expression_MOST_NODES : ∃ u, ClX.CVal K A.Expression (.type "type") "MOST_NODES" (.int 20) u
  na_Expression__nodes : NoAttr K A.Expression "_nodes"
  na_Expression__firsts : NoAttr K A.Expression "_firsts"
  g_Row : mg "Row" = some (.ref A.Row)
  cl_Row : Cls K A.Row
  ty_Row : UL.TyF K A.Row
  mk_Row : Mk K A.Row A.row_init
  na_Row_kind : NoAttr K A.Row "kind"
  na_Row_name : NoAttr K A.Row "name"
  na_Row_expression : NoAttr K A.Row "expression"
  g_Blocks : mg "Blocks" = some (.ref A.Blocks)
  cl_Blocks : Cls K A.Blocks
  ty_Blocks : UL.TyF K A.Blocks
  mk_Blocks : Mk K A.Blocks A.bl_init
  na_Blocks__most_depth : NoAttr K A.Blocks "_most_depth"
  na_Blocks__opened : NoAttr K A.Blocks "_opened"
  na_Blocks__kinds : NoAttr K A.Blocks "_kinds"
  na_Blocks__around : NoAttr K A.Blocks "_around"
  na_Blocks__enders : NoAttr K A.Blocks "_enders"
  g_Program : mg "Program" = some (.ref A.Program)
  cl_Program : Cls K A.Program
  ty_Program : UL.TyF K A.Program
  mk_Program : Mk K A.Program A.pr_init
  cr_Program : ClX.CRead K A.Program (.type "type")
  cv_Program_MOST_ROWS : ∃ u, ClX.CVal K A.Program (.type "type") "MOST_ROWS" (.int 48) u
  cv_Program_MOST_NAMES : ∃ u, ClX.CVal K A.Program (.type "type") "MOST_NAMES" (.int 16) u
  cv_Program_MOST_NODES : ∃ u, ClX.CVal K A.Program (.type "type") "MOST_NODES" (.int 100) u
  cv_Program_MOST_DEPTH : ∃ u, ClX.CVal K A.Program (.type "type") "MOST_DEPTH" (.int 8) u
  co_Program_MOST_ROWS : ∃ u, Con K A.Program "MOST_ROWS" (.int 48) u
  co_Program_MOST_NAMES : ∃ u, Con K A.Program "MOST_NAMES" (.int 16) u
  co_Program_MOST_NODES : ∃ u, Con K A.Program "MOST_NODES" (.int 100) u
  co_Program_MOST_DEPTH : ∃ u, Con K A.Program "MOST_DEPTH" (.int 8) u
  na_Program_book : NoAttr K A.Program "book"
  na_Program_outs : NoAttr K A.Program "outs"
  na_Program_blocks : NoAttr K A.Program "blocks"
  na_Program__rows : NoAttr K A.Program "_rows"
  na_Program__kinds : NoAttr K A.Program "_kinds"
  na_Program__homes : NoAttr K A.Program "_homes"
  na_Program__text : NoAttr K A.Program "_text"
  g_Unbalanced : mg "Unbalanced" = some (.ref A.Unbalanced)
  ex_Unbalanced : UL.ExF K A.Unbalanced A.lives_init
  xi_Unbalanced : UL.ExI K A.Unbalanced
  g_DuplicateName : mg "DuplicateName" = some (.ref A.DuplicateName)
  ex_DuplicateName : UL.ExF K A.DuplicateName A.lives_init
  xi_DuplicateName : UL.ExI K A.DuplicateName
  g_UnknownName : mg "UnknownName" = some (.ref A.UnknownName)
  ex_UnknownName : UL.ExF K A.UnknownName A.lives_init
  xi_UnknownName : UL.ExI K A.UnknownName
  g_NotReference : mg "NotReference" = some (.ref A.NotReference)
  ex_NotReference : UL.ExF K A.NotReference A.lives_init
  xi_NotReference : UL.ExI K A.NotReference
  g_WrongCount : mg "WrongCount" = some (.ref A.WrongCount)
  ex_WrongCount : UL.ExF K A.WrongCount A.lives_init
  xi_WrongCount : UL.ExI K A.WrongCount
  te_tt : PySem.W.exmOne K (.ref A.TooLarge) (.ref A.TooLarge) = some true
  te_dt : PySem.W.exmOne K (.ref A.DuplicateName) (.ref A.TooLarge) = some false
  te_dd : PySem.W.exmOne K (.ref A.DuplicateName) (.ref A.DuplicateName) = some true
  te_nt : PySem.W.exmOne K (.ref A.UnknownName) (.ref A.TooLarge) = some false
  te_nd : PySem.W.exmOne K (.ref A.UnknownName) (.ref A.DuplicateName) = some false
  te_nn : PySem.W.exmOne K (.ref A.UnknownName) (.ref A.UnknownName) = some true
  te_ut : PySem.W.exmOne K (.ref A.Unbalanced) (.ref A.TooLarge) = some false
  te_ud : PySem.W.exmOne K (.ref A.Unbalanced) (.ref A.DuplicateName) = some false
  te_un : PySem.W.exmOne K (.ref A.Unbalanced) (.ref A.UnknownName) = some false
  te_uu : PySem.W.exmOne K (.ref A.Unbalanced) (.ref A.Unbalanced) = some true
  fi_book_get : PySem.W.fnIn K A.book_get = true
  si_tt : PySem.W.subIn K (.ref A.TooLarge) (.ref A.TooLarge) = some true
  si_dt : PySem.W.subIn K (.ref A.DuplicateName) (.ref A.TooLarge) = some false
  si_dd : PySem.W.subIn K (.ref A.DuplicateName) (.ref A.DuplicateName) = some true
  si_nt : PySem.W.subIn K (.ref A.UnknownName) (.ref A.TooLarge) = some false
  si_nd : PySem.W.subIn K (.ref A.UnknownName) (.ref A.DuplicateName) = some false
  si_nn : PySem.W.subIn K (.ref A.UnknownName) (.ref A.UnknownName) = some true
  si_ut : PySem.W.subIn K (.ref A.Unbalanced) (.ref A.TooLarge) = some false
  si_ud : PySem.W.subIn K (.ref A.Unbalanced) (.ref A.DuplicateName) = some false
  si_un : PySem.W.subIn K (.ref A.Unbalanced) (.ref A.UnknownName) = some false
  si_uu : PySem.W.subIn K (.ref A.Unbalanced) (.ref A.Unbalanced) = some true
  c_BARE : mg "BARE" = some (.ref A.BARE)
  q_BARE : ∀ H : Hp, SqT K H A.BARE k_BARE
  o_BARE : ∃ o, K.lookup A.BARE = some o ∧ o.cls = .type "tuple"
  c_BINDING : mg "BINDING" = some (.ref A.BINDING)
  q_BINDING : ∀ H : Hp, SqT K H A.BINDING k_BINDING
  o_BINDING : ∃ o, K.lookup A.BINDING = some o ∧ o.cls = .type "tuple"
  c_DIGITS : mg "DIGITS" = some (.str "0123456789" A.t_DIGITS)
  c_LETTERS : mg "LETTERS" = some (.str "abcdefghijklmnopqrstuvwxyz" A.t_LETTERS)
  c_MOST_ARGUMENTS : mg "MOST_ARGUMENTS" = some (.int 4 A.t_MOST_ARGUMENTS)
  c_MOST_CHARACTERS : mg "MOST_CHARACTERS" = some (.int 8 A.t_MOST_CHARACTERS)
  c_MOST_GIVEN : mg "MOST_GIVEN" = some (.int 12 A.t_MOST_GIVEN)
  c_MOST_PARAMETERS : mg "MOST_PARAMETERS" = some (.int 4 A.t_MOST_PARAMETERS)
  c_NUMERALS : mg "NUMERALS" = some (.ref A.NUMERALS)
  q_NUMERALS : ∀ H : Hp, SqT K H A.NUMERALS k_NUMERALS
  o_NUMERALS : ∃ o, K.lookup A.NUMERALS = some o ∧ o.cls = .type "tuple"
  c_OPERATIONS : mg "OPERATIONS" = some (.ref A.OPERATIONS)
  w_OPERATIONS : UL.WD K w A.OPERATIONS k_OPERATIONS
  c_RESERVED : mg "RESERVED" = some (.ref A.RESERVED)
  q_RESERVED : ∀ H : Hp, SqT K H A.RESERVED k_RESERVED
  o_RESERVED : ∃ o, K.lookup A.RESERVED = some o ∧ o.cls = .type "tuple"
section
variable {P : Program} {w : World} {K : PySem.W.Frag} {mg : Str → Option Value} {base : Heap} {A : Adr}
def spTake : Sp := fun vs H Q _ => ∃ d m, vs = [.ref d, .int m] ∧ H d = some (DrO d) ∧ 0 < m ∧ ∀ n : Int, 0 ≤ n → n < m → Q (.int n) H
theorem ok_take (T : Tx0 w K mg A) : FnOk P w K mg base CX0 1 A.take A.d_take p_take spTake := by
  refine T.F_take.ok sc_take (fun vs H Q E h => ?_) (fun cdv Ar outer s H vs Q E hr h => ?_)
  · obtain ⟨d, m, rfl, _⟩ := h
    rfl
  · obtain ⟨d, m, rfl, hd, hm, k⟩ := h
    refine ⟨_, (UL.pss_open 0 (pss_cons (ps_if (pt_cmpR op_eq (pe_callB call_len_seq (by rfl) T.m_len PySem.boot_len (pa_cons (pv 0) pa_nil)) pe_int (nomark _)) (pss_one (ps_ret (UL.pe_close pe_int))) pss_nil)
      (pss_one (ps_ret (UL.pe_close (pe_op op_mod (pe_callTy call_int1 (by rfl) T.m_int (by decide +kernel) (pa_cons (pe_bm PySem.F.plainAttrs_list PySem.F.slot_list_pop PySem.F.type_list_pop mt_popAt (pv 0) (pa_cons pe_int pa_nil)) pa_nil)) (pv 1))))))), ?_⟩
    refine ⟨d, rfl, hd, fun ns g => ?_⟩
    refine ⟨.ref d, rfl, d, _, rfl, .inl (SqL.of upd_same), rfl, _, rfl, ite2 (fun e => ?_) (fun e => ?_)⟩
    · refine ⟨d, ns, upd_same, g, ?_⟩
      show Q _ (upd (upd H d _) d _)
      rw [upd_back hd]
      exact k 0 (Int.le_refl 0) hm
    · obtain ⟨n, r, rfl⟩ : ∃ n r, ns = n :: r := by
        cases ns with
        | nil => exact absurd (decide_eq_true rfl) e
        | cons n r => exact ⟨n, r, rfl⟩
      obtain ⟨n0, n1, gr⟩ := good_tail g
      refine ⟨.ref d, rfl, .inl ⟨rfl, _, SqL.of upd_same⟩, d, _, 0, 0, .int n, rfl, rfl, upd_same, by decide, by decide, (by rw [List.length_map]; exact seq0 _), rfl, .inl ⟨n, rfl, .int m, rfl, n, m, rfl, rfl, hm, d, r, upd_same, gr, ?_⟩⟩
      rw [upd_upd, upd_upd, upd_id hd]
      exact k _ (Int.emod_nonneg _ (by omega)) (Int.emod_lt_of_pos _ hm)
def spDraws (K : PySem.W.Frag) : Sp := fun vs H Q _ => ∃ (a : Addr) (ns : List Int), vs = [.ref a] ∧ SqL K H a (ns.map V.int) ∧ ns.length ≤ 63 ∧ ∀ p, H p = none → Q (.ref p) (upd H p (DrO p))
def DrawsAt (H : Hp) (p : Addr) (i : Nat) (H' : Hp) : Prop := ∃ ms : List Int, H' = upd H p (.lst (ms.map V.int)) ∧ (∀ m ∈ ms, 0 ≤ m ∧ m < 1000003) ∧ ms.length ≤ i
theorem draws_add {H H' : Hp} {p : Addr} {i : Nat} (h : DrawsAt H p i H') (hi : i < 4000) {P : Prop} (k : ∀ ms : List V, H' p = some (.lst ms) → ms.length < sizeLine → (∀ x : Int, DrawsAt H p (i + 1) (upd H' p (.lst (ms ++ [.int (x % 1000003)])))) → P) : P := by
  obtain ⟨ms, rfl, g, hl⟩ := h
  refine k (ms.map V.int) upd_same (by rw [List.length_map]; exact Nat.lt_of_le_of_lt hl (Nat.lt_trans hi (by decide))) fun x => ⟨ms ++ [x % 1000003], ?_, good_add g emod_in, ?_⟩
  · rw [upd_upd, List.map_append]
    rfl
  · rw [List.length_append, List.length_singleton]
    omega
theorem ok_draws (T : Tx0 w K mg A) : FnOk P w K mg base CX0 1 A.draws A.d_draws p_draws (spDraws K) := by
  refine T.F_draws.ok sc_draws (fun vs H Q E h => ?_) (fun cdv Ar outer s H vs Q E hr h => ?_)
  · obtain ⟨a, ns, rfl, _⟩ := h
    rfl
  · obtain ⟨a, ns, rfl, hS, hlen, k⟩ := h
    refine ⟨_, (pss_cons (ps_set (i := 1) sc_draws.nd rfl (Or.inl rfl) (pe_lst pa_nil))
      (pss_cons (ps_for PassesOwn.never rfl (pi_range1 (by rfl) T.m_range (pa_cons (pe_callB (call_min2 rfl) (by rfl) T.m_min (by decide +kernel) (pa_cons pe_int (pa_cons (pe_callB call_len_seq (by rfl) T.m_len PySem.boot_len (pa_cons (pv 0) pa_nil)) pa_nil))) pa_nil)) (pg_name (i := 2) sc_draws.nd rfl (Or.inl rfl)) (pss_cons (ps_set (i := 3) sc_draws.nd rfl (Or.inl rfl) (pe_callTy call_int1 (by rfl) T.m_int (by decide +kernel) (pa_cons (pe_ix ix_list (pv 0) (pv 2) (fun _ _ => rfl)) pa_nil)))
        (pss_cons (ps_set (i := 4) sc_draws.nd rfl (Or.inl rfl) (pe_op op_mul pe_int (pe_callB call_abs (by rfl) T.m_abs (by decide +kernel) (pa_cons (pv 3) pa_nil))))
        (Evl.pss_cut (ps_if (pt_cmpR op_lt (pv 3) pe_int (nomark _)) (pss_one (ps_set (i := 4) sc_draws.nd rfl (Or.inl rfl) (pe_op op_add (pv 4) pe_int))) pss_nil)
        (pss_one (ps_if (pt_cmpR op_lt (pv 4) (pe_op op_mul pe_int (pe_op op_pow pe_int pe_int)) (nomark _)) (pss_one (ps_for PassesOwn.never rfl (pi_range1 (by rfl) T.m_range (pa_cons pe_int pa_nil)) (pg_name (i := 5) sc_draws.nd rfl (Or.inl rfl)) (pss_cons (ps_set (i := 6) sc_draws.nd rfl (Or.inl rfl) (pe_op op_mod (pe_callTy call_int1 (by rfl) T.m_int (by decide +kernel) (pa_cons (pe_op op_add (pe_op op_mul (pe_op op_add (pv 4) pe_int) (pe_op op_add pe_int (pe_op op_mul pe_int (pv 2)))) (pe_op op_mul pe_int (pv 5))) pa_nil)) pe_int))
            (pss_cons (ps_set (i := 6) sc_draws.nd rfl (Or.inl rfl) (pe_op op_mod (pe_callTy call_int1 (by rfl) T.m_int (by decide +kernel) (pa_cons (pe_op op_mul (pv 6) (pv 6)) pa_nil)) pe_int))
            (pss_one (ps_expr (pe_bm PySem.F.plainAttrs_list PySem.F.slot_list_append PySem.F.type_list_append mt_append (pv 1) (pa_cons (pe_op op_mod (pe_callTy call_int1 (by rfl) T.m_int (by decide +kernel) (pa_cons (pv 6) pa_nil)) pe_int) pa_nil)))))))) (pss_one (ps_for PassesOwn.never rfl (pi_range1 (by rfl) T.m_range (pa_cons pe_int pa_nil)) (pg_name (i := 5) sc_draws.nd rfl (Or.inl rfl)) (pss_one (ps_if (pt_cmpR op_gt (pv 4) pe_int (nomark _)) (pss_cons (ps_expr (pe_bm PySem.F.plainAttrs_list PySem.F.slot_list_append PySem.F.type_list_append mt_append (pv 1) (pa_cons (pe_op op_mod (pe_callTy call_int1 (by rfl) T.m_int (by decide +kernel) (pa_cons (pv 4) pa_nil)) pe_int) pa_nil)))
              (pss_one (ps_set (i := 4) sc_draws.nd rfl (Or.inl rfl) (pe_op op_fdiv (pv 4) pe_int)))) pss_nil))))))))))
      (pss_one (ps_ret (UL.pe_close (pv 1)))))), ?_⟩
    refine ⟨Nat.zero_le _, fun p hp => ?_⟩
    have eL : ∀ {j H'}, DrawsAt H p j H' → SqL K H' a (ns.map V.int) := fun ⟨ms, e, _⟩ => by
      rw [e]
      exact (same_upd hp).seq hS
    refine ⟨.ref a, rfl, a, _, rfl, .inl ((same_upd hp).seq hS), 63, _, rfl, ?_⟩
    have hm : (if (((ns.map V.int).length : Nat) : Int) < 63 then (((ns.map V.int).length : Nat) : Int) else 63) = (ns.length : Int) := by
      rw [List.length_map]
      split <;> omega
    rw [hm]
    refine ⟨(ns.length : Int), rfl, forR1 ⟨by omega, by omega⟩ (fun i σ H' => ∃ v2 v3 v4 v5 v6, σ = [some (.ref a), some (.ref p), v2, v3, v4, v5, v6] ∧ DrawsAt H p (60 * i) H') ⟨none, none, none, none, none, rfl, [], rfl, fun _ h => (nomatch h), Nat.le_refl _⟩ ?_ ?_⟩
    · rintro i σ' H' hi ⟨v2, v3, v4, v5, v6, rfl, hD⟩
      have hi' : i < ns.length := by omega
      -- cell, rest
      refine ⟨.ref a, rfl, .int (i : Int), rfl, a, _, _, .int ns[i], rfl, rfl, eL hD, atI_nat (int_get hi'), .inl ⟨ns[i], rfl, ?_⟩⟩
      refine ⟨.int ns[i], rfl, ns[i], rfl, 2, _, rfl, rfl, .inl ⟨by decide, by decide⟩, ?_⟩
      have h0 : 0 ≤ 2 * (if ns[i] < 0 then -ns[i] else ns[i]) := by split <;> omega
      refine ⟨fun σ2 H2 => ∃ r : Int, 0 ≤ r ∧ σ2 = [some (.ref a), some (.ref p), some (.int (i : Int)), some (.int ns[i]), some (.int r), v5, v6] ∧ H2 = H', ?_, ?_⟩
      · refine ⟨_, rfl, _, 0, rfl, rfl, _, rfl, ite2 (fun _ => ?_) (fun _ => ?_)⟩
        · exact ⟨_, rfl, _, 1, rfl, rfl, _, Int.le_add_one h0, rfl, rfl⟩
        · exact ⟨_, h0, rfl, rfl⟩
      · generalize ns[i] = c
        rintro σ2 H2 ⟨r, h0, rfl, rfl⟩
        refine ⟨.int r, rfl, 10, 18, rfl, rfl, ⟨by decide, by decide, by decide⟩, 2, _, rfl, rfl, .inl ⟨by decide, by decide⟩, r, _, rfl, rfl, _, rfl, ite2 (fun e => ?_) (fun e => ?_)⟩
        · have hr1 : r < 2 * 10 ^ 18 := of_decide_eq_true e
          refine ⟨4, rfl, forR1 ⟨by decide, by decide⟩ (fun t σ H' => ∃ v5 v6, σ = [some (.ref a), some (.ref p), some (.int (i : Int)), some (.int c), some (.int r), v5, v6] ∧ DrawsAt H p (60 * i + t) H') ⟨_, _, rfl, hD⟩ ?_ ?_⟩
          · rintro t σ' H' ht ⟨v5, v6, rfl, hD⟩
            have hi63 : (i : Int) < 63 := by omega
            refine ⟨_, rfl, r, 1, rfl, rfl, _, rfl, 2, _, rfl, rfl, .inl ⟨by decide, by decide⟩, 48271, _, rfl, rfl, _, _, rfl, rfl, .inr ⟨by omega, by omega⟩, _, rfl, 69621, _, rfl, rfl, .inl ⟨by decide, by decide⟩, _, _, rfl, rfl, .inl ⟨_, rfl, _, 2147483647, rfl, rfl, (show (0 : Int) < 2147483647 by decide), ?_⟩⟩
            have hx0 : 0 ≤ ((r + 1) * (48271 + 2 * (i : Int)) + 69621 * (t : Int)) % 2147483647 := Int.emod_nonneg _ (by decide)
            have hx1 : ((r + 1) * (48271 + 2 * (i : Int)) + 69621 * (t : Int)) % 2147483647 < 2147483647 := Int.emod_lt_of_pos _ (by decide)
            refine ⟨_, rfl, _, rfl, _, _, rfl, rfl, .inl ⟨Int.lt_of_lt_of_le (by decide) hx0, Int.lt_trans hx1 (by decide)⟩, .inl ⟨_, rfl, _, 2147483629, rfl, rfl, (show (0 : Int) < 2147483629 by decide), ?_⟩⟩
            refine draws_add hD (by omega) fun ms h1 h2 h3 => ?_
            refine ⟨.ref p, rfl, .inl ⟨rfl, _, SqL.of h1⟩, _, rfl, .inl ⟨_, rfl, _, 1000003, rfl, rfl, (show (0 : Int) < 1000003 by decide), p, ms, _, rfl, rfl, h1, h2, ?_⟩⟩
            exact ⟨_, _, rfl, h3 _⟩
          · rintro σ' H' ⟨v5, v6, rfl, ms, e, g, hl⟩
            exact ⟨_, _, _, _, _, rfl, ms, e, g, Nat.le_trans hl (by show 60 * i + 4 ≤ 60 * (i + 1); omega)⟩
        · refine ⟨60, rfl, forR1 ⟨by decide, by decide⟩ (fun t σ H' => ∃ r v5 v6, σ = [some (.ref a), some (.ref p), some (.int (i : Int)), some (.int c), some (.int r), v5, v6] ∧ DrawsAt H p (60 * i + t) H') ⟨_, _, _, rfl, hD⟩ ?_ ?_⟩
          · rintro t σ' H' ht ⟨r, v5, v6, rfl, hD⟩
            refine ⟨.int r, rfl, r, 0, rfl, rfl, _, rfl, ite2 (fun _ => ?_) (fun _ => ?_)⟩
            · refine draws_add hD (by omega) fun ms h1 h2 h3 => ?_
              refine ⟨.ref p, rfl, .inl ⟨rfl, _, SqL.of h1⟩, .int r, rfl, .inl ⟨r, rfl, r, 1000003, rfl, rfl, (show (0 : Int) < 1000003 by decide), p, ms, _, rfl, rfl, h1, h2, ?_⟩⟩
              refine ⟨.int r, rfl, r, 1000003, rfl, rfl, ⟨by decide, by decide⟩, ?_⟩
              exact ⟨_, _, _, rfl, h3 _⟩
            · obtain ⟨ms, e, g, hl⟩ := hD
              exact ⟨_, _, _, rfl, ms, e, g, Nat.le_succ_of_le hl⟩
          · rintro σ' H' ⟨r, v5, v6, rfl, ms, e, g, hl⟩
            exact ⟨_, _, _, _, _, rfl, ms, e, g, Nat.le_trans hl (by show 60 * i + 60 ≤ 60 * (i + 1); omega)⟩
    · rintro σ' H' ⟨v2, v3, v4, v5, v6, rfl, ms, rfl, g, hl⟩
      refine ⟨.ref p, rfl, p, ms, upd_same, ⟨g, Nat.le_trans hl (by omega)⟩, ?_⟩
      rw [upd_upd]
      exact k p hp
def kWords : List V := [V.str "fun", V.str "out", V.str "use", V.str "val", V.str "ref", V.str "set", V.str "block", V.str "if", V.str "else", V.str "loop", V.str "end", V.str "part", V.str "pick", V.str "then", V.str "dead"]
def NoStr (H : Hp) (v : V) : Prop := v = .non ∨ (∃ b, v = .bl b) ∨ (∃ i, v = .int i) ∨ (∃ a xs, v = .ref a ∧ (H a = some (.lst xs) ∨ H a = some (.tup xs))) ∨ ∃ a kvs, v = .ref a ∧ H a = some (.dK kvs)
def Th (H : Hp) (v : V) : Prop := (∃ z, v = .str z ∧ z.length ≤ 2000) ∨ NoStr H v
theorem Th.mono {H H' : Hp} {v : V} (e : Ex H H') (h : Th H v) : Th H' v := by
  rcases h with h | h | h | h | ⟨a, xs, h, h1 | h1⟩ | ⟨a, kvs, h, h1⟩
  · exact .inl h
  · exact .inr (.inl h)
  · exact .inr (.inr (.inl h))
  · exact .inr (.inr (.inr (.inl h)))
  · exact .inr (.inr (.inr (.inr (.inl ⟨a, xs, h, .inl (e _ _ h1)⟩))))
  · exact .inr (.inr (.inr (.inr (.inl ⟨a, xs, h, .inr (e _ _ h1)⟩))))
  · exact .inr (.inr (.inr (.inr (.inr ⟨a, kvs, h, e _ _ h1⟩))))
def isS : V → Bool
  | .str _ => true
  | _ => false
theorem Th.isi {K : PySem.W.Frag} {H : Hp} {v : V} (h : Th H v) : ∃ t, TyX K H v t ∧ PySem.W.kitOne K t (.type "str") = some (isS v) := by
  rcases h with ⟨z, rfl, _⟩ | rfl | ⟨b, rfl⟩ | ⟨i, rfl⟩ | ⟨a, xs, rfl, h1 | h1⟩ | ⟨a, kvs, rfl, h1⟩
  · exact ⟨_, .base (.str z), kit_ty (r := true) (by decide +kernel)⟩
  · exact ⟨_, .base .non, kit_ty (r := false) (by decide +kernel)⟩
  · exact ⟨_, .base (.bl b), kit_ty (r := false) (by decide +kernel)⟩
  · exact ⟨_, .base (.int i), kit_ty (r := false) (by decide +kernel)⟩
  · exact ⟨_, .base (.lst h1), kit_ty (r := false) (by decide +kernel)⟩
  · exact ⟨_, .base (.tup h1), kit_ty (r := false) (by decide +kernel)⟩
  · exact ⟨_, .base (.dK h1), kit_ty (r := false) (by decide +kernel)⟩
def wordsS : List Str := ["fun", "out", "use", "val", "ref", "set", "block", "if", "else", "loop", "end", "part", "pick", "then", "dead"]
theorem kWords_eq : kWords = wordsS.map V.str := rfl
def alnum (c : Nat) : Bool := decide (c ∈ tl "abcdefghijklmnopqrstuvwxyz") || decide (c ∈ tl "0123456789")
def okS (z : Str) : Bool := decide (1 ≤ z.length) && decide (z.length ≤ 8) && (match tl z with | c :: _ => decide (c ∈ tl "abcdefghijklmnopqrstuvwxyz") | [] => false) && !inV (.str z) kWords && (tl z).all alnum
def nm : V → Bool
  | .str z => okS z
  | _ => false
theorem nm_no {v : V} (h : isS v = false) : nm v = false := by
  cases v <;> first | rfl | cases h
theorem isS_yes {v : V} (h : isS v = true) : ∃ z, v = .str z := by
  cases v with
  | str z => exact ⟨z, rfl⟩
  | _ => cases h
def spIsName : Sp := fun vs H Q _ => ∃ v, vs = [v] ∧ Th H v ∧ ∀ H', Ex H H' → Q (.bl (nm v)) H'
theorem ok_is_name (T : Tx0 w K mg A) : FnOk P w K mg base CX0 1 A.is_name A.d_is_name p_is_name spIsName := by
  refine T.F_is_name.ok sc_is_name (fun vs H Q E h => ?_) (fun cdv Ar outer s H vs Q E hr h => ?_)
  · obtain ⟨v, rfl, _⟩ := h
    rfl
  · obtain ⟨v, rfl, hv, k⟩ := h
    refine ⟨_, (pss_cons (ps_if (PW.pt (pw_or (pt_not (pt_val (pe_callB call_isi (by rfl) T.m_isinstance (by decide +kernel) (pa_cons (pv 0) (pa_cons (pe_bltn (v := .ty "str") (u := .type "str") (by rfl) T.m_str (by decide +kernel) rfl) pa_nil))))) (pw_or1 (pt_not (pt_chain op_le op_le pe_int (pe_callB call_len_str (by rfl) T.m_len PySem.boot_len (pa_cons (pv 0) pa_nil)) (pe_glob (v := .int 8) (by rfl) T.c_MOST_CHARACTERS ⟨_, rfl⟩)))))) (pss_one (ps_ret pe_bl)) pss_nil)
      (pss_cons (ps_if (PW.pt (pw_or (pt_cmpR op_notIn_sign (pe_ix ix_str (pv 0) pe_int (fun _ _ => rfl)) (pe_glob (v := .str "abcdefghijklmnopqrstuvwxyz") (by rfl) T.c_LETTERS ⟨_, rfl⟩) (by rfl)) (pw_or1 (pt_cmpR op_in_seq (pv 0) (pe_glob (v := .ref A.RESERVED) (by rfl) T.c_RESERVED rfl) (by rfl))))) (pss_one (ps_ret pe_bl)) pss_nil)
      (pss_one (ps_ret (pe_callB (cr_all rfl) (by rfl) T.m_all (by decide +kernel) (pa_cons (pe_lc (own := [("sign", 1)]) (g := gName 1) (tt := tYes) rfl sc_is_name.nd (pi_str (pv 0)) (blkOk_by (N := n_is_name) (sc := defScope s_is_name) (by decide +kernel)) (fun _ _ _ _ _ => pg_name (i := 1) sc_is_name.nd rfl (Or.inl rfl)) (fun _ _ _ _ _ => pts_nil) (fun _ _ _ _ _ => (pe_or (pe_cmpR op_in_sign (pv 1) (pe_glob (v := .str "abcdefghijklmnopqrstuvwxyz") (by rfl) T.c_LETTERS ⟨_, rfl⟩) (by rfl)) (pe_one (pe_cmpR op_in_sign (pv 1) (pe_glob (v := .str "0123456789") (by rfl) T.c_DIGITS ⟨_, rfl⟩) (by rfl)))))) pa_nil)))))), ?_⟩
    obtain ⟨t, ht, hk⟩ := hv.isi (K := K)
    refine ⟨v, rfl, v, _, t, _, _, rfl, .ty "str", ht, hk, _, rfl, ?_⟩
    cases hs : isS v with
    | false =>
      refine iteT ?_
      refine iteT ?_
      have q := k H (Ex.refl H)
      rw [nm_no hs] at q
      exact q
    | true =>
      obtain ⟨z, rfl⟩ := isS_yes hs
      have hz : z.length ≤ 2000 := by
        rcases hv with ⟨z', e, h⟩ | e | ⟨_, e⟩ | ⟨_, e⟩ | ⟨_, _, e, _⟩ | ⟨_, _, e, _⟩
        · cases e
          exact h
        all_goals cases e
      refine iteF ?_
      refine ⟨_, rfl, z, rfl, sz_of (by omega), 1, _, rfl, rfl, _, rfl, ?_⟩
      have no : okS z = false → Q (V.bl false) H := fun e => by
        have q := k H (Ex.refl H)
        rw [show nm (V.str z) = false from e] at q
        exact q
      by_cases z1 : 1 ≤ z.length
      · rw [decide_eq_true (show (1 : Int) ≤ (z.length : Int) by omega)]
        refine iteT ?_
        refine ⟨_, 8, rfl, rfl, _, rfl, ?_⟩
        by_cases z8 : z.length ≤ 8
        · rw [decide_eq_true (show (z.length : Int) ≤ 8 by omega)]
          refine iteF ?_
          obtain ⟨c, r, hcr⟩ : ∃ c r, tl z = c :: r := by
            cases e : tl z with
            | nil =>
              rw [len_tl, e] at z1
              exact absurd z1 (by decide)
            | cons c r => exact ⟨c, r, rfl⟩
          refine ⟨_, rfl, z, 0, c, rfl, rfl, sz_of (by omega), atI_nat (j := 0) (by show (tl z)[0]? = _; rw [hcr]; rfl), c, _, rfl, rfl, _, rfl, ?_⟩
          by_cases hc : c ∈ tl "abcdefghijklmnopqrstuvwxyz"
          · rw [decide_eq_true hc]
            refine iteF ?_
            refine ⟨_, rfl, A.RESERVED, k_RESERVED, rfl, .inr (T.q_RESERVED _), rfl, by decide, _, rfl, ?_⟩
            show if inV (.str z) k_RESERVED = true then _ else _
            cases hi : inV (.str z) k_RESERVED with
            | true =>
              refine iteT ?_
              refine no ?_
              unfold okS
              rw [show inV (.str z) kWords = true from hi, Bool.and_eq_false_iff]
              exact .inl (Bool.and_eq_false_iff.mpr (.inr rfl))
            | false =>
              refine iteF ?_
              refine ⟨_, rfl, z, rfl, fun D hD => ?_⟩
              refine lc_str (f := fun c => V.bl (alnum c)) (by omega) hD (fun _ => rfl) (fun c H' _ Q' q => ?_) ?_
              · refine ⟨_, rfl, c, _, rfl, rfl, _, rfl, ite2 (fun h => ?_) (fun h => ?_)⟩
                · have e : alnum c = true := by
                    unfold alnum
                    rw [show decide (c ∈ tl "abcdefghijklmnopqrstuvwxyz") = true from h, Bool.true_or]
                  rw [e] at q
                  exact q
                · refine ⟨_, rfl, c, _, rfl, rfl, ?_⟩
                  have e : alnum c = decide (c ∈ tl "0123456789") := by
                    unfold alnum
                    rw [show decide (c ∈ tl "abcdefghijklmnopqrstuvwxyz") = false from by simpa using h, Bool.false_or]
                  rw [e] at q
                  exact q
              · refine ⟨D, (tl z).map alnum, rfl, SqL.of (by rw [upd_same, List.map_map]; rfl), ?_⟩
                have e : okS z = ((tl z).map alnum).all id := by
                  unfold okS
                  rw [decide_eq_true z1, decide_eq_true z8, hcr, show inV (.str z) kWords = false from hi, List.all_map]
                  show (decide (c ∈ tl "abcdefghijklmnopqrstuvwxyz") && true && _) = _
                  rw [decide_eq_true hc]
                  rfl
                have q := k _ (Ex.new hD (o := .lst ((tl z).map fun c => V.bl (alnum c))))
                rw [show nm (V.str z) = ((tl z).map alnum).all id from e] at q
                exact q
          · rw [decide_eq_false hc]
            refine iteT ?_
            refine no ?_
            unfold okS
            rw [hcr]
            show (_ && decide (c ∈ tl "abcdefghijklmnopqrstuvwxyz") && _ && _) = false
            rw [decide_eq_false hc, Bool.and_false, Bool.false_and, Bool.false_and]
        · rw [decide_eq_false (show ¬ (z.length : Int) ≤ 8 by omega)]
          refine iteT ?_
          refine no ?_
          unfold okS
          rw [decide_eq_false z8, Bool.and_false, Bool.false_and, Bool.false_and, Bool.false_and]
      · rw [decide_eq_false (show ¬ (1 : Int) ≤ (z.length : Int) by omega)]
        refine iteF ?_
        refine ⟨_, rfl, ?_⟩
        refine iteT ?_
        refine no ?_
        unfold okS
        rw [decide_eq_false z1, Bool.false_and, Bool.false_and, Bool.false_and, Bool.false_and]
def tl36 : List Nat := tl "abcdefghijklmnopqrstuvwxyz0123456789"
theorem tl36_eq : tl36 = tl "abcdefghijklmnopqrstuvwxyz" ++ tl "0123456789" := by decide +kernel
theorem alnum36 (c : Nat) : alnum c = decide (c ∈ tl36) := by
  unfold alnum
  rw [tl36_eq]
  by_cases h1 : c ∈ tl "abcdefghijklmnopqrstuvwxyz" <;> by_cases h2 : c ∈ tl "0123456789" <;> simp [h1, h2]
theorem apart : ∀ c ∈ tl "abcdefghijklmnopqrstuvwxyz", c ∉ tl "0123456789" := by decide +kernel
def spCopied : Sp := fun vs H Q _ => ∃ v, vs = [v, .int 4] ∧ flatV v = true ∧ Q v H
theorem ok_copied (T : Tx0 w K mg A) : FnOk P w K mg base CX0 1 A.copied A.d_copied p_copied spCopied := by
  refine T.F_copied.ok sc_copied (fun vs H Q E h => ?_) (fun cdv Ar outer s H vs Q E hr h => ?_)
  · obtain ⟨v, rfl, _⟩ := h
    rfl
  · obtain ⟨v, rfl, hv, k⟩ := h
    refine ⟨_, (pss_cons (ps_if (pt_cmpR op_eq (pv 1) pe_int (nomark _)) (pss_one (ps_ret (pv 0))) pss_nil)
      (pss_cons (ps_if (pt_val (pe_callB call_isi (by rfl) T.m_isinstance (by decide +kernel) (pa_cons (pv 0) (pa_cons (pe_bltn (v := .ty "list") (u := .type "list") (by rfl) T.m_list (by decide +kernel) rfl) pa_nil)))) (pss_one ps_never) pss_nil)
      (pss_cons (ps_if (pt_val (pe_callB call_isi (by rfl) T.m_isinstance (by decide +kernel) (pa_cons (pv 0) (pa_cons (pe_bltn (v := .ty "tuple") (u := .type "tuple") (by rfl) T.m_tuple (by decide +kernel) rfl) pa_nil)))) (pss_one ps_never) pss_nil)
      (pss_cons (ps_if (pt_val (pe_callB call_isi (by rfl) T.m_isinstance (by decide +kernel) (pa_cons (pv 0) (pa_cons (pe_bltn (v := .ty "dict") (u := .type "dict") (by rfl) T.m_dict (by decide +kernel) rfl) pa_nil)))) (pss_one ps_never) pss_nil)
      (pss_one (ps_ret (pv 0))))))), ?_⟩
    obtain ⟨t, ht, h1, h2, h3⟩ := flat_ty (K := K) (H := H) hv
    refine ⟨_, rfl, rfl, _, rfl, iteF ?_⟩
    refine ⟨_, rfl, v, _, t, _, _, rfl, .ty "list", ht, h1, _, rfl, iteF ?_⟩
    refine ⟨_, rfl, v, _, t, _, _, rfl, .ty "tuple", ht, h2, _, rfl, iteF ?_⟩
    refine ⟨_, rfl, v, _, t, _, _, rfl, .ty "dict", ht, h3, _, rfl, iteF ?_⟩
    exact ⟨v, rfl, k⟩
theorem ok_lives_init (T : Tx0 w K mg A) : FnOk P w K mg base CX0 2 A.lives_init A.d_lives_init p_lives_init (UL.spWhat K) := by
  refine T.F_lives_init.ok sc_lives_init (fun vs H Q E h => ?_) (fun cdv Ar outer s H vs Q E hr h => ?_)
  · obtain ⟨a, C, v, rfl, _⟩ := h
    rfl
  · obtain ⟨a, C, v, rfl, hv, ha, hC, hw, k⟩ := h
    obtain ⟨ds, hvc, hbc⟩ := T.F_copied.binds1 (ps := p_copied) 1 0 (by simp) rfl (fun T' kV doc pm an cdv ct us its h1 h2 => by
      match us, h1, its, h2 with
      | [u], _, [d], _ => exact ⟨_, rfl, rfl⟩)
    refine ⟨_, (pss_one (ps_ost (pv 0) (pe_call (ok_copied T) (hr.mono (by decide)) (by rfl) T.g_copied T.F_copied.kp hbc hvc pass0 (pa_cons (pv 1) pa_nil)))), ?_⟩
    refine ⟨v, rfl, v, rfl, hv, _, rfl, a, C, rfl, hC, hw, .inl ⟨ha, fun dx hd hne => ?_⟩⟩
    exact k dx hd hne
/-! ### Signature -/
def inI : V → Int → Int → Bool
  | .int i, lo, hi => decide (lo ≤ i) && decide (i ≤ hi)
  | _, _, _ => false
def isInt : V → Bool
  | .int _ => true
  | .bl _ => true
  | _ => false
def isBl : V → Bool
  | .bl _ => true
  | _ => false
theorem Th.int {K : PySem.W.Frag} {H : Hp} {v : V} (h : Th H v) : ∃ t, TyX K H v t ∧ PySem.W.kitOne K t (.type "int") = some (isInt v) ∧ PySem.W.kitOne K t (.type "bool") = some (isBl v) := by
  rcases h with ⟨z, rfl, _⟩ | rfl | ⟨b, rfl⟩ | ⟨i, rfl⟩ | ⟨a, xs, rfl, h1 | h1⟩ | ⟨a, kvs, rfl, h1⟩
  · exact ⟨_, .base (.str z), kit_ty (r := false) (by decide +kernel), kit_ty (r := false) (by decide +kernel)⟩
  · exact ⟨_, .base .non, kit_ty (r := false) (by decide +kernel), kit_ty (r := false) (by decide +kernel)⟩
  · exact ⟨_, .base (.bl b), kit_ty (r := true) (by decide +kernel), kit_ty (r := true) (by decide +kernel)⟩
  · exact ⟨_, .base (.int i), kit_ty (r := true) (by decide +kernel), kit_ty (r := false) (by decide +kernel)⟩
  · exact ⟨_, .base (.lst h1), kit_ty (r := false) (by decide +kernel), kit_ty (r := false) (by decide +kernel)⟩
  · exact ⟨_, .base (.tup h1), kit_ty (r := false) (by decide +kernel), kit_ty (r := false) (by decide +kernel)⟩
  · exact ⟨_, .base (.dK h1), kit_ty (r := false) (by decide +kernel), kit_ty (r := false) (by decide +kernel)⟩
def intB : V → Bool
  | .int _ => true
  | _ => false
def spWhole : Sp := fun vs H Q _ => ∃ v, vs = [v] ∧ Th H v ∧ Q (.bl (intB v)) H
theorem ok_is_whole (T : Tx0 w K mg A) : FnOk P w K mg base CX0 1 A.is_whole A.d_is_whole p_is_whole spWhole := by
  refine T.F_is_whole.ok sc_is_whole (fun vs H Q E h => ?_) (fun cdv Ar outer s H vs Q E hr h => ?_)
  · obtain ⟨v, rfl, _⟩ := h
    rfl
  · obtain ⟨v, rfl, hv, k⟩ := h
    refine ⟨_, (pss_one (ps_ret (pe_and (pe_callB call_isi (by rfl) T.m_isinstance (by decide +kernel) (pa_cons (pv 0) (pa_cons (pe_bltn (v := .ty "int") (u := .type "int") (by rfl) T.m_int (by decide +kernel) rfl) pa_nil))) (pe_one (pe_not (pe_callB call_isi (by rfl) T.m_isinstance (by decide +kernel) (pa_cons (pv 0) (pa_cons (pe_bltn (v := .ty "bool") (u := .type "bool") (by rfl) T.m_bool (by decide +kernel) rfl) pa_nil)))))))), ?_⟩
    obtain ⟨t, ht, h1, h2⟩ := hv.int (K := K)
    refine ⟨_, rfl, v, _, t, _, _, rfl, .ty "int", ht, h1, _, rfl, ?_⟩
    cases v with
    | int i => exact iteT ⟨_, rfl, .int i, _, t, _, _, rfl, .ty "bool", ht, h2, _, rfl, k⟩
    | bl b => exact iteT ⟨_, rfl, .bl b, _, t, _, _, rfl, .ty "bool", ht, h2, _, rfl, k⟩
    | _ => exact iteF k
def spIsInt : Sp := fun vs H Q _ => ∃ v lo hi, vs = [v, .int lo, .int hi] ∧ Th H v ∧ Q (.bl (inI v lo hi)) H
theorem ok_is_int (T : Tx0 w K mg A) : FnOk P w K mg base CX0 2 A.is_int A.d_is_int p_is_int spIsInt := by
  refine T.F_is_int.ok sc_is_int (fun vs H Q E h => ?_) (fun cdv Ar outer s H vs Q E hr h => ?_)
  · obtain ⟨v, lo, hi, rfl, _⟩ := h
    rfl
  · obtain ⟨v, lo, hi, rfl, hv, k⟩ := h
    refine ⟨_, (pss_one (ps_ret (pe_and (pe_call (ok_is_whole T) (hr.mono (by decide)) (by rfl) T.g_is_whole T.F_is_whole.kp T.b_is_whole .nil pass0 (pa_cons (pv 0) pa_nil)) (pe_one (pe_chain op_le op_le (pv 1) (pv 0) (pv 2)))))), ?_⟩
    refine ⟨_, rfl, v, rfl, hv, _, rfl, ?_⟩
    cases v with
    | int i =>
      refine iteT ⟨_, rfl, _, rfl, lo, i, rfl, rfl, _, rfl, ?_⟩
      by_cases e : lo ≤ i
      · rw [decide_eq_true e]
        refine iteT ⟨_, rfl, i, hi, rfl, rfl, ?_⟩
        rw [show inI (.int i) lo hi = decide (i ≤ hi) by show (decide (lo ≤ i) && decide (i ≤ hi)) = _; rw [decide_eq_true e, Bool.true_and]] at k
        exact k
      · rw [decide_eq_false e]
        have q := k
        rw [show inI (.int i) lo hi = false by show (decide (lo ≤ i) && decide (i ≤ hi)) = false; rw [decide_eq_false e, Bool.false_and]] at q
        exact iteF q
    | _ => exact iteF k
def okSrc (n : Int) : Int → List V → Bool
  | _, [] => true
  | l, x :: r => inI x l n && (match x with | .int i => okSrc n (i + 1) r | _ => false)
def srcOk (n : Int) : Option (List V) → Bool
  | some xs => okSrc n 1 xs
  | none => false
def Src (K : PySem.W.Frag) (H : Hp) (v : V) : Option (List V) → Prop
  | some xs => SeqV K H v xs ∧ (∀ x ∈ xs, Th H x) ∧ xs.length ≤ 2500
  | none => NSeq H v
theorem Src.mono {K : PySem.W.Frag} {H H' : Hp} {v : V} {o : Option (List V)} (e : Ex H H') (h : Src K H v o) : Src K H' v o := by
  cases o with
  | none => exact NSeq.mono e h
  | some xs => exact ⟨h.1.mono e, fun x hx => (h.2.1 x hx).mono e, h.2.2⟩
def spSources (K : PySem.W.Frag) : Sp := fun vs H Q _ => ∃ v n o, vs = [v, .int n] ∧ Src K H v o ∧ ∀ H', Ex H H' → Q (.bl (srcOk n o)) H'
theorem ok_are_sources (T : Tx0 w K mg A) : FnOk P w K mg base CX0 3 A.are_sources A.d_are_sources p_are_sources (spSources K) := by
  refine T.F_are_sources.ok sc_are_sources (fun vs H Q E h => ?_) (fun cdv Ar outer s H vs Q E hr h => ?_)
  · obtain ⟨v, n, o, rfl, _⟩ := h
    rfl
  · obtain ⟨v, n, o, rfl, hv, k⟩ := h
    refine ⟨_, (pss_cons (ps_if (pt_not (pt_val (pe_callB call_isiT (by rfl) T.m_isinstance (by decide +kernel) (pa_cons (pv 0) (pa_cons (pe_tup (pa_cons (pe_bltn (v := .ty "list") (u := .type "list") (by rfl) T.m_list (by decide +kernel) rfl) (pa_cons (pe_bltn (v := .ty "tuple") (u := .type "tuple") (by rfl) T.m_tuple (by decide +kernel) rfl) pa_nil))) pa_nil))))) (pss_one (ps_ret pe_bl)) pss_nil)
      (pss_cons (ps_set (i := 2) sc_are_sources.nd rfl (Or.inl rfl) pe_int)
      (pss_cons (ps_for PassesOwn.never rfl (UL.pi_alt (pi_list (pv 0)) (pi_tup (pv 0))) (pg_name (i := 3) sc_are_sources.nd rfl (Or.inl rfl)) (pss_cons (ps_if (pt_not (pt_val (pe_call (ok_is_int T) (hr.mono (by decide)) (by rfl) T.g_is_int T.F_is_int.kp T.b_is_int .nil pass0 (pa_cons (pv 3) (pa_cons (pv 2) (pa_cons (pv 1) pa_nil)))))) (pss_one (ps_ret pe_bl)) pss_nil)
        (pss_one (ps_set (i := 2) sc_are_sources.nd rfl (Or.inl rfl) (pe_op op_add (pv 3) pe_int)))))
      (pss_one (ps_ret pe_bl))))), ?_⟩
    refine ⟨v, rfl, by decide, fun p hp => ?_⟩
    have e1 := Ex.new (o := .tup [.ty "list", .ty "tuple"]) hp
    have hv1 := hv.mono e1
    cases o with
    | none =>
      obtain ⟨t, ht, hk⟩ := NSeq.ty (K := K) hv1
      exact ⟨v, p, _, t, _, _, rfl, upd_same, .cons (.ty "list") (.cons (.ty "tuple") .nil), ht, hk, _, rfl, iteT (k _ e1)⟩
    | some xs =>
      obtain ⟨hq, hx, hl⟩ := hv1
      obtain ⟨t, ht, hk⟩ := hq.ty
      refine ⟨v, p, _, t, _, _, rfl, upd_same, .cons (.ty "list") (.cons (.ty "tuple") .nil), ht, hk, _, rfl, iteF ?_⟩
      generalize hH : upd H p (.tup [.ty "list", .ty "tuple"]) = H1 at *
      obtain ⟨a, rfl, h2⟩ := hq.two
      refine for_seq (fun Q' q => ⟨_, rfl, q⟩) h2 (fun i σ H' => (∃ l v3, σ = [some (.ref a), some (.int n), some (.int l), v3] ∧ okSrc n 1 xs = okSrc n l (xs.drop i)) ∧ Ex H1 H') ⟨⟨1, none, rfl, rfl⟩, Ex.refl _⟩ (fun i σ' H' p => p.2) ?_ ?_
      · rintro i x σ' H' hi ⟨⟨l, v3, rfl, hok⟩, e2⟩
        have hd : xs.drop i = x :: xs.drop (i + 1) := by
          have hlt := (List.getElem?_eq_some_iff.mp hi).1
          rw [List.drop_eq_getElem_cons hlt, (List.getElem?_eq_some_iff.mp hi).2]
        rw [hd] at hok
        have tx := (hx x (List.mem_of_getElem? hi)).mono e2
        refine ⟨x, rfl, _, rfl, _, rfl, x, l, n, rfl, tx, _, rfl, ?_⟩
        cases hb : inI x l n with
        | false =>
          refine iteT ?_
          have q := k H' (e1.trans e2)
          rw [show srcOk n (some xs) = false by show okSrc n 1 xs = false; rw [hok]; show (inI x l n && _) = false; rw [hb, Bool.false_and]] at q
          exact q
        | true =>
          refine iteF ?_
          cases x with
          | int m =>
            refine ⟨_, rfl, m, 1, rfl, rfl, ⟨m + 1, _, rfl, ?_⟩, e2⟩
            rw [hok]
            show (inI (.int m) l n && okSrc n (m + 1) _) = _
            rw [hb, Bool.true_and]
          | _ => cases hb
      · rintro σ' H' ⟨⟨l, v3, rfl, hok⟩, e2⟩
        rw [List.drop_length] at hok
        have q := k H' (e1.trans e2)
        rw [show srcOk n (some xs) = true from hok] at q
        exact q
def sigOk (nv cv : V) (o : Option (List V)) : Bool := nm nv && inI cv 0 4 && (match cv with | .int n => srcOk n o | _ => false)
def spIsSig (K : PySem.W.Frag) : Sp := fun vs H Q _ => ∃ nv cv sv o, vs = [nv, cv, sv] ∧ Th H nv ∧ Th H cv ∧ Src K H sv o ∧ ∀ H', Ex H H' → Q (.bl (sigOk nv cv o)) H'
theorem ok_is_signature (T : Tx0 w K mg A) : FnOk P w K mg base CX0 4 A.is_signature A.d_is_signature p_is_signature (spIsSig K) := by
  refine T.F_is_signature.ok sc_is_signature (fun vs H Q E h => ?_) (fun cdv Ar outer s H vs Q E hr h => ?_)
  · obtain ⟨nv, cv, sv, o, rfl, _⟩ := h
    rfl
  · obtain ⟨nv, cv, sv, o, rfl, hn, hc, hs, k⟩ := h
    refine ⟨_, (pss_one (ps_ret (pe_and (pe_call (ok_is_name T) (hr.mono (by decide)) (by rfl) T.g_is_name T.F_is_name.kp T.b_is_name .nil pass0 (pa_cons (pv 0) pa_nil)) (pe_and (pe_call (ok_is_int T) (hr.mono (by decide)) (by rfl) T.g_is_int T.F_is_int.kp T.b_is_int .nil pass0 (pa_cons (pv 1) (pa_cons pe_int (pa_cons (pe_glob (v := .int 4) (by rfl) T.c_MOST_PARAMETERS ⟨_, rfl⟩) pa_nil)))) (pe_one (pe_call (ok_are_sources T) (hr.mono (by decide)) (by rfl) T.g_are_sources T.F_are_sources.kp T.b_are_sources .nil pass0 (pa_cons (pv 2) (pa_cons (pv 1) pa_nil)))))))), ?_⟩
    refine ⟨_, rfl, nv, rfl, hn, fun H1 e1 => ⟨_, rfl, ?_⟩⟩
    have other : ∀ H', Ex H H' → sigOk nv cv o = false → Q (.bl false) H' := fun H' e' e => by
      have q := k H' e'
      rw [e] at q
      exact q
    cases h1 : nm nv with
    | false => exact iteF (other _ e1 (by unfold sigOk; rw [h1, Bool.false_and, Bool.false_and]))
    | true =>
      refine iteT ⟨_, rfl, cv, 0, 4, rfl, hc.mono e1, _, rfl, ?_⟩
      cases h2 : inI cv 0 4 with
      | false => exact iteF (other _ e1 (by unfold sigOk; rw [h2, Bool.and_false, Bool.false_and]))
      | true =>
        cases cv with
        | int n =>
          refine iteT ⟨_, rfl, _, rfl, sv, n, o, rfl, hs.mono e1, fun H2 e2 => ?_⟩
          have q := k H2 (e1.trans e2)
          rw [show sigOk nv (.int n) o = srcOk n o by unfold sigOk; rw [h1, h2]; rfl] at q
          exact q
        | _ => cases h2
def sigF (nv cv : V) (t : Addr) : List (Str × V) := [("name", nv), ("count", cv), ("sources", .ref t)]
theorem put3 (nv cv : V) (t : Addr) : putF "sources" (.ref t) (putF "count" cv (putF "name" nv [])) = sigF nv cv t := rfl
def spSigInit (K : PySem.W.Frag) (C E' : Addr) : Sp := fun vs H Q E => ∃ x dx nv cv sv o, vs = [.ref x, nv, cv, sv] ∧ H x = some (.ins C dx []) ∧ flatV nv = true ∧ Th H nv ∧ Th H cv ∧ Src K H sv o ∧
  (sigOk nv cv o = true → ∀ H' t, Ex (L2.del H x) H' → H' x = some (.ins C dx (sigF nv cv t)) → SqT K H' t (o.getD []) → Q .non H') ∧
  (sigOk nv cv o = false → ∀ d H', Ex H H' → H' d = some (.xd [("what", nv)]) → E (.ref E') (some d) H')
theorem ok_sig_init (T : Tx0 w K mg A) : FnOk P w K mg base (L2.CX P w) 5 A.sig_init A.d_sig_init p_sig_init (spSigInit K A.Signature A.InvalidSignature) := by
  refine T.F_sig_init.ok sc_sig_init (fun vs H Q E h => ?_) (fun cdv Ar outer s H vs Q E hr h => ?_)
  · obtain ⟨x, dx, nv, cv, sv, o, rfl, _⟩ := h
    rfl
  · obtain ⟨x, dx, nv, cv, sv, o, rfl, hx, hf, hn, hc, hs, k1, k2⟩ := h
    refine ⟨_, (pss_cons (ps_if (pt_not (pt_val (pe_call (ok_is_signature T) (hr.mono (by decide)) (by rfl) T.g_is_signature T.F_is_signature.kp T.b_is_signature .nil pass0 (pa_cons (pv 1) (pa_cons (pv 2) (pa_cons (pv 3) pa_nil)))))) (pss_one (ps_raise rfl (takes_of rfl rfl rfl rfl) (pmk_oex T.ex_InvalidSignature.ox T.ex_InvalidSignature.ii T.ti_lives_init (ok_lives_init T) (hr.mono (by decide)) T.b_lives_init .nil pass0 (by rfl) T.g_InvalidSignature (pa_cons (pv 1) pa_nil)))) pss_nil)
      (pss_cons (ps_fld (pv 0) (pv 1) rfl)
      (pss_cons (ps_fld (pv 0) (pv 2) rfl)
      (pss_one (ps_fld (pv 0) (pe_callTy call_tuple_of (by rfl) T.m_tuple (by decide +kernel) (pa_cons (pv 3) pa_nil)) rfl))))), ?_⟩
    refine ⟨_, rfl, _, rfl, _, rfl, nv, cv, sv, o, rfl, hn, hc, hs, fun H1 e1 => ⟨_, rfl, ?_⟩⟩
    cases hb : sigOk nv cv o with
    | false =>
      refine iteT ⟨_, rfl, (by show 1 ≤ 1000; decide), raise_what T.ex_InvalidSignature hf fun d H' e' hd => ?_⟩
      exact k2 hb d H' (e1.trans e') hd
    | true =>
      refine iteF ?_
      have hx1 := e1 _ _ hx
      refine ⟨_, rfl, _, rfl, x, _, dx, _, rfl, hx1, T.cl_Signature, T.na_Signature_name, by decide, ?_⟩
      refine ⟨_, rfl, _, rfl, x, _, dx, _, rfl, upd_same, T.cl_Signature, T.na_Signature_count, by show 1 < 1000; decide, ?_⟩
      obtain ⟨xs, rfl⟩ : ∃ xs, o = some xs := by
        cases o with
        | some xs => exact ⟨xs, rfl⟩
        | none =>
          unfold sigOk at hb
          rw [Bool.and_eq_true] at hb
          have h3 := hb.2
          cases cv <;> cases h3
      generalize hH : upd (upd H1 x (.ins A.Signature dx (putF "name" nv []))) x (.ins A.Signature dx (putF "count" cv (putF "name" nv []))) = H3
      have hx3 : H3 x = some (.ins A.Signature dx (putF "count" cv (putF "name" nv []))) := by rw [← hH, upd_same]
      have e3 : ∀ b o, b ≠ x → H1 b = some o → H3 b = some o := fun b o n hb => by rw [← hH, upd_ne n, upd_ne n]; exact hb
      have fin : ∀ H4 t, (∀ b o, b ≠ x → H3 b = some o → H4 b = some o) → SqT K H4 t xs → H4 x = some (.ins A.Signature dx (sigF nv cv t)) → Q .non H4 := fun H4 t e4 ht hx4 =>
        k1 hb H4 t (ex_del e1 fun b o n hb => e4 b o n (e3 b o n hb)) hx4 ht
      obtain ⟨a, rfl, h2⟩ := (hs.1.mono e1)
      have nl : ∀ o, H1 a = some o → (∀ C d f, o ≠ .ins C d f) → a ≠ x := fun o h n => ne_of h hx1 (n _ _ _)
      refine ⟨_, rfl, a, xs, rfl, ?_⟩
      rcases h2 with h2 | h2 | ⟨h2, _⟩
      · have na := nl _ h2 (by intro _ _ _ z; cases z)
        refine .inl ⟨SqL.of (e3 _ _ na h2), fun t ht => ?_⟩
        have nt : x ≠ t := ne_of_none hx3 ht
        refine ⟨_, rfl, x, _, dx, _, rfl, (by rw [upd_ne nt]; exact hx3), T.cl_Signature, T.na_Signature_sources, (by show 2 < 1000; decide), ?_⟩
        refine fin _ t (fun b o n hb => ?_) (SqT.of ?_) upd_same
        · rw [upd_ne n, upd_ne (ne_of_none hb ht)]
          exact hb
        · rw [upd_ne nt.symm, upd_same]
      · have na := nl _ h2 (by intro _ _ _ z; cases z)
        refine .inr ⟨SqT.of (e3 _ _ na h2), ?_⟩
        refine ⟨_, rfl, x, _, dx, _, rfl, hx3, T.cl_Signature, T.na_Signature_sources, (by show 2 < 1000; decide), ?_⟩
        refine fin _ a (fun b o n hb => by rw [upd_ne n]; exact hb) (SqT.of ?_) upd_same
        rw [upd_ne na]
        exact e3 _ _ na h2
      · have h5 := sqT_del hx1 h2
        refine .inr ⟨ex_t (ex_del (Ex.refl H1) e3) h5, ?_⟩
        refine ⟨_, rfl, x, _, dx, _, rfl, hx3, T.cl_Signature, T.na_Signature_sources, (by show 2 < 1000; decide), ?_⟩
        refine fin _ a (fun b o n hb => by rw [upd_ne n]; exact hb) ?_ upd_same
        exact ex_t (ex_del (Ex.refl H1) fun b o n hb => by rw [upd_ne n]; exact e3 b o n hb) h5
/-- a signature stands at a -/
def Sig (K : PySem.W.Frag) (C : Addr) (H : Hp) (a : Addr) (z : Str) (n : Int) (ns : List Int) : Prop := ∃ dx t, H a = some (.ins C dx (sigF (.str z) (.int n) t)) ∧ SqT K H t (ns.map V.int)
theorem Sig.mono {K : PySem.W.Frag} {C : Addr} {H H' : Hp} {a : Addr} {z : Str} {n : Int} {ns : List Int} (e : Ex H H') (h : Sig K C H a z n ns) : Sig K C H' a z n ns := by
  obtain ⟨dx, t, h1, h2⟩ := h
  exact ⟨dx, t, e _ _ h1, ex_t e h2⟩
theorem f_name (nv cv : V) (t : Addr) : (sigF nv cv t).lookup ("name" : Str) = some nv := rfl
theorem f_count (nv cv : V) (t : Addr) : (sigF nv cv t).lookup ("count" : Str) = some cv := rfl
theorem f_sources (nv cv : V) (t : Addr) : (sigF nv cv t).lookup ("sources" : Str) = some (.ref t) := rfl
/-- what stands on the right of == -/
def EqR (K : PySem.W.Frag) (C : Addr) (H : Hp) (z : Str) (n : Int) (ns : List Int) (y : V) (b : Bool) : Prop :=
  (∃ a' z' n' ns', y = .ref a' ∧ Sig K C H a' z' n' ns' ∧ b = (decide (z = z') && decide (n = n') && decide (ns = ns'))) ∨ (∃ s, y = .str s ∧ b = false) ∨ ∃ a' ys, y = .ref a' ∧ H a' = some (.tup ys) ∧ b = false
theorem eqvAll_ints : ∀ ns ms : List Int, PyData.eqvAll (ns.map PyData.int) (ms.map PyData.int) = decide (ns = ms)
  | [], [] => by simp [PyData.eqvAll]
  | [], _ :: _ => by simp [PyData.eqvAll]
  | _ :: _, [] => by simp [PyData.eqvAll]
  | x :: r, y :: t => by
    have ih := eqvAll_ints r t
    rw [List.map_cons, List.map_cons]
    unfold PyData.eqvAll
    rw [ih]
    show (decide (x = y) && decide (r = t)) = _
    by_cases h : x = y <;> by_cases h' : r = t <;> simp [h, h']
theorem eqv_list (ns ms : List Int) : PyData.eqv (.list (ns.map PyData.int)) (.list (ms.map PyData.int)) = decide (ns = ms) := eqvAll_ints ns ms
theorem eqv_tup (ns ms : List Int) : PyData.eqv (.tuple (ns.map PyData.int)) (.tuple (ms.map PyData.int)) = decide (ns = ms) := eqvAll_ints ns ms
theorem dp_ints {K : PySem.W.Frag} {H : Hp} : ∀ ns : List Int, DpAll K H (ns.map V.int) (ns.map PyData.int)
  | [] => .nil
  | n :: r => .cons (.int n) (dp_ints r)
theorem lay_ints : ∀ ns : List Int, PyData.canLayAll0 (ns.map PyData.int) = true ∧ PyData.depthAll (ns.map PyData.int) ≤ 1
  | [] => ⟨rfl, by simp [PyData.depthAll]⟩
  | n :: r => by
    obtain ⟨h1, h2⟩ := lay_ints r
    refine ⟨?_, ?_⟩
    · show (PyData.canLay0 (.int n) && PyData.canLayAll0 (r.map PyData.int)) = true
      rw [h1]
      rfl
    · simp only [List.map_cons, PyData.depthAll, PyData.depth]
      omega
theorem shaped_ints (ns : List Int) : SeqAt.shaped (.tuple (ns.map PyData.int)) = true ∧ SeqAt.shaped (.list (ns.map PyData.int)) = true := by
  obtain ⟨h1, h2⟩ := lay_ints ns
  refine ⟨?_, ?_⟩
  · unfold SeqAt.shaped
    rw [show PyData.canLay0 (.tuple (ns.map PyData.int)) = true by unfold PyData.canLay0; exact h1, Bool.true_and]
    refine decide_eq_true ?_
    simp only [PyData.depth]
    omega
  · unfold SeqAt.shaped
    rw [show PyData.canLay0 (.list (ns.map PyData.int)) = true by unfold PyData.canLay0; exact h1, Bool.true_and]
    refine decide_eq_true ?_
    simp only [PyData.depth]
    omega
/-! ### drawn names -/
def tlL : List Nat := tl "abcdefghijklmnopqrstuvwxyz"
def tlD : List Nat := tl "0123456789"
def isD (c : Nat) : Bool := decide (c ∈ tlD)
def digs (z : Str) : List Nat := (tl z).filter isD
structure Wd (k : Int) (z : Str) : Prop where
  num : digs z = tl (Str.ofString (toString k))
  first : ∃ c r, tl z = c :: r ∧ c ∈ tlL
  all : ∀ c ∈ tl z, alnum c = true
  len : 2 ≤ z.length ∧ z.length ≤ 8
  dig : ∃ c ∈ tl z, c ∈ tlD
theorem alL {c : Nat} (h : c ∈ tlL) : alnum c = true := by
  unfold alnum
  rw [show decide (c ∈ tl "abcdefghijklmnopqrstuvwxyz") = true from decide_eq_true h, Bool.true_or]
theorem alD {c : Nat} (h : c ∈ tlD) : alnum c = true := by
  unfold alnum
  rw [show decide (c ∈ tl "0123456789") = true from decide_eq_true h, Bool.or_true]
theorem nodig : ∀ w ∈ wordsS, ∀ c ∈ tl w, c ∉ tlD := by decide +kernel
theorem Wd.ok {k : Int} {z : Str} (h : Wd k z) : okS z = true := by
  obtain ⟨_, ⟨c, r, hcr, hc⟩, h2, ⟨h3, h4⟩, d, hd, hdd⟩ := h
  have hi : inV (.str z) kWords = false := by
    unfold inV
    rw [List.any_eq_false]
    intro y hy
    rw [kWords_eq] at hy
    obtain ⟨w, hw, rfl⟩ := List.mem_map.mp hy
    intro e
    have e1 : w = z := by
      have : (w == z) = true := e
      simpa using this
    subst e1
    exact nodig w hw d hd hdd
  unfold okS
  rw [hi, List.all_eq_true.mpr h2, hcr, decide_eq_true (show 1 ≤ z.length by omega), decide_eq_true h4]
  show (true && true && decide (c ∈ tl "abcdefghijklmnopqrstuvwxyz") && !false && true) = true
  rw [show decide (c ∈ tl "abcdefghijklmnopqrstuvwxyz") = true from decide_eq_true hc]
  rfl
theorem dig_mem {c : Nat} (h : 48 ≤ c ∧ c ≤ 57) : c ∈ tlD := by
  have : c = 48 ∨ c = 49 ∨ c = 50 ∨ c = 51 ∨ c = 52 ∨ c = 53 ∨ c = 54 ∨ c = 55 ∨ c = 56 ∨ c = 57 := by omega
  rcases this with h | h | h | h | h | h | h | h | h | h <;> (subst h; decide +kernel)
theorem num_ok {k : Int} (h0 : 0 ≤ k) (h1 : k < 100) : (∀ c ∈ tl (Str.ofString (toString k)), c ∈ tlD) ∧ 1 ≤ (tl (Str.ofString (toString k))).length ∧ (tl (Str.ofString (toString k))).length ≤ 2 := by
  obtain ⟨n, rfl⟩ := Int.eq_ofNat_of_zero_le h0
  rw [tl_num]
  refine ⟨fun c hc => dig_mem (numL_digits n c hc), ?_, numL_len (by decide) (by omega)⟩
  have := numL_ne n
  cases e : numL n with
  | nil => exact absurd e this
  | cons a r => show 1 ≤ r.length + 1; omega
theorem isD_L {c : Nat} (h : c ∈ tlL) : isD c = false := by
  have : ∀ c ∈ tlL, isD c = false := by decide +kernel
  exact this c h
theorem digs_L {y : Str} (h : ∀ c ∈ tl y, c ∈ tlL) : digs y = [] := List.filter_eq_nil_iff.mpr fun c hc => by rw [isD_L (h c hc)]; simp
theorem digs_app (z y : Str) : digs (z ++ y) = digs z ++ digs y := by
  unfold digs
  rw [tl_append, List.filter_append]
theorem wd_num {c : Nat} {k : Int} (hc : c ∈ tlL) (h0 : 0 ≤ k) (h1 : k < 100) : Wd k ((⟨#[c]⟩ : Str) ++ Str.ofString (toString k)) ∧ ((⟨#[c]⟩ : Str) ++ Str.ofString (toString k)).length ≤ 3 := by
  obtain ⟨n1, n2, n3⟩ := num_ok h0 h1
  have e : tl ((⟨#[c]⟩ : Str) ++ Str.ofString (toString k)) = c :: tl (Str.ofString (toString k)) := by rw [tl_append]; rfl
  have el : ((⟨#[c]⟩ : Str) ++ Str.ofString (toString k)).length = (tl (Str.ofString (toString k))).length + 1 := by rw [len_tl, e]; rfl
  refine ⟨⟨?_, ⟨c, _, e, hc⟩, fun d hd => ?_, by omega, ?_⟩, by omega⟩
  · unfold digs
    rw [e, List.filter_cons_of_neg (by rw [isD_L hc]; simp), List.filter_eq_self]
    exact fun x hx => decide_eq_true (n1 x hx)
  · rw [e] at hd
    rcases List.mem_cons.mp hd with rfl | hd
    · exact alL hc
    · exact alD (n1 d hd)
  · cases q : tl (Str.ofString (toString k)) with
    | nil =>
      rw [q] at n2
      exact absurd n2 (by decide)
    | cons a r =>
      exact ⟨a, by rw [e, q]; exact List.mem_cons_of_mem _ List.mem_cons_self, n1 a (by rw [q]; exact List.mem_cons_self)⟩
theorem wd_back {k : Int} {z y : Str} (h : Wd k z) (hy : ∀ c ∈ tl y, c ∈ tlL) (hl : z.length + y.length ≤ 8) : Wd k (z ++ y) := by
  obtain ⟨hk, ⟨c, r, hcr, hc⟩, h2, h3, d, hd, hdd⟩ := h
  have el : (z ++ y).length = z.length + y.length := by rw [len_tl, tl_append, List.length_append, ← len_tl, ← len_tl]
  refine ⟨by rw [digs_app, digs_L hy, List.append_nil]; exact hk, ⟨c, r ++ tl y, by rw [tl_append, hcr]; rfl, hc⟩, fun q hq => ?_, by omega, d, by rw [tl_append]; exact List.mem_append_left _ hd, hdd⟩
  rw [tl_append] at hq
  rcases List.mem_append.mp hq with hq | hq
  · exact h2 q hq
  · exact alL (hy q hq)
theorem wd_front {k : Int} {z : Str} {c : Nat} (h : Wd k z) (hc : c ∈ tlL) (hl : z.length ≤ 7) : Wd k ((⟨#[c]⟩ : Str) ++ z) := by
  obtain ⟨hk, _, h2, h3, d, hd, hdd⟩ := h
  have e : tl ((⟨#[c]⟩ : Str) ++ z) = c :: tl z := by rw [tl_append]; rfl
  have el : ((⟨#[c]⟩ : Str) ++ z).length = z.length + 1 := by rw [len_tl, e, List.length_cons, ← len_tl]
  refine ⟨by rw [digs_app, digs_L (fun q hq => by rw [List.mem_singleton.mp (show q ∈ [c] from hq)]; exact hc), List.nil_append]; exact hk, ⟨c, _, e, hc⟩, fun q hq => ?_, by omega, d, by rw [e]; exact List.mem_cons_of_mem _ hd, hdd⟩
  rw [e] at hq
  rcases List.mem_cons.mp hq with rfl | hq
  · exact alL hc
  · exact h2 q hq
theorem cut_q {z : Str} (h : z.length ≤ 8) : (∀ c ∈ tl (cutS "qqqqqqqq" (some (z.length : Int)) none), c ∈ tlL) ∧ (cutS "qqqqqqqq" (some (z.length : Int)) none).length = 8 - z.length := by
  have : ∀ n : Nat, n ≤ 8 → (∀ c ∈ tl (cutS "qqqqqqqq" (some (n : Int)) none), c ∈ tlL) ∧ (cutS "qqqqqqqq" (some (n : Int)) none).length = 8 - n := by
    intro n hn
    have hn : n = 0 ∨ n = 1 ∨ n = 2 ∨ n = 3 ∨ n = 4 ∨ n = 5 ∨ n = 6 ∨ n = 7 ∨ n = 8 := by omega
    rcases hn with h | h | h | h | h | h | h | h | h <;> (subst h; decide +kernel)
  exact this _ h
def plainS : List Str := ["a", "x", "new", "b", "user", "copy", "ends", "z", "elses", "n", "dea", "deads", "pic", "thens", "funs", "y"]
theorem plain_ok : ∀ z ∈ plainS, okS z = true := by decide +kernel
theorem okS_len {z : Str} (h : okS z = true) : z.length ≤ 8 := by
  unfold okS at h
  rw [Bool.and_eq_true, Bool.and_eq_true, Bool.and_eq_true, Bool.and_eq_true] at h
  exact of_decide_eq_true h.1.1.1.2
/-- strictly ascending numbers from 1 to n -/
def Asc (n : Int) (ns : List Int) : Prop := ns.Pairwise (· < ·) ∧ ∀ m ∈ ns, 1 ≤ m ∧ m ≤ n
theorem asc_ok {n : Int} : ∀ (ns : List Int) (l : Int), ns.Pairwise (· < ·) → (∀ m ∈ ns, l ≤ m ∧ m ≤ n) → okSrc n l (ns.map V.int) = true
  | [], _, _, _ => rfl
  | m :: r, l, hp, hb => by
    obtain ⟨h1, h2⟩ := List.pairwise_cons.mp hp
    have hm := hb m List.mem_cons_self
    show (inI (.int m) l n && okSrc n (m + 1) (r.map V.int)) = true
    rw [show inI (.int m) l n = true by show (decide (l ≤ m) && decide (m ≤ n)) = true; rw [decide_eq_true hm.1, decide_eq_true hm.2]; rfl, Bool.true_and]
    exact asc_ok r (m + 1) h2 fun q hq => ⟨by have := h1 q hq; omega, (hb q (List.mem_cons_of_mem _ hq)).2⟩
theorem asc_len {n : Int} (hn : n ≤ 4) : ∀ ns : List Int, Asc n ns → ns.length ≤ 4 := fun ns h => by
  obtain ⟨h1, h2⟩ := h
  match ns, h1, h2 with
  | [], _, _ => decide
  | [_], _, _ => exact (by decide : 1 ≤ 4)
  | [_, _], _, _ => exact (by decide : 2 ≤ 4)
  | [_, _, _], _, _ => exact (by decide : 3 ≤ 4)
  | [_, _, _, _], _, _ => exact (by decide : 4 ≤ 4)
  | a :: b :: c :: e :: f :: r, h1, h2 =>
    exfalso
    obtain ⟨p1, q1⟩ := List.pairwise_cons.mp h1
    obtain ⟨p2, q2⟩ := List.pairwise_cons.mp q1
    obtain ⟨p3, q3⟩ := List.pairwise_cons.mp q2
    obtain ⟨p4, q4⟩ := List.pairwise_cons.mp q3
    have a1 := (h2 a (by simp)).1
    have f1 := (h2 f (by simp)).2
    have b1 := p1 b (by simp)
    have c1 := p2 c (by simp)
    have e1 := p3 e (by simp)
    have g1 := p4 f (by simp)
    omega
theorem alnum_lt : ∀ c : Nat, alnum c = true → c < 0x110000 := fun c h => by
  rw [alnum36] at h
  have h1 : c ∈ tl36 := of_decide_eq_true h
  have h2 : ∀ c ∈ tl36, c < 0x110000 := by decide +kernel
  exact h2 c h1
theorem okS_allC {z : Str} (h : okS z = true) : ∀ c ∈ tl z, alnum c = true := by
  unfold okS at h
  rw [Bool.and_eq_true] at h
  exact List.all_eq_true.mp h.2
theorem okS_str {z : Str} (h : okS z = true) : PyData.strOk z = true := by
  unfold PyData.strOk
  rw [← Array.all_toList, List.all_eq_true]
  exact fun c hc => decide_eq_true (alnum_lt c (okS_allC h c hc))
theorem sigOk_asc {z : Str} {n : Int} {ns : List Int} (hz : okS z = true) (h0 : 0 ≤ n) (h4 : n ≤ 4) (ha : Asc n ns) : sigOk (.str z) (.int n) (some (ns.map V.int)) = true := by
  unfold sigOk
  rw [show nm (.str z) = true from hz, show inI (.int n) 0 4 = true by show (decide (0 ≤ n) && decide (n ≤ 4)) = true; rw [decide_eq_true h0, decide_eq_true h4]; rfl]
  exact asc_ok ns 1 ha.1 ha.2
/-- three parts as data -/
def dP (z : Str) (n : Int) (ns : List Int) : PyData := .list [.str z, .int n, .list (ns.map PyData.int)]
theorem dP_eqv {z z' : Str} {n n' : Int} {ns ns' : List Int} : PyData.eqv (dP z n ns) (dP z' n' ns') = (decide (z = z') && decide (n = n') && decide (ns = ns')) := by
  unfold dP PyData.eqv PyData.eqvAll
  rw [show PyData.eqv (.str z) (.str z') = decide (z = z') by unfold PyData.eqv; by_cases e : z = z' <;> simp [e]]
  unfold PyData.eqvAll
  rw [show PyData.eqv (.int n) (.int n') = decide (n = n') by unfold PyData.eqv; by_cases e : n = n' <;> simp [e]]
  unfold PyData.eqvAll
  rw [eqv_list]
  unfold PyData.eqvAll
  rw [Bool.and_true, Bool.and_assoc]
theorem dP_shaped {z : Str} {n : Int} {ns : List Int} (hz : okS z = true) : SeqAt.shaped (dP z n ns) = true := by
  obtain ⟨h1, h2⟩ := lay_ints ns
  unfold SeqAt.shaped dP
  rw [Bool.and_eq_true]
  refine ⟨?_, decide_eq_true ?_⟩
  · simp only [PyData.canLay0, PyData.canLayAll0, h1, okS_str hz, Bool.and_true]
  · simp only [PyData.depth, PyData.depthAll]
    omega
theorem dP_dp {K : PySem.W.Frag} {H : Hp} {a p : Addr} {z : Str} {n : Int} {ns : List Int} (ha : H a = some (.lst [.str z, .int n, .ref p])) (hp : SqL K H p (ns.map V.int)) : Dp K H (.ref a) (dP z n ns) :=
  .lst (SqL.of ha) (.cons (.str z) (.cons (.int n) (.cons (.lst hp (dp_ints ns)) .nil)))
/-- a row: name, count and sources of a good signature -/
abbrev Rw := Str × Int × List Int
def RowAt (H : Hp) (p : Addr) (r : Rw) : Prop := ∃ l, H p = some (.lst [.str r.1, .int r.2.1, .ref l]) ∧ H l = some (.lst (r.2.2.map V.int))
def good (r : Rw) : Prop := okS r.1 = true ∧ (0 ≤ r.2.1 ∧ r.2.1 ≤ 4) ∧ Asc r.2.1 r.2.2
theorem RowAt.mono {H H' : Hp} {p : Addr} {r : Rw} (e : Ex H H') (h : RowAt H p r) : RowAt H' p r := by
  obtain ⟨l, h1, h2⟩ := h
  exact ⟨l, e _ _ h1, e _ _ h2⟩
inductive All2 {α β : Type} (R : α → β → Prop) : List α → List β → Prop
  | nil : All2 R [] []
  | cons {a b as bs} : R a b → All2 R as bs → All2 R (a :: as) (b :: bs)
theorem All2.imp {α β : Type} {R S : α → β → Prop} (f : ∀ a b, R a b → S a b) : ∀ {as bs}, All2 R as bs → All2 S as bs
  | _, _, .nil => .nil
  | _, _, .cons h t => .cons (f _ _ h) (t.imp f)
theorem All2.len {α β : Type} {R : α → β → Prop} : ∀ {as : List α} {bs : List β}, All2 R as bs → as.length = bs.length
  | _, _, .nil => rfl
  | _, _, .cons _ t => congrArg (· + 1) t.len
theorem All2.snoc {α β : Type} {R : α → β → Prop} {a b} (h : R a b) : ∀ {as bs}, All2 R as bs → All2 R (as ++ [a]) (bs ++ [b])
  | _, _, .nil => .cons h .nil
  | _, _, .cons h1 t => .cons h1 (t.snoc h)
theorem All2.at {α β : Type} {R : α → β → Prop} : ∀ {as : List α} {bs : List β}, All2 R as bs → ∀ {i : Nat} {b : β}, bs[i]? = some b → ∃ a, as[i]? = some a ∧ R a b
  | _, _, .cons h _, 0, _, hb => ⟨_, rfl, by cases hb; exact h⟩
  | _, _, .cons _ t, _ + 1, _, hb => t.at (i := _) hb
theorem All2.set {α β : Type} {R : α → β → Prop} {a b} (h : R a b) : ∀ {as : List α} {bs : List β}, All2 R as bs → ∀ i, All2 R (as.set i a) (bs.set i b)
  | _, _, .nil, _ => .nil
  | _, _, .cons _ t, 0 => .cons h t
  | _, _, .cons h1 t, i + 1 => .cons h1 (t.set h i)
def RowsAt (H : Hp) (p : Addr) (as : List Addr) (rs : List Rw) : Prop := H p = some (.lst (as.map V.ref)) ∧ All2 (RowAt H) as rs
theorem rows_mono {H H' : Hp} (e : Ex H H') {as : List Addr} {rs : List Rw} (h : All2 (RowAt H) as rs) : All2 (RowAt H') as rs := h.imp fun _ _ h => h.mono e
theorem rows_upd {H : Hp} {D : Addr} {as : List Addr} {rs : List Rw} {X : HO} (hD : H D = some (.lst (as.map V.ref))) (h : All2 (RowAt H) as rs) : All2 (RowAt (upd H D X)) as rs := by
  cases as with
  | nil =>
    cases h
    exact .nil
  | cons a0 t =>
    refine h.imp fun a r h => ?_
    obtain ⟨l, h1, h2⟩ := h
    refine ⟨l, ?_, ?_⟩
    · rw [upd_ne]
      · exact h1
      · rintro rfl
        rw [hD] at h1
        cases h1
    · rw [upd_ne]
      · exact h2
      · rintro rfl
        rw [hD] at h2
        have h3 := Option.some.inj h2
        injection h3 with h4
        cases hr : r.2.2 with
        | nil => rw [hr] at h4; cases h4
        | cons m q => rw [hr] at h4; cases h4
theorem rows_put {H : Hp} {D a : Addr} {as : List Addr} {rs : List Rw} {r : Rw} (j : Nat) (h : RowsAt H D as rs) (hr : RowAt (upd H D (.lst ((as.map V.ref).set j (.ref a)))) a r) : RowsAt (upd H D (.lst ((as.map V.ref).set j (.ref a)))) D (as.set j a) (rs.set j r) :=
  ⟨by rw [upd_same, List.map_set], (rows_upd h.1 h.2).set hr j⟩
theorem good_put {rs : List Rw} {r : Rw} {j : Nat} (h : ∀ x ∈ rs, good x) (hr : good r) : ∀ x ∈ rs.set j r, good x := fun x hx => by
  rcases List.mem_or_eq_of_mem_set hx with h1 | h1
  · exact h x h1
  · rw [h1]
    exact hr
theorem at_strs {xs : List Str} {n : Int} (h0 : 0 ≤ n) (h1 : n < (xs.length : Int)) : ∃ x, atI (xs.map V.str) n = some (.str x) ∧ x ∈ xs := by
  obtain ⟨m, rfl⟩ := Int.eq_ofNat_of_zero_le h0
  have hm : m < xs.length := by omega
  exact ⟨xs[m], atI_nat (by rw [List.getElem?_map, List.getElem?_eq_getElem hm]; rfl), List.getElem_mem hm⟩
theorem at_ints {xs : List Int} {n : Int} (h0 : 0 ≤ n) (h1 : n < (xs.length : Int)) : ∃ x, atI (xs.map V.int) n = some (.int x) ∧ x ∈ xs := by
  obtain ⟨m, rfl⟩ := Int.eq_ofNat_of_zero_le h0
  have hm : m < xs.length := by omega
  exact ⟨xs[m], atI_nat (by rw [List.getElem?_map, List.getElem?_eq_getElem hm]; rfl), List.getElem_mem hm⟩
theorem inV_strs (w : Str) (zs : List Str) : inV (.str w) (zs.map V.str) = decide (w ∈ zs) := by
  unfold inV
  rw [List.any_map]
  by_cases h : w ∈ zs
  · rw [decide_eq_true h, List.any_eq_true]
    exact ⟨w, h, by show (w == w) = true; exact beq_self_eq_true w⟩
  · rw [decide_eq_false h, List.any_eq_false]
    intro y hy e
    have e1 : (y == w) = true := e
    exact h (by rw [← (beq_iff_eq.mp e1)]; exact hy)
theorem All2.at' {α β : Type} {R : α → β → Prop} : ∀ {as : List α} {bs : List β}, All2 R as bs → ∀ {i : Nat} {a : α}, as[i]? = some a → ∃ b, bs[i]? = some b ∧ R a b
  | _, _, .cons h _, 0, _, hb => ⟨_, rfl, by cases hb; exact h⟩
  | _, _, .cons _ t, _ + 1, _, hb => t.at' (i := _) hb
def SigR (K : PySem.W.Frag) (C : Addr) (H : Hp) (a : Addr) (r : Rw) : Prop := Sig K C H a r.1 r.2.1 r.2.2
theorem Sig.upd {K : PySem.W.Frag} {C : Addr} {H : Hp} {D a : Addr} {ys : List V} {X : HO} {z : Str} {n : Int} {ns : List Int} (hD : H D = some (.lst ys)) (h : Sig K C H a z n ns) : Sig K C (upd H D X) a z n ns := by
  obtain ⟨dx, t, h1, h2⟩ := h
  refine ⟨dx, t, ?_, ?_⟩
  · rw [upd_ne]
    · exact h1
    · rintro rfl
      rw [hD] at h1
      cases h1
  · rcases h2 with (h | ⟨o, h⟩) | h
    · refine .inl (.inl ?_)
      rw [upd_ne]
      · exact h
      · rintro rfl
        rw [hD] at h
        cases h
    · refine .inl (.inr ⟨o, ?_⟩)
      rw [upd_ne]
      · exact h
      · rintro rfl
        rw [hD] at h
        cases h
    · exact .inr h
def dueGo : List Str → List Rw → Str × Str
  | _, [] => (("book" : Str), ("" : Str))
  | known, r :: t => if r.1 ∈ known then (("twice" : Str), r.1) else dueGo (known ++ [r.1]) t
def dueOf (rs : List Rw) : Str × Str := if 12 < rs.length then (("large" : Str), ("functions" : Str)) else dueGo ["new", "copy"] rs
end
end K24

set_option Elab.async false
set_option linter.all false
set_option maxRecDepth 100000
namespace K24
open PySem PySem.Spec PyProof.Rows L2 Evl TL UL StX
section
variable {P : Program} {w : World} {K : PySem.W.Frag} {mg : Str → Option Value} {base : Heap} {A : Adr}
/-! ### books -/
def newR : Rw := ("new", 0, [])
def copyR : Rw := ("copy", 1, [])
def bkF (g e b : Addr) : List (Str × V) := [("_given", .ref g), ("_every", .ref e), ("_by_name", .ref b)]
def kvs (ss : List Addr) (rs : List Rw) : List (Key × V) := List.zipWith (fun a (r : Rw) => ((Sum.inr r.1 : Key), V.ref a)) ss rs
theorem bk_put (g e b : Addr) : putF "_by_name" (.ref b) (putF "_every" (.ref e) (putF "_given" (.ref g) [])) = bkF g e b := rfl
theorem f_given (g e b : Addr) : (bkF g e b).lookup ("_given" : Str) = some (.ref g) := rfl
theorem f_every (g e b : Addr) : (bkF g e b).lookup ("_every" : Str) = some (.ref e) := rfl
theorem f_byname (g e b : Addr) : (bkF g e b).lookup ("_by_name" : Str) = some (.ref b) := rfl
theorem val_none {z : Str} : ∀ {ss : List Addr} {rs : List Rw}, z ∉ rs.map (·.1) → valV (kvs ss rs) (Sum.inr z) = none
  | [], _, _ => rfl
  | _ :: _, [], _ => rfl
  | a :: ss, r :: rs, h => by
    rw [List.map_cons, List.mem_cons, not_or] at h
    show valV (((Sum.inr r.1 : Key), V.ref a) :: kvs ss rs) (Sum.inr z) = none
    rw [valV_neg (by intro e; exact h.1 (Sum.inr.inj e).symm)]
    exact val_none h.2
theorem val_some {z : Str} : ∀ {ss : List Addr} {rs : List Rw} {i : Nat} {a : Addr} {r : Rw}, (rs.map (·.1)).Nodup → ss[i]? = some a → rs[i]? = some r → r.1 = z → valV (kvs ss rs) (Sum.inr z) = some (.ref a)
  | [], _, _, _, _, _, h, _, _ => (nomatch h)
  | _ :: _, [], _, _, _, _, _, h, _ => (nomatch h)
  | a :: ss, r :: rs, 0, _, _, _, h1, h2, e => by
    cases h1
    cases h2
    exact valV_pos (congrArg Sum.inr e)
  | a :: ss, r :: rs, i + 1, a', r', nd, h1, h2, e => by
    rw [List.map_cons, List.nodup_cons] at nd
    show valV (((Sum.inr r.1 : Key), V.ref a) :: kvs ss rs) (Sum.inr z) = _
    have h3 : rs[i]? = some r' := h2
    rw [valV_neg (by intro q; exact nd.1 (List.mem_map.mpr ⟨r', List.mem_of_getElem? h3, e.trans (Sum.inr.inj q).symm⟩))]
    exact val_some nd.2 h1 h3 e
theorem kvs_snoc {a : Addr} {r : Rw} : ∀ {ss : List Addr} {rs : List Rw}, ss.length = rs.length → kvs (ss ++ [a]) (rs ++ [r]) = kvs ss rs ++ [((Sum.inr r.1 : Key), V.ref a)]
  | [], [], _ => rfl
  | [], _ :: _, h => (nomatch h)
  | _ :: _, [], h => (nomatch h)
  | x :: ss, y :: rs, h => by
    show _ :: kvs (ss ++ [a]) (rs ++ [r]) = _
    rw [kvs_snoc (Nat.succ.inj h)]
    rfl
theorem put_new {z : Str} {a : Addr} {ss : List Addr} {rs : List Rw} (h : z ∉ rs.map (·.1)) : putK (kvs ss rs) (Sum.inr z) (.ref a) = kvs ss rs ++ [((Sum.inr z : Key), V.ref a)] := by
  unfold putK
  rw [valV_any, val_none h, if_neg (by simp)]
theorem kvs_len (ss : List Addr) (rs : List Rw) : (kvs ss rs).length ≤ rs.length := by
  unfold kvs
  rw [List.length_zipWith]
  exact Nat.min_le_right _ _
theorem val_is {z : Str} : ∀ {ss : List Addr} {rs : List Rw}, ss.length = rs.length → (valV (kvs ss rs) (Sum.inr z)).isSome = decide (z ∈ rs.map (·.1))
  | [], [], _ => by rfl
  | [], _ :: _, h => (nomatch h)
  | _ :: _, [], h => (nomatch h)
  | a :: ss, r :: rs, h => by
    show (valV (((Sum.inr r.1 : Key), V.ref a) :: kvs ss rs) (Sum.inr z)).isSome = _
    by_cases e : r.1 = z
    · rw [valV_pos (congrArg Sum.inr e), decide_eq_true (by rw [List.map_cons, e]; exact List.mem_cons_self)]
      rfl
    · rw [valV_neg (by intro q; exact e (Sum.inr.inj q)), val_is (Nat.succ.inj h)]
      refine decide_eq_decide.mpr ?_
      rw [List.map_cons, List.mem_cons]
      exact ⟨.inr, fun q => q.resolve_left fun w => e w.symm⟩
/-- a book at a: its signatures at ss, all of them, with the parts rs -/
structure BookAt (K : PySem.W.Frag) (B C : Addr) (H : Hp) (a : Addr) (ss : List Addr) (rs : List Rw) : Prop where
  ex : ∃ dx g e b, H a = some (.ins B dx (bkF g e b)) ∧ SqT K H g ((ss.drop 2).map V.ref) ∧ H e = some (.tup (ss.map V.ref)) ∧ H b = some (.dK (kvs ss rs))
  sg : All2 (SigR K C H) ss rs
  nd : (rs.map (·.1)).Nodup
  gd : ∀ r ∈ rs, good r
  ln : rs.length ≤ 14
theorem SigR.mono {K : PySem.W.Frag} {C : Addr} {H H' : Hp} {a : Addr} {r : Rw} (e : Ex H H') (h : SigR K C H a r) : SigR K C H' a r := Sig.mono e h
theorem BookAt.mono {K : PySem.W.Frag} {B C : Addr} {H H' : Hp} {a : Addr} {ss : List Addr} {rs : List Rw} (e : Ex H H') (h : BookAt K B C H a ss rs) : BookAt K B C H' a ss rs := by
  obtain ⟨dx, g, v, b, h1, h2, h3, h4⟩ := h.ex
  exact ⟨⟨dx, g, v, b, e _ _ h1, ex_t e h2, e _ _ h3, e _ _ h4⟩, h.sg.imp fun _ _ q => q.mono e, h.nd, h.gd, h.ln⟩
theorem SigR.put {K : PySem.W.Frag} {C B x dx a : Addr} {H : Hp} {fs : List (Str × V)} {r : Rw} (hx : H x = some (.ins B dx [])) (h : SigR K C H a r) : SigR K C (upd H x (.ins B dx fs)) a r := by
  obtain ⟨d, t, h1, h2⟩ := h
  refine ⟨d, t, ?_, ?_⟩
  · rw [upd_ne]
    · exact h1
    · rintro rfl
      rw [hx] at h1
      injection Option.some.inj h1 with _ _ h3
      cases h3
  · rcases h2 with (h | ⟨o, h⟩) | h
    · exact .inl (.inl (by rw [upd_ne (ne_of h hx (by intro z; cases z))]; exact h))
    · exact .inl (.inr ⟨o, by rw [upd_ne (ne_of h hx (by intro z; cases z))]; exact h⟩)
    · exact .inr h
/-- which error is due -/
def errDue (d : Str × Str) (TL DF : Addr) : Option (Addr × Str) := if d.1 = "large" then some (TL, d.2) else if d.1 = "twice" then some (DF, d.2) else none
theorem good_new : good newR := ⟨by decide +kernel, ⟨by decide, by decide⟩, List.Pairwise.nil, fun _ h => (nomatch h)⟩
theorem good_copy : good copyR := ⟨by decide +kernel, ⟨by decide, by decide⟩, List.Pairwise.nil, fun _ h => (nomatch h)⟩
theorem due_known {rs : List Rw} (h : rs.length ≤ 12) : dueOf rs = dueGo [] (newR :: copyR :: rs) := by
  unfold dueOf
  rw [if_neg (by omega)]
  rfl
def spBookInit (K : PySem.W.Frag) (B C TL DF : Addr) : Sp := fun vs H Q E => ∃ x dx p ss rs, vs = [.ref x, .ref p] ∧ H x = some (.ins B dx []) ∧ H p = some (.tup (ss.map V.ref)) ∧ All2 (SigR K C H) ss rs ∧ (∀ r ∈ rs, good r) ∧ rs.length ≤ 100 ∧
  (errDue (dueOf rs) TL DF = none → ∀ H' s1 s2, Ex (L2.del H x) H' → BookAt K B C H' x (s1 :: s2 :: ss) (newR :: copyR :: rs) → Q .non H') ∧
  (∀ X z, errDue (dueOf rs) TL DF = some (X, z) → ∀ d H', Ex H H' → H' d = some (.xd [("what", .str z)]) → E (.ref X) (some d) H')
theorem ok_book_init (T : Tx0 w K mg A) : FnR P w K mg base (L2.CX P w) 7 A.book_init (UL.spStar (spBookInit K A.Book A.Signature A.TooLarge A.DuplicateFunction)) := by
  refine UL.starFn T.F_book_init sc_book_init (fun _ _ _ _ _ _ _ => by rfl) (fun _ _ _ _ _ _ _ _ _ => by rfl) (fun cdv Ar outer s H vs Q E hr h => ?_)
  · obtain ⟨x, dx, p, ss, rs, rfl, hx, hp, hS, hg, hl, k1, k2⟩ := h
    obtain ⟨ds, v0_sig_init_2, b0_sig_init_2⟩ := T.F_sig_init.binds0 (ps := p_sig_init) 3 (by simp) rfl (fun D doc pm an cdv ct us ks h1 h2 => by
      match us, h1, ks, h2 with
      | [_, _, _], _, [_], _ => exact ⟨_, _, _, _, _, _, rfl, rfl, rfl⟩)
    refine ⟨_, (pss_cons (ps_if (pt_cmpR op_gt (pe_callB call_len_seq (by rfl) T.m_len PySem.boot_len (pa_cons (pv 1) pa_nil)) (pe_glob (v := .int 12) (by rfl) T.c_MOST_GIVEN ⟨_, rfl⟩) (nomark _)) (pss_one (ps_raise rfl (takes_of rfl rfl rfl rfl) (pmk_oex T.ex_TooLarge.ox T.ex_TooLarge.ii T.ti_lives_init (ok_lives_init T) (hr.mono (by decide)) T.b_lives_init .nil pass0 (by rfl) T.g_TooLarge (pa_cons pe_str pa_nil)))) pss_nil)
      (pss_cons (ps_set (i := 2) sc_book_init.nd rfl (Or.inl rfl) (pe_tup (pa_cons (pe_make T.mk_Signature (ok_sig_init T) (hr.mono (by decide)) (by rfl) T.g_Signature b0_sig_init_2 v0_sig_init_2 passL (pa_cons pe_str (pa_cons pe_int pa_nil))) (pa_cons (pe_make T.mk_Signature (ok_sig_init T) (hr.mono (by decide)) (by rfl) T.g_Signature b0_sig_init_2 v0_sig_init_2 passL (pa_cons pe_str (pa_cons pe_int pa_nil))) (pa_star (pv 1) pa_nil)))))
      (pss_cons (ps_set (i := 3) sc_book_init.nd rfl (Or.inl rfl) pe_dnewK)
      (pss_cons (ps_for PassesOwn.leaving rfl (pi_tup (pv 2)) (pg_name (i := 4) sc_book_init.nd rfl (Or.inl rfl)) (pss_cons (ps_if (pt_cmp (pc_din (hu_of hr) (pe_fld (pv 4) rfl) (pv 3))) (pss_one (ps_raise rfl (takes_of rfl rfl rfl rfl) (pmk_oex T.ex_DuplicateFunction.ox T.ex_DuplicateFunction.ii T.ti_lives_init (ok_lives_init T) (hr.mono (by decide)) T.b_lives_init .nil pass0 (by rfl) T.g_DuplicateFunction (pa_cons (pe_fld (pv 4) rfl) pa_nil)))) pss_nil)
        (pss_one (ps_dput (hu_of hr) (pv 3) (pe_fld (pv 4) rfl) (pv 4) rfl))))
      (pss_cons (ps_fld (pv 0) (pv 1) rfl)
      (pss_cons (ps_fld (pv 0) (pv 2) rfl)
      (pss_one (ps_fld (pv 0) (pv 3) rfl)))))))), ?_⟩
    have hlen := hS.len
    refine ⟨_, rfl, p, _, rfl, .inr (SqT.of hp), _, 12, rfl, rfl, _, rfl, ?_⟩
    rw [List.length_map]
    refine ite2 (fun h => ?_) (fun h => ?_)
    · have h1 : (12 : Int) < (ss.length : Int) := of_decide_eq_true h
      have h2 : dueOf rs = (("large" : Str), ("functions" : Str)) := if_pos (by omega)
      refine ⟨(by show 1 ≤ 1000; decide), raise_what T.ex_TooLarge rfl fun d H' e' hd => ?_⟩
      exact k2 A.TooLarge "functions" (by rw [h2]; exact if_pos rfl) d H' e' hd
    have h1 : ¬ (12 : Int) < (ss.length : Int) := fun q => h (decide_eq_true q)
    have hl2 : rs.length ≤ 12 := by omega
    rw [due_known hl2] at k1 k2
    have thz : ∀ {z : Str} {H' : Hp}, okS z = true → Th H' (.str z) := fun h => .inl ⟨_, rfl, by have := okS_len h; omega⟩
    have thn : ∀ {n : Int} {H' : Hp}, Th H' (.int n) := .inr (.inr (.inr (.inl ⟨_, rfl⟩)))
    have th0 : ∀ {H' : Hp}, ∀ x ∈ ([] : List V), Th H' x := fun _ h => (nomatch h)
    -- new
    refine fun n1 d1 hn1 hd1 ne1 => ⟨n1, d1, .str "new", .int 0, .ref A.k_sig_init_sources, some [], rfl, upd_same, rfl, thz good_new.1, thn, ⟨⟨_, rfl, .inr (.inr ⟨T.q_sig_init_sources _, T.o_sig_init_sources⟩)⟩, th0, by decide⟩, fun _ H1 t1 e1' s1 ht1 => ⟨rfl, ?_⟩, fun h => by cases h⟩
    have e1 := made_ex hn1 hd1 e1'
    have g1 : SigR K A.Signature H1 n1 newR := ⟨d1, t1, s1, ht1⟩
    -- copy
    refine fun n2 d2 hn2 hd2 ne2 => ⟨n2, d2, .str "copy", .int 1, .ref A.k_sig_init_sources, some [], rfl, upd_same, rfl, thz good_copy.1, thn, ⟨⟨_, rfl, .inr (.inr ⟨T.q_sig_init_sources _, T.o_sig_init_sources⟩)⟩, th0, by decide⟩, fun _ H2 t2 e2' s2 ht2 => ⟨rfl, ?_⟩, fun h => by cases h⟩
    have e2 := made_ex hn2 hd2 e2'
    have g2 : SigR K A.Signature H2 n2 copyR := ⟨d2, t2, s2, ht2⟩
    have e12 := e1.trans e2
    refine ⟨_, rfl, p, _, rfl, .inl (SqT.of (e12 _ _ hp)), ?_⟩
    refine ⟨?_, fun e he => ?_⟩
    · rw [List.append_nil]
      exact sz_of (by show (ss.map V.ref).length + 1 + 1 ≤ 100000; rw [List.length_map]; omega)
    rw [List.append_nil]
    generalize hall : n1 :: n2 :: ss = all
    have hallv : V.ref n1 :: V.ref n2 :: ss.map V.ref = all.map V.ref := by rw [← hall]; rfl
    rw [hallv]
    have e3 := Ex.new (o := .tup (all.map V.ref)) he
    refine fun b hb => ?_
    generalize hH3 : upd H2 e (.tup (all.map V.ref)) = H3 at e3 hb ⊢
    have he3 : H3 e = some (.tup (all.map V.ref)) := by rw [← hH3, upd_same]
    have e03 := e12.trans e3
    generalize hrs : newR :: copyR :: rs = allr at k1 k2
    have hA : All2 (SigR K A.Signature H3) all allr := by
      rw [← hall, ← hrs]
      exact .cons ((g1.mono e2).mono e3) (.cons (g2.mono e3) (hS.imp fun _ _ q => q.mono e03))
    have hAl := hA.len
    have hrl : allr.length ≤ 14 := by rw [← hrs]; show rs.length + 1 + 1 ≤ 14; omega
    refine ⟨_, rfl, e, rfl, ⟨_, SqT.of ((Ex.new hb) _ _ he3)⟩, for_tup (xs := all.map V.ref) (fun i σ H' => (∃ v4, σ = [some (.ref x), some (.ref p), some (.ref e), some (.ref b), v4]) ∧ Ex H3 H' ∧ H' b = some (.dK (kvs (all.take i) (allr.take i))) ∧ ((allr.take i).map (·.1)).Nodup ∧ dueGo [] allr = dueGo ((allr.take i).map (·.1)) (allr.drop i))
      ⟨⟨_, rfl⟩, Ex.new hb, upd_same, List.nodup_nil, rfl⟩ (fun i σ' H' _ q => SqT.of (q.2.1 _ _ he3)) ?_ ?_⟩
    · rintro i y σ' H' hi ⟨⟨v4, rfl⟩, e4, hd, nd, due⟩
      rw [List.getElem?_map] at hi
      cases hai : all[i]? with
      | none => rw [hai] at hi; cases hi
      | some a =>
      rw [hai] at hi
      cases hi
      obtain ⟨r, hri, dx', t', ha, hta⟩ := (hA.imp fun _ _ q => q.mono e4).at' hai
      have hlt : i < allr.length := (List.getElem?_eq_some_iff.mp hri).1
      have hdr : allr.drop i = r :: allr.drop (i + 1) := by rw [List.drop_eq_getElem_cons hlt, (List.getElem?_eq_some_iff.mp hri).2]
      rw [hdr] at due
      have tl : (all.take i).length = (allr.take i).length := by rw [List.length_take, List.length_take]; omega
      have nx1 : all.take (i + 1) = all.take i ++ [a] := by rw [List.take_add_one, hai]; rfl
      have nx2 : allr.take (i + 1) = allr.take i ++ [r] := by rw [List.take_add_one, hri]; rfl
      refine ⟨_, rfl, a, _, dx', _, _, rfl, ha, T.cl_Signature, T.na_Signature_name, f_name _ _ _, _, rfl, b, _, rfl, DGet.k (k := Sum.inr r.1) hd, _, rfl, ?_⟩
      rw [val_is tl]
      refine ite2 (fun h => ?_) (fun h => ?_)
      · have hm := of_decide_eq_true h
        have h2 : dueGo [] allr = (("twice" : Str), r.1) := by rw [due]; exact if_pos hm
        refine ⟨_, rfl, a, _, dx', _, _, rfl, ha, T.cl_Signature, T.na_Signature_name, f_name _ _ _, (by show 1 ≤ 1000; decide), raise_what T.ex_DuplicateFunction rfl fun d H'' e'' hx'' => ?_⟩
        exact k2 A.DuplicateFunction r.1 (by rw [h2]; rfl) d H'' ((e03.trans e4).trans e'') hx''
      · have hm : ¬ r.1 ∈ (allr.take i).map (·.1) := fun q => h (decide_eq_true q)
        refine ⟨_, rfl, _, rfl, _, rfl, a, _, dx', _, _, rfl, ha, T.cl_Signature, T.na_Signature_name, f_name _ _ _, b, _, rfl, DPut.k (k := Sum.inr r.1) hd ?_, ⟨_, rfl⟩, e4.mut hb, ?_, ?_, ?_⟩
        · exact sz_lt (Nat.lt_of_le_of_lt (kvs_len _ _) (by rw [List.length_take]; omega))
        · rw [upd_same, put_new hm, nx1, nx2, kvs_snoc tl]
        · rw [nx2, List.map_append]
          refine List.pairwise_append.mpr ⟨nd, List.pairwise_singleton _ _, fun u hu v hv => ?_⟩
          rw [List.mem_singleton.mp hv]
          rintro rfl
          exact hm hu
        · rw [due, nx2, List.map_append]
          exact if_neg hm
    rintro σ' H' ⟨⟨v4, rfl⟩, e4, hd, nd, due⟩
    rw [List.length_map, hAl, List.take_length] at hd nd due
    rw [← hAl, List.take_length] at hd
    rw [List.drop_length] at due
    have done : errDue (dueGo [] allr) A.TooLarge A.DuplicateFunction = none := by rw [due]; rfl
    have hx' := (e03.trans e4) _ _ hx
    have hp' := (e03.trans e4) _ _ hp
    have he' := e4 _ _ he3
    refine ⟨_, rfl, _, rfl, x, _, dx, _, rfl, hx', T.cl_Book, T.na_Book__given, by decide, ?_⟩
    refine ⟨_, rfl, _, rfl, x, _, dx, _, rfl, upd_same, T.cl_Book, T.na_Book__every, by show 1 < 1000; decide, ?_⟩
    refine ⟨_, rfl, _, rfl, x, _, dx, _, rfl, upd_same, T.cl_Book, T.na_Book__by_name, by show 2 < 1000; decide, ?_⟩
    rw [upd_upd, upd_upd]
    have keep : ∀ c o, c ≠ x → H' c = some o → upd H' x (.ins A.Book dx (bkF p e b)) c = some o := fun c o n q => by rw [upd_ne n]; exact q
    have q := k1 done (upd H' x (.ins A.Book dx (bkF p e b))) n1 n2 (ex_del (e03.trans e4) keep)
    rw [hall] at q
    have npx : p ≠ x := ne_of hp' hx' (by intro z; cases z)
    have nex : e ≠ x := ne_of he' hx' (by intro z; cases z)
    have nbx : b ≠ x := ne_of hd hx' (by intro z; cases z)
    refine q ⟨⟨dx, p, e, b, upd_same, ?_, keep _ _ nex he', keep _ _ nbx hd⟩, ?_, nd, ?_, hrl⟩
    · rw [← hall]
      exact SqT.of (keep _ _ npx hp')
    · exact (hA.imp fun _ _ q => q.mono e4).imp fun _ _ q => q.put hx'
    · rw [← hrs]
      intro r hr
      rcases List.mem_cons.mp hr with rfl | hr
      · exact good_new
      · rcases List.mem_cons.mp hr with rfl | hr
        · exact good_copy
        · exact hg r hr
/-! the methods -/
def spBookIter (K : PySem.W.Frag) (B : Addr) : Sp := fun vs H Q _ => ∃ a dx g e b zs, vs = [.ref a] ∧ H a = some (.ins B dx (bkF g e b)) ∧ H e = some (.tup zs) ∧ ∀ it, H it = none → Q (.ref it) (upd H it (ItTup e it 0))
theorem ok_book_iter (T : Tx0 w K mg A) : FnOk P w K mg base CX0 1 A.book_iter A.d_book_iter p_book_iter (spBookIter K A.Book) := by
  refine T.F_book_iter.ok sc_book_iter (fun vs H Q E h => ?_) (fun cdv Ar outer s H vs Q E hr h => ?_)
  · obtain ⟨a, dx, g, e, b, zs, rfl, _⟩ := h
    rfl
  · obtain ⟨a, dx, g, e, b, zs, rfl, h1, h3, k⟩ := h
    refine ⟨_, (pss_one (ps_ret (pe_callB UL.call_iterT (by rfl) T.m_iter (by decide +kernel) (pa_cons (pe_fld (pv 0) rfl) pa_nil)))), ?_⟩
    exact ⟨_, rfl, a, _, dx, _, _, rfl, h1, T.cl_Book, T.na_Book__every, f_every _ _ _, e, _, rfl, SqT.of h3, k⟩
def hasB (v : V) (rs : List Rw) : Bool := match v with | .str z => decide (z ∈ rs.map (·.1)) | _ => false
def spBookHas (K : PySem.W.Frag) (B C : Addr) : Sp := fun vs H Q _ => ∃ a v ss rs, vs = [.ref a, v] ∧ BookAt K B C H a ss rs ∧ Th H v ∧ Q (.bl (hasB v rs)) H
theorem ok_book_has (T : Tx0 w K mg A) : FnOk P w K mg base CX0 1 A.book_has A.d_book_has p_book_has (spBookHas K A.Book A.Signature) := by
  refine T.F_book_has.ok sc_book_has (fun vs H Q E h => ?_) (fun cdv Ar outer s H vs Q E hr h => ?_)
  · obtain ⟨a, v, ss, rs, rfl, _⟩ := h
    rfl
  · obtain ⟨a, v, ss, rs, rfl, bk, hv, k⟩ := h
    refine ⟨_, (pss_one (ps_ret (pe_and (pe_callB call_isi (by rfl) T.m_isinstance (by decide +kernel) (pa_cons (pv 1) (pa_cons (pe_bltn (v := .ty "str") (u := .type "str") (by rfl) T.m_str (by decide +kernel) rfl) pa_nil))) (pe_one (pe_cmp (pc_din (hu_of hr) (pv 1) (pe_fld (pv 0) rfl)) rfl))))), ?_⟩
    obtain ⟨t, ht, h1⟩ := hv.isi (K := K)
    obtain ⟨dx, g, e, b, b1, b2, b3, b4⟩ := bk.ex
    refine ⟨_, rfl, v, _, t, _, _, rfl, .ty "str", ht, h1, _, rfl, ?_⟩
    cases v with
    | str z =>
      refine iteT ⟨_, rfl, _, rfl, a, _, dx, _, _, rfl, b1, T.cl_Book, T.na_Book__by_name, f_byname _ _ _, b, _, rfl, DGet.k (k := Sum.inr z) b4, ?_⟩
      rw [val_is bk.sg.len]
      exact k
    | _ => exact iteF k
def spBookGet (K : PySem.W.Frag) (B C UF : Addr) : Sp := fun vs H Q E => ∃ a v ss rs, vs = [.ref a, v] ∧ BookAt K B C H a ss rs ∧ Th H v ∧ flatV v = true ∧
  (∀ (i : Nat) s (r : Rw) z, v = .str z → ss[i]? = some s → rs[i]? = some r → r.1 = z → Q (.ref s) H) ∧ (hasB v rs = false → ∀ d H', Ex H H' → H' d = some (.xd [("what", v)]) → E (.ref UF) (some d) H')
theorem ok_book_get (T : Tx0 w K mg A) : FnOk P w K mg base (L2.CX P w) 4 A.book_get A.d_book_get p_book_get (spBookGet K A.Book A.Signature A.UnknownFunction) := by
  refine T.F_book_get.okX sc_book_get (fun vs H Q E h => ?_) (fun cdv Ar outer s H vs Q E hr h => ?_)
  · obtain ⟨a, v, ss, rs, rfl, _⟩ := h
    rfl
  · obtain ⟨a, v, ss, rs, rfl, bk, hv, hf, k1, k2⟩ := h
    refine ⟨_, (pss_cons (ps_if (pt_cmpR (UL.op_ownNotIn (ok_book_has T) (hr.mono (by decide)) T.e_book_has.at_ T.e_book_has.fn T.b_book_has pass0) (pv 1) (pv 0) (by rfl)) (pss_one (ps_raise rfl (takes_of rfl rfl rfl rfl) (pmk_oex T.ex_UnknownFunction.ox T.ex_UnknownFunction.ii T.ti_lives_init (ok_lives_init T) (hr.mono (by decide)) T.b_lives_init .nil pass0 (by rfl) T.g_UnknownFunction (pa_cons (pv 1) pa_nil)))) pss_nil)
      (pss_one (ps_ret (pe_dget (hu_of hr) (pe_fld (pv 0) rfl) (pv 1) (fun _ _ => rfl))))), ?_⟩
    obtain ⟨dx, g, e, b, b1, b2, b3, b4⟩ := bk.ex
    refine ⟨_, rfl, _, rfl, a, dx, _, rfl, b1, a, v, ss, rs, rfl, bk, hv, _, rfl, _, rfl, ?_⟩
    cases hb : hasB v rs with
    | false => exact iteT ⟨_, rfl, (by show 1 ≤ 1000; decide), raise_what T.ex_UnknownFunction hf fun d H' e' hd => k2 hb d H' e' hd⟩
    | true =>
      obtain ⟨z, i, s, r, rfl, hs, hr, hz⟩ : ∃ z i s, ∃ r : Rw, v = .str z ∧ ss[i]? = some s ∧ rs[i]? = some r ∧ r.1 = z := by
        cases v with
        | str z =>
          have hm : z ∈ rs.map (·.1) := of_decide_eq_true hb
          obtain ⟨r, hr, hz⟩ := List.mem_map.mp hm
          obtain ⟨i, hi⟩ := List.mem_iff_getElem?.mp hr
          obtain ⟨s, hs, _⟩ := bk.sg.at hi
          exact ⟨z, i, s, r, rfl, hs, hi, hz⟩
        | _ => cases hb
      refine iteF ⟨_, rfl, a, _, dx, _, _, rfl, b1, T.cl_Book, T.na_Book__by_name, f_byname _ _ _, _, rfl, b, .ref s, rfl, ?_, k1 i s r z rfl hs hr hz⟩
      have q := DGet.k (k := Sum.inr z) b4
      rw [val_some bk.nd hs hr hz] at q
      exact q
end
end K24

set_option Elab.async false
set_option linter.all false
set_option maxRecDepth 100000
namespace K24
open PySem PySem.Spec PyProof.Rows L2 Evl TL UL StX
section
variable {P : Program} {w : World} {K : PySem.W.Frag} {mg : Str → Option Value} {base : Heap} {A : Adr}
/-! ### the reader -/
theorem cut_seg {z : Str} {s e : Nat} (h1 : s ≤ e) (h2 : e ≤ z.length) : cutS z (some (s : Int)) (some (e : Int)) = ofL (((tl z).take e).drop s) := by
  have hl : z.cps.toList.length = z.length := by simp [Str.length]
  unfold cutS
  rw [HT.sIx_nat, HT.sIx_nat, Nat.min_eq_left (show s ≤ z.length by omega), Nat.min_eq_left h2, ← List.drop_take]
  rfl
theorem cut_tail {z : Str} {s : Nat} (h1 : s ≤ z.length) : cutS z (some (s : Int)) none = ofL ((tl z).drop s) := by
  have hl : z.cps.toList.length = z.length := by simp [Str.length]
  unfold cutS
  rw [HT.sIx_nat, HT.sIx_none, Nat.min_eq_left h1, List.take_of_length_le (by rw [List.length_drop]; omega)]
  rfl
theorem sgn_eq (c d : Nat) : decide (V.str ⟨#[c]⟩ = V.str ⟨#[d]⟩) = decide (c = d) := decide_eq_decide.mpr ⟨fun h => by injection h with h; injection h with h; simpa using h, fun h => by rw [h]⟩
theorem piece_eq (l : List Nat) (d : Nat) : decide (V.str (ofL l) = V.str ⟨#[d]⟩) = decide (l = [d]) := decide_eq_decide.mpr ⟨fun h => by injection h with h; injection h with h; simpa using h, fun h => by rw [h]; rfl⟩
def spCut : Sp := fun vs H Q _ => ∃ z : Str, vs = [.str z] ∧ z.length ≤ 2000 ∧ ∀ p H', Ex H H' → H' p = some (.lst ((cutGo [] (tl z)).map fun l => V.str (ofL l))) → H p = none → Q (.ref p) H'
/-- where it is -/
structure CutAt (H H' : Hp) (p : Addr) (z : Str) (i st : Nat) (P : List (List Nat)) : Prop where
  ex : Ex H H'
  at_ : H' p = some (.lst (P.map fun l => V.str (ofL l)))
  le : st ≤ i
  eq : P ++ cutGo (((tl z).take i).drop st) ((tl z).drop i) = cutGo [] (tl z)
  len : P.length ≤ 2 * i
theorem ok_cut (T : Tx0 w K mg A) : FnOk P w K mg base CX0 1 A.cut A.d_cut p_cut spCut := by
  refine T.F_cut.ok sc_cut (fun vs H Q E h => ?_) (fun cdv Ar outer s H vs Q E hr h => ?_)
  · obtain ⟨z, rfl, _⟩ := h
    rfl
  · obtain ⟨z, rfl, hz, k⟩ := h
    refine ⟨_, (pss_cons (ps_set (i := 1) sc_cut.nd rfl (Or.inl rfl) (pe_lst pa_nil))
      (pss_cons (ps_set (i := 2) sc_cut.nd rfl (Or.inl rfl) pe_int)
      (pss_cons (ps_for PassesOwn.never rfl (UL.pi_enumS (by rfl) T.m_enumerate (pa_cons (pv 0) pa_nil)) (pg_tup (n := 2) rfl (pgs_cons (pg_name (i := 3) sc_cut.nd rfl (Or.inl rfl)) (pgs_cons (pg_name (i := 4) sc_cut.nd rfl (Or.inl rfl)) pgs_nil))) (pss_one (ps_if (pt_cmpR op_eq (pv 4) pe_str (nomark _)) (pss_cons (ps_expr (pe_bm PySem.F.plainAttrs_list PySem.F.slot_list_append PySem.F.type_list_append mt_append (pv 1) (pa_cons (pe_slice sl_str (pv 0) (po_some (pv 2)) (po_some (pe_op op_add (pv 3) pe_int))) pa_nil)))
          (pss_one (ps_set (i := 2) sc_cut.nd rfl (Or.inl rfl) (pe_op op_add (pv 3) pe_int)))) (pss_one (ps_if (PW.pt (pw_or (pt_cmpR op_eq (pv 4) pe_str (nomark _)) (pw_or1 (pt_cmpR op_eq (pv 4) pe_str (nomark _))))) (Evl.pss_cut (ps_if (pt_cmpR op_lt (pv 2) (pv 3) (nomark _)) (pss_one (ps_expr (pe_bm PySem.F.plainAttrs_list PySem.F.slot_list_append PySem.F.type_list_append mt_append (pv 1) (pa_cons (pe_slice sl_str (pv 0) (po_some (pv 2)) (po_some (pv 3))) pa_nil)))) pss_nil)
            (pss_cons (ps_expr (pe_bm PySem.F.plainAttrs_list PySem.F.slot_list_append PySem.F.type_list_append mt_append (pv 1) (pa_cons (pv 4) pa_nil)))
            (pss_one (ps_set (i := 2) sc_cut.nd rfl (Or.inl rfl) (pe_op op_add (pv 3) pe_int))))) pss_nil)))))
      (pss_cons (ps_if (pt_cmpR op_lt (pv 2) (pe_callB call_len_str (by rfl) T.m_len PySem.boot_len (pa_cons (pv 0) pa_nil)) (nomark _)) (pss_one (ps_expr (pe_bm PySem.F.plainAttrs_list PySem.F.slot_list_append PySem.F.type_list_append mt_append (pv 1) (pa_cons (pe_slice sl_str (pv 0) (po_some (pv 2)) po_none) pa_nil)))) pss_nil)
      (pss_one (ps_ret (pv 1))))))), ?_⟩
    refine ⟨Nat.zero_le _, fun p hp => ?_⟩
    have hlz : (tl z).length = z.length := (len_tl z).symm
    refine ⟨_, rfl, z, rfl, ?_⟩
    refine for_it UL.walk_enumS (fun i σ' H' => ∃ st P v3 v4, σ' = [some (.str z), some (.ref p), some (.int ((st : Nat) : Int)), v3, v4] ∧ CutAt H H' p z i st P) ⟨0, [], none, none, rfl, Ex.new hp, upd_same, Nat.le_refl _, rfl, Nat.le_refl _⟩ (fun _ _ _ _ _ => trivial) ?_ ?_
    · rintro i x σ' H1 H2 hi ⟨st, P, v3, v4, rfl, ⟨e1, hL, hle, heq, hlen⟩⟩ ⟨Tt, c, rfl, hT, rfl, hc⟩
      have hi' : i < z.length := hi
      have hcl : (tl z)[i]? = some c := by
        rw [show (tl z)[i]? = z.cps[i]? from Array.getElem?_toList]
        exact hc
      have hd : (tl z).drop i = c :: (tl z).drop (i + 1) := by
        obtain ⟨h1, h2⟩ := List.getElem?_eq_some_iff.mp hcl
        rw [List.drop_eq_getElem_cons h1, h2]
      have ht : ((tl z).take (i + 1)).drop st = ((tl z).take i).drop st ++ [c] := by
        rw [List.take_succ, hcl, List.drop_append_of_le_length (by rw [List.length_take]; omega)]
        rfl
      have hpl : (((tl z).take i).drop st).length = i - st := by rw [List.length_drop, List.length_take]; omega
      have e2 := Ex.new (o := .tup [.int (i : Nat), .str ⟨#[c]⟩]) hT
      have hL2 := e2 _ _ hL
      have e12 := e1.trans e2
      rw [hd] at heq
      have hTt : upd H1 Tt (.tup [.int (i : Nat), .str ⟨#[c]⟩]) Tt = some (.tup [.int (i : Nat), .str ⟨#[c]⟩]) := upd_same
      have hpT : p ≠ Tt := fun z => by rw [z] at hL; rw [hL] at hT; cases hT
      revert hTt e2 hL2 e12
      show Ex H1 (upd H1 Tt (.tup [.int (i : Nat), .str ⟨#[c]⟩])) → (upd H1 Tt (.tup [.int (i : Nat), .str ⟨#[c]⟩])) p = _ → Ex H (upd H1 Tt (.tup [.int (i : Nat), .str ⟨#[c]⟩])) → (upd H1 Tt (.tup [.int (i : Nat), .str ⟨#[c]⟩])) Tt = _ → gTup _ _ _ _ _ (upd H1 Tt (.tup [.int (i : Nat), .str ⟨#[c]⟩])) _
      generalize upd H1 Tt (.tup [.int (i : Nat), .str ⟨#[c]⟩]) = H2
      intro e2 hL2 e12 hTt
      refine ⟨Tt, _, rfl, SqT.of hTt, rfl, _, _, rfl, _, _, rfl, rfl, ?_⟩
      have seg : ∀ e : Nat, st ≤ e → e ≤ i + 1 → cutS z (some (st : Int)) (some (e : Int)) = ofL (((tl z).take e).drop st) := fun e h1 h2 => cut_seg h1 (by omega)
      have hsz : z.length ≤ sizeLine := sz_of (by omega)
      have psz : ∀ {l : List V}, l.length = P.length → l.length < sizeLine := fun h => sz_lt (by omega)
      have muts : ∀ xs, Ex H (upd H2 p (.lst xs)) := fun xs => e12.mut hp
      refine ⟨_, rfl, rfl, _, rfl, ?_⟩
      rw [show decide (V.str ⟨#[c]⟩ = V.str "(") = decide (c = 40) from sgn_eq c 40]
      refine ite2 (fun e => ?_) (fun n40 => ?_)
      · obtain rfl : c = 40 := of_decide_eq_true e
        refine ⟨_, rfl, .inl ⟨rfl, _, SqL.of hL2⟩, _, rfl, _, rfl, _, rfl, _, rfl, (i : Int), 1, rfl, rfl, _, rfl, z, rfl, hsz, p, _, _, rfl, rfl, hL2, psz (by rw [List.length_map]), ?_⟩
        refine ⟨_, rfl, (i : Int), 1, rfl, rfl, i + 1, P ++ [((tl z).take i).drop st ++ [40]], _, _, rfl, muts _, ?_, Nat.le_refl _, ?_, ?_⟩
        · rw [upd_same, List.map_append, show (i : Int) + 1 = ((i + 1 : Nat) : Int) by omega, seg (i + 1) (by omega) (Nat.le_refl _), ht]
          rfl
        · rw [← heq, cutGo_cons, if_pos rfl, List.drop_eq_nil_of_le (as := (tl z).take (i + 1)) (by rw [List.length_take]; omega), List.append_assoc]
          rfl
        · rw [List.length_append, List.length_singleton]
          omega
      have n1 : c ≠ 40 := fun z => n40 (decide_eq_true z)
      rw [cutGo_cons, if_neg n1] at heq
      refine ⟨_, rfl, rfl, _, rfl, ?_⟩
      rw [show decide (V.str ⟨#[c]⟩ = V.str ",") = decide (c = 44) from sgn_eq c 44]
      by_cases hc2 : c = 44 ∨ c = 41
      · rw [if_pos hc2] at heq
        rcases hc2 with h44 | h41
        · rw [decide_eq_true h44]
          refine iteT (iteT ?_)
          refine ⟨fun σ' H' => ∃ P', σ' = [some (.str z), some (.ref p), some (.int ((st : Nat) : Int)), some (.int (i : Int)), some (.str ⟨#[c]⟩)] ∧ Ex H H' ∧ H' p = some (.lst (P'.map fun l => V.str (ofL l))) ∧ P' ++ [c] :: cutGo [] ((tl z).drop (i + 1)) = cutGo [] (tl z) ∧ P'.length ≤ 2 * i + 1, ?_, ?_⟩
          · refine ⟨_, rfl, _, rfl, (st : Int), (i : Int), rfl, rfl, _, rfl, ite2 (fun e => ?_) (fun n => ?_)⟩
            · have e3 : (st : Int) < i := of_decide_eq_true e
              rw [if_neg (fun h => by rw [h] at hpl; rw [List.length_nil] at hpl; omega)] at heq
              refine ⟨_, rfl, .inl ⟨rfl, _, SqL.of hL2⟩, _, rfl, _, rfl, _, rfl, _, rfl, _, rfl, z, rfl, hsz, p, _, _, rfl, rfl, hL2, psz (by rw [List.length_map]), P ++ [((tl z).take i).drop st], rfl, muts _, ?_, ?_, ?_⟩
              · rw [upd_same, List.map_append, seg i hle (by omega)]
                rfl
              · rw [← heq, List.append_assoc]
              · rw [List.length_append, List.length_singleton]
                omega
            · have e3 : ¬ (st : Int) < i := fun z => n (decide_eq_true z)
              rw [if_pos (List.eq_nil_of_length_eq_zero (by omega)), List.nil_append] at heq
              exact ⟨P, rfl, e12, hL2, heq, by omega⟩
          · rintro σ' H3 ⟨P', rfl, e13, hL3, heq3, hl3⟩
            refine ⟨_, rfl, .inl ⟨rfl, _, SqL.of hL3⟩, _, rfl, p, _, _, rfl, rfl, hL3, sz_lt (by rw [List.length_map]; omega), ?_⟩
            refine ⟨_, rfl, (i : Int), 1, rfl, rfl, i + 1, P' ++ [[c]], _, _, rfl, e13.mut hp, ?_, Nat.le_refl _, ?_, ?_⟩
            · rw [upd_same, List.map_append]
              rfl
            · rw [← heq3, List.drop_eq_nil_of_le (as := (tl z).take (i + 1)) (by rw [List.length_take]; omega), List.append_assoc]
              rfl
            · rw [List.length_append, List.length_singleton]
              omega
        · rw [decide_eq_false (show ¬ c = 44 by omega)]
          refine iteF ⟨_, rfl, rfl, _, rfl, ?_⟩
          rw [show decide (V.str ⟨#[c]⟩ = V.str ")") = decide (c = 41) from sgn_eq c 41, decide_eq_true h41]
          refine iteT ?_
          refine ⟨fun σ' H' => ∃ P', σ' = [some (.str z), some (.ref p), some (.int ((st : Nat) : Int)), some (.int (i : Int)), some (.str ⟨#[c]⟩)] ∧ Ex H H' ∧ H' p = some (.lst (P'.map fun l => V.str (ofL l))) ∧ P' ++ [c] :: cutGo [] ((tl z).drop (i + 1)) = cutGo [] (tl z) ∧ P'.length ≤ 2 * i + 1, ?_, ?_⟩
          · refine ⟨_, rfl, _, rfl, (st : Int), (i : Int), rfl, rfl, _, rfl, ite2 (fun e => ?_) (fun n => ?_)⟩
            · have e3 : (st : Int) < i := of_decide_eq_true e
              rw [if_neg (fun h => by rw [h] at hpl; rw [List.length_nil] at hpl; omega)] at heq
              refine ⟨_, rfl, .inl ⟨rfl, _, SqL.of hL2⟩, _, rfl, _, rfl, _, rfl, _, rfl, _, rfl, z, rfl, hsz, p, _, _, rfl, rfl, hL2, psz (by rw [List.length_map]), P ++ [((tl z).take i).drop st], rfl, muts _, ?_, ?_, ?_⟩
              · rw [upd_same, List.map_append, seg i hle (by omega)]
                rfl
              · rw [← heq, List.append_assoc]
              · rw [List.length_append, List.length_singleton]
                omega
            · have e3 : ¬ (st : Int) < i := fun z => n (decide_eq_true z)
              rw [if_pos (List.eq_nil_of_length_eq_zero (by omega)), List.nil_append] at heq
              exact ⟨P, rfl, e12, hL2, heq, by omega⟩
          · rintro σ' H3 ⟨P', rfl, e13, hL3, heq3, hl3⟩
            refine ⟨_, rfl, .inl ⟨rfl, _, SqL.of hL3⟩, _, rfl, p, _, _, rfl, rfl, hL3, sz_lt (by rw [List.length_map]; omega), ?_⟩
            refine ⟨_, rfl, (i : Int), 1, rfl, rfl, i + 1, P' ++ [[c]], _, _, rfl, e13.mut hp, ?_, Nat.le_refl _, ?_, ?_⟩
            · rw [upd_same, List.map_append]
              rfl
            · rw [← heq3, List.drop_eq_nil_of_le (as := (tl z).take (i + 1)) (by rw [List.length_take]; omega), List.append_assoc]
              rfl
            · rw [List.length_append, List.length_singleton]
              omega
      · have n44 : c ≠ 44 := fun z => hc2 (.inl z)
        have n41 : c ≠ 41 := fun z => hc2 (.inr z)
        rw [if_neg hc2] at heq
        rw [decide_eq_false n44]
        refine iteF ⟨_, rfl, rfl, _, rfl, ?_⟩
        rw [show decide (V.str ⟨#[c]⟩ = V.str ")") = decide (c = 41) from sgn_eq c 41, decide_eq_false n41]
        refine iteF ?_
        exact ⟨st, P, _, _, rfl, e12, hL2, by omega, by rw [ht]; exact heq, by omega⟩
    · rintro σ' H1 ⟨st, P, v3, v4, rfl, ⟨e1, hL, hle, heq, hlen⟩⟩
      have hd : (tl z).drop z.cps.size = [] := List.drop_eq_nil_of_le (by rw [hlz]; exact Nat.le_refl _)
      have ht : (tl z).take z.cps.size = tl z := List.take_of_length_le (by rw [hlz]; exact Nat.le_refl _)
      have hle' : st ≤ z.length := hle
      have hlen' : P.length ≤ 2 * z.length := hlen
      have hpl : ((tl z).drop st).length = z.length - st := by rw [List.length_drop, hlz]
      rw [hd, ht, cutGo_nil] at heq
      refine ⟨_, rfl, _, rfl, z, rfl, sz_of (by omega), (st : Int), (z.length : Int), rfl, rfl, _, rfl, ite2 (fun e => ?_) (fun n => ?_)⟩
      · have e2 : (st : Int) < z.length := of_decide_eq_true e
        rw [if_neg (fun h => by rw [h] at hpl; rw [List.length_nil] at hpl; omega)] at heq
        refine ⟨_, rfl, .inl ⟨rfl, _, SqL.of hL⟩, _, rfl, _, rfl, _, rfl, z, rfl, sz_of (by omega), p, _, _, rfl, rfl, hL, sz_lt (by rw [List.length_map]; omega), _, rfl, k p _ (e1.mut hp) ?_ hp⟩
        rw [upd_same, cut_tail hle', ← heq, List.map_append]
        rfl
      · have e2 : ¬ (st : Int) < z.length := fun z => n (decide_eq_true z)
        rw [if_pos (List.eq_nil_of_length_eq_zero (by omega)), List.append_nil] at heq
        exact ⟨_, rfl, k p _ e1 (by rw [hL, heq]) hp⟩
/-! ### nodes and what waits, on the heap -/
def ni (os : List Nat) : List V := os.map fun n : Nat => V.int (n : Int)
def NdAt (H : Hp) (a : Addr) : Nd → Prop
  | .name w => H a = some (.tup [.str "name", .str w])
  | .call w os => ∃ t, H a = some (.tup [.str "call", .str w, .ref t]) ∧ H t = some (.tup (ni os))
  | .op w os => H a = some (.tup (.str w :: ni os))
theorem NdAt.mono {H H' : Hp} {a : Addr} {nd : Nd} (e : Ex H H') (h : NdAt H a nd) : NdAt H' a nd := by
  cases nd with
  | name w => exact e _ _ h
  | call w os =>
    obtain ⟨t, h1, h2⟩ := h
    exact ⟨t, e _ _ h1, e _ _ h2⟩
  | op w os => exact e _ _ h
/-- a list is written: the nodes stay -/
theorem NdAt.put {H : Hp} {a l : Addr} {nd : Nd} {xs ys : List V} (hl : H l = some (.lst xs)) (h : NdAt H a nd) : NdAt (upd H l (.lst ys)) a nd := by
  have kp : ∀ {b : Addr} {ts : List V}, H b = some (.tup ts) → upd H l (.lst ys) b = some (.tup ts) := fun {b ts} e => by
    rw [upd_ne (fun z => by rw [z, hl] at e; cases e)]
    exact e
  cases nd with
  | name w => exact kp h
  | call w os =>
    obtain ⟨t, h1, h2⟩ := h
    exact ⟨t, kp h1, kp h2⟩
  | op w os => exact kp h
def spOper (K : PySem.W.Frag) : Sp := fun vs H Q _ => ∃ (w : Str) (o : Addr) (os : List Nat) (nd : Nd), vs = [.str w, .ref o] ∧ H o = some (.lst (ni os)) ∧ os.length ≤ 1000 ∧ oper okS w os = some nd ∧ ∀ a H', Ex H H' → NdAt H' a nd → Q (.ref a) H'
theorem ok_operation (T : Tx0 w K mg A) : FnOk P w K mg base CX0 2 A.operation A.d_operation p_operation (spOper K) := by
  refine T.F_operation.ok sc_operation (fun vs H Q E h => ?_) (fun cdv Ar outer s H vs Q E hr h => ?_)
  · obtain ⟨w, o, os, nd, rfl, _⟩ := h
    rfl
  · obtain ⟨wd, o, os, nd, rfl, ho, hl, hop, k⟩ := h
    refine ⟨_, (pss_cons (ps_if (pt_cmpR UL.op_inW (pv 0) (pe_glob (v := .ref A.OPERATIONS) (by rfl) T.c_OPERATIONS rfl) (by rfl)) (pss_one (ps_ret (pe_ifExp (pt_cmpR op_eq (pe_callB call_len_seq (by rfl) T.m_len PySem.boot_len (pa_cons (pv 1) pa_nil)) (pe_ix UL.ix_W (pe_glob (v := .ref A.OPERATIONS) (by rfl) T.c_OPERATIONS rfl) (pv 0) (fun _ _ => rfl)) (nomark _)) (pe_tup (pa_cons (pv 0) (pa_star (pv 1) pa_nil))) pe_non))) pss_nil)
      (pss_cons (ps_if (PW.pt (pw_and (pt_val (pe_call (ok_is_name T) (hr.mono (by decide)) (by rfl) T.g_is_name T.F_is_name.kp T.b_is_name .nil pass0 (pa_cons (pv 0) pa_nil))) (pw_and1 (pt_cmpR op_le (pe_callB call_len_seq (by rfl) T.m_len PySem.boot_len (pa_cons (pv 1) pa_nil)) (pe_glob (v := .int 4) (by rfl) T.c_MOST_ARGUMENTS ⟨_, rfl⟩) (nomark _))))) (pss_one (ps_ret (pe_tup (pa_cons pe_str (pa_cons (pv 0) (pa_cons (pe_callTy call_tuple_of (by rfl) T.m_tuple (by decide +kernel) (pa_cons (pv 1) pa_nil)) pa_nil)))))) pss_nil)
      (pss_one (ps_ret pe_non)))), ?_⟩
    refine ⟨_, rfl, wd, A.OPERATIONS, opsT, rfl, rfl, T.w_OPERATIONS, _, rfl, ?_⟩
    cases hlk : opsT.lookup wd with
    | some n =>
      rw [oper_at hlk] at hop
      obtain ⟨hn, rfl⟩ := some_if hop
      refine iteT ⟨_, rfl, o, _, rfl, .inl (SqL.of ho), _, rfl, wd, A.OPERATIONS, opsT, n, rfl, rfl, T.w_OPERATIONS, hlk, rfl, _, rfl, ?_⟩
      rw [show decide (V.int ((ni os).length : Int) = V.int n) = true from decide_eq_true (by rw [show (ni os).length = os.length from List.length_map _, hn])]
      exact iteT ⟨_, rfl, _, rfl, o, _, rfl, .inr (SqL.of ho), sz_of (by show (V.str wd :: (ni os ++ [])).length ≤ 100000; rw [List.append_nil, List.length_cons, show (ni os).length = os.length from List.length_map _]; omega), fun p hp => k p _ (Ex.new hp) (by rw [List.append_nil]; exact upd_same)⟩
    | none =>
      rw [oper_no hlk] at hop
      obtain ⟨hn, rfl⟩ := some_if hop
      refine iteF ⟨_, rfl, _, rfl, .inl ⟨wd, rfl, by have := okS_len hn.1; omega⟩, fun H1 e1 => ?_⟩
      rw [show nm (.str wd) = true from hn.1]
      refine ⟨_, rfl, iteT ⟨_, rfl, o, _, rfl, .inl (SqL.of (e1 _ _ ho)), _, 4, rfl, rfl, _, rfl, ?_⟩⟩
      rw [show decide (((ni os).length : Int) ≤ 4) = true from decide_eq_true (by rw [show (ni os).length = os.length from List.length_map _]; omega)]
      refine iteT ⟨_, rfl, _, rfl, o, _, rfl, .inl ⟨SqL.of (e1 _ _ ho), fun t ht => ?_⟩⟩
      refine ⟨sz_of (by show 3 ≤ 100000; decide), fun p hp => k p _ ((e1.trans (Ex.new ht)).trans (Ex.new hp)) ⟨t, upd_same, (Ex.new hp) _ _ upd_same⟩⟩
/-! ### closing, adding -/
def es1 (it : List (Addr × Addr)) : List V := it.map fun x => V.ref x.1
def spClosed (K : PySem.W.Frag) : Sp := fun vs H Q _ => ∃ (l e o : Addr) (r : List V) (w : Str) (os : List Nat) (b : Bool) (nd : Nd), vs = [.ref l, .bl b] ∧ H l = some (.lst (r ++ [.ref e])) ∧ H e = some (.tup [.str w, .ref o]) ∧ H o = some (.lst (ni os)) ∧ o ≠ l ∧ os.length ≤ 1000 ∧ (os = [] ∨ b = true) ∧ oper okS w os = some nd ∧
  ∀ a H', Ex (upd H l (.lst r)) H' → NdAt H' a nd → Q (.ref a) H'
theorem ok_closed (T : Tx0 w K mg A) : FnOk P w K mg base CX0 3 A.closed A.d_closed p_closed (spClosed K) := by
  refine T.F_closed.ok sc_closed (fun vs H Q E h => ?_) (fun cdv Ar outer s H vs Q E hr h => ?_)
  · obtain ⟨l, e, o, r, w, os, b, nd, rfl, _⟩ := h
    rfl
  · obtain ⟨l, e, o, r, wd, os, b, nd, rfl, hl, he, ho, hne, hz, hb, hop, k⟩ := h
    refine ⟨_, (pss_cons (ps_if (pt_not (pt_truth (pv 0) (fun _ => rfl))) (pss_one (ps_ret pe_non)) pss_nil)
      (pss_cons (ps_asg (pe_bm0 PySem.F.plainAttrs_list PySem.F.slot_list_pop PySem.F.type_list_pop mt_pop (pv 0)) (pg_tup (n := 2) rfl (pgs_cons (pg_name (i := 2) sc_closed.nd rfl (Or.inl rfl)) (pgs_cons (pg_name (i := 3) sc_closed.nd rfl (Or.inl rfl)) pgs_nil))))
      (pss_cons (ps_if (PW.pt (pw_and (pt_truth (pv 3) (fun _ => rfl)) (pw_and1 (pt_not (pt_val (pv 1)))))) (pss_one (ps_ret pe_non)) pss_nil)
      (pss_one (ps_ret (pe_call (ok_operation T) (hr.mono (by decide)) (by rfl) T.g_operation T.F_operation.kp T.b_operation .nil pass0 (pa_cons (pv 2) (pa_cons (pv 3) pa_nil)))))))), ?_⟩
    have hel : e ≠ l := fun z => by rw [z, hl] at he; cases he
    have he1 : upd H l (.lst r) e = some (.tup [.str wd, .ref o]) := by rw [upd_ne hel]; exact he
    have ho1 : upd H l (.lst r) o = some (.lst (ni os)) := by rw [upd_ne hne]; exact ho
    refine ⟨_, rfl, true, .inl ⟨_, SqL.of hl, by simp⟩, iteF ?_⟩
    refine ⟨_, rfl, .inl ⟨rfl, _, SqL.of hl⟩, l, _, .ref e, rfl, rfl, hl, by simp, ?_⟩
    rw [List.dropLast_concat]
    refine ⟨e, _, rfl, SqT.of he1, rfl, _, _, rfl, _, _, rfl, rfl, ?_⟩
    have fin : tRet (tCall (spOper K) [] E0 (tCons (tVar 2) (tCons (tVar 3) tNil))) { nx := fun x H' => Q .non H', rt := Q } [some (.ref l), some (.bl b), some (.str wd), some (.ref o)] (upd H l (.lst r)) :=
      ⟨_, rfl, _, rfl, wd, o, os, nd, rfl, ho1, hz, hop, fun a H' e1 h1 => k a H' e1 h1⟩
    cases os with
    | nil => exact ⟨_, rfl, false, .inl ⟨_, SqL.of ho1, rfl⟩, iteF fin⟩
    | cons n os =>
      rcases hb with h | rfl
      · cases h
      exact ⟨_, rfl, true, .inl ⟨_, SqL.of ho1, rfl⟩, _, rfl, _, rfl, iteF fin⟩
def spAdd (K : PySem.W.Frag) : Sp := fun vs H Q _ => ∃ (N l x : Addr) (xs : List V), vs = [.ref N, .ref l, .ref x] ∧ H N = some (.lst xs) ∧ xs.length ≤ 1000 ∧ N ≠ l ∧
  ((H l = some (.lst []) ∧ Q .non (upd H N (.lst (xs ++ [.ref x])))) ∨
   ∃ (e o : Addr) (r : List V) (w : Str) (os : List Nat), H l = some (.lst (r ++ [.ref e])) ∧ r.length ≤ 1000 ∧ H e = some (.tup [.str w, .ref o]) ∧ H o = some (.lst (ni os)) ∧ o ≠ l ∧ o ≠ N ∧ os.length ≤ 1000 ∧ Q .non (upd (upd H o (.lst (ni (os ++ [xs.length])))) N (.lst (xs ++ [.ref x]))))
theorem ok_add_node (T : Tx0 w K mg A) : FnOk P w K mg base CX0 1 A.add_node A.d_add_node p_add_node (spAdd K) := by
  refine T.F_add_node.ok sc_add_node (fun vs H Q E h => ?_) (fun cdv Ar outer s H vs Q E hr h => ?_)
  · obtain ⟨N, l, x, xs, rfl, _⟩ := h
    rfl
  · obtain ⟨N, l, x, xs, rfl, hN, hz, hNl, h⟩ := h
    refine ⟨_, (pss_cons (ps_if (pt_truth (pv 1) (fun _ => rfl)) (pss_one (ps_expr (pe_bm PySem.F.plainAttrs_list PySem.F.slot_list_append PySem.F.type_list_append mt_append (pe_ix ix_tup (pe_ix ix_list (pv 1) (pe_un un_neg pe_int) (fun _ _ => rfl)) pe_int (fun _ _ => rfl)) (pa_cons (pe_callB call_len_seq (by rfl) T.m_len PySem.boot_len (pa_cons (pv 0) pa_nil)) pa_nil)))) pss_nil)
      (pss_one (ps_expr (pe_bm PySem.F.plainAttrs_list PySem.F.slot_list_append PySem.F.type_list_append mt_append (pv 0) (pa_cons (pv 2) pa_nil))))), ?_⟩
    rcases h with ⟨hl, k⟩ | ⟨e, o, r, wd, os, hl, hr2, he, ho, hol, hoN, hz2, k⟩
    · exact ⟨_, rfl, false, .inl ⟨_, SqL.of hl, rfl⟩, iteF ⟨_, rfl, .inl ⟨rfl, _, SqL.of hN⟩, _, rfl, N, xs, _, rfl, rfl, hN, sz_lt (by omega), k⟩⟩
    · refine ⟨_, rfl, true, .inl ⟨_, SqL.of hl, by simp⟩, iteT ?_⟩
      have hN2 : upd H o (.lst (ni (os ++ [xs.length]))) N = some (.lst xs) := by rw [upd_ne hoN.symm]; exact hN
      refine ⟨_, rfl, 1, rfl, l, _, -1, .ref e, rfl, rfl, SqL.of hl, UL.last_at (List.getLast?_concat ..), e, _, 1, .ref o, rfl, rfl, SqT.of he, atI_nat (j := 1) rfl, .inl ⟨rfl, _, SqL.of ho⟩, _, rfl, N, xs, rfl, .inl (SqL.of hN), o, _, _, rfl, rfl, ho, sz_lt (by rw [show (ni os).length = os.length from List.length_map _]; omega), ?_⟩
      rw [show ni os ++ [V.int (xs.length : Int)] = ni (os ++ [xs.length]) by unfold ni; rw [List.map_append]; rfl]
      exact ⟨_, rfl, .inl ⟨rfl, _, SqL.of hN2⟩, _, rfl, N, xs, _, rfl, rfl, hN2, sz_lt (by omega), k⟩
/-! ### reading -/
def WAt (H : Hp) (x : Addr × Addr) (y : Str × List Nat) : Prop := H x.1 = some (.tup [.str y.1, .ref x.2]) ∧ H x.2 = some (.lst (ni y.2))
structure RdAt (H H' : Hp) (p N l : Addr) (ps : List (List Nat)) (s : Rd) (as : List Addr) (it : List (Addr × Addr)) (i : Nat) : Prop where
  ex : Ex H H'
  hp : H' p = some (.lst (ps.map fun q => V.str (ofL q)))
  hN : H' N = some (.lst (as.map V.ref))
  hA : Al2 (NdAt H') as s.N
  hl : H' l = some (.lst (es1 it))
  hW : Al2 (WAt H') it s.W
  nd : (p :: N :: l :: it.map (·.2)).Nodup
  fr : ∀ a ∈ p :: N :: l :: it.map (·.2), H a = none
  zN : as.length ≤ i
  zW : it.length ≤ i
  zo : ∀ y ∈ s.W, y.2.length ≤ i
section
variable {H H' H'' : Hp} {p N l : Addr} {ps : List (List Nat)} {s : Rd} {as : List Addr} {it : List (Addr × Addr)} {i : Nat}
theorem WAt.mono {x : Addr × Addr} {y : Str × List Nat} (e : Ex H' H'') (h : WAt H' x y) : WAt H'' x y := ⟨e _ _ h.1, e _ _ h.2⟩
theorem RdAt.mono (R : RdAt H H' p N l ps s as it i) (e : Ex H' H'') : RdAt H H'' p N l ps s as it i :=
  ⟨R.ex.trans e, e _ _ R.hp, e _ _ R.hN, R.hA.imp fun _ _ h => h.mono e, e _ _ R.hl, R.hW.imp fun _ _ h => h.mono e, R.nd, R.fr, R.zN, R.zW, R.zo⟩
/-- a list is written that is none of those that wait -/
theorem WAt.put {x : Addr × Addr} {y : Str × List Nat} {q : Addr} {xs ys : List V} (hq : H' q = some (.lst xs)) (hne : x.2 ≠ q) (h : WAt H' x y) : WAt (upd H' q (.lst ys)) x y :=
  ⟨by rw [upd_ne (fun z => by rw [← z, h.1] at hq; cases hq)]; exact h.1, by rw [upd_ne hne]; exact h.2⟩
theorem al2_put {q : Addr} {xs ys : List V} (hq : H' q = some (.lst xs)) : ∀ {it : List (Addr × Addr)} {W : Wt}, (∀ x ∈ it, x.2 ≠ q) → Al2 (WAt H') it W → Al2 (WAt (upd H' q (.lst ys))) it W
  | [], [], _, .nil => .nil
  | _ :: _, _ :: _, hn, .cons h t => .cons (h.put hq (hn _ List.mem_cons_self)) (al2_put hq (fun x hx => hn x (List.mem_cons_of_mem _ hx)) t)
theorem RdAt.ne (R : RdAt H H' p N l ps s as it i) : p ≠ N ∧ p ≠ l ∧ N ≠ l ∧ ∀ x ∈ it, x.2 ≠ p ∧ x.2 ≠ N ∧ x.2 ≠ l := by
  have h := R.nd
  simp only [List.nodup_cons, List.mem_cons, List.mem_map, not_or, not_exists, not_and] at h
  obtain ⟨⟨h1, h2, h3⟩, ⟨h4, h5⟩, h6, h7⟩ := h
  exact ⟨h1, h2, h4, fun x hx => ⟨h3 x hx, h5 x hx, h6 x hx⟩⟩
theorem RdAt.pop {W : Wt} {y : Str × List Nat} (R : RdAt H H' p N l ps s as it i) (hW : s.W = W ++ [y]) :
    ∃ (it' : List (Addr × Addr)) (x : Addr × Addr), it = it' ++ [x] ∧ WAt H' x y ∧ RdAt H (upd H' l (.lst (es1 it'))) p N l ps ⟨s.N, W, s.b⟩ as it' i := by
  obtain ⟨n1, n2, n3, n4⟩ := R.ne
  have hw := R.hW
  rw [hW] at hw
  obtain ⟨it', x, rfl, h1, h2⟩ := hw.unsnoc
  refine ⟨it', x, rfl, h2, R.ex.mut (R.fr l (by simp)), by rw [upd_ne n2]; exact R.hp, by rw [upd_ne n3]; exact R.hN, R.hA.imp fun _ _ h => h.put R.hl, upd_same, ?_, ?_, ?_, R.zN, ?_, ?_⟩
  · exact al2_put R.hl (fun x hx => (n4 x (List.mem_append_left _ hx)).2.2) h1
  · have h := R.nd
    rw [List.map_append, ← List.cons_append, ← List.cons_append, ← List.cons_append] at h
    exact (List.nodup_append.mp h).1
  · exact fun a ha => R.fr a (by rw [List.map_append, ← List.cons_append, ← List.cons_append, ← List.cons_append]; exact List.mem_append_left _ ha)
  · have := R.zW
    rw [List.length_append] at this
    omega
  · exact fun y hy => R.zo y (by rw [hW]; exact List.mem_append_left _ hy)
theorem RdAt.add {P : Program} {K : PySem.W.Frag} {x : Addr} {nd : Nd} {Q : VK} {E : XK} (R : RdAt H H' p N l ps s as it i) (hi : i < 1000) (hx : NdAt H' x nd)
    (k : ∀ H'', RdAt H H'' p N l ps ⟨s.N ++ [nd], addTop s.W s.N.length, true⟩ (as ++ [x]) it (i + 1) → Q .non H'') : spAdd K [.ref N, .ref l, .ref x] H' Q E := by
  obtain ⟨n1, n2, n3, n4⟩ := R.ne
  have hlen : s.N.length = as.length := R.hA.len.symm
  have zN := R.zN
  have zW := R.zW
  refine ⟨N, l, x, _, rfl, R.hN, by rw [List.length_map]; omega, n3, ?_⟩
  rcases List.eq_nil_or_concat s.W with e | ⟨W, ⟨w, os⟩, e⟩
  · have hw := R.hW
    rw [e] at hw
    have hit : it = [] := by cases hw; rfl
    refine .inl ⟨by rw [R.hl, hit]; rfl, k _ ⟨R.ex.mut (R.fr N (by simp)), by rw [upd_ne n1]; exact R.hp, by rw [upd_same, List.map_append]; rfl, (R.hA.imp fun _ _ h => h.put R.hN).snoc (hx.put R.hN), by rw [upd_ne n3.symm]; exact R.hl, ?_, R.nd, R.fr, ?_, by omega, ?_⟩⟩
    · rw [e, hit]
      exact .nil
    · rw [List.length_append, List.length_singleton]
      omega
    · rw [e]
      intro y hy
      cases hy
  · rw [List.concat_eq_append] at e
    have hw := R.hW
    rw [e] at hw
    obtain ⟨it', ⟨ea, o⟩, rfl, h1, h2⟩ := hw.unsnoc
    have ho := n4 (ea, o) (by simp)
    have hzo := R.zo (w, os) (by rw [e]; simp)
    have hN2 : upd H' o (.lst (ni (os ++ [as.length]))) N = some (.lst (as.map V.ref)) := by rw [upd_ne ho.2.1.symm]; exact R.hN
    have h2a : H' ea = some (.tup [.str w, .ref o]) := h2.1
    have h2b : H' o = some (.lst (ni os)) := h2.2
    refine .inr ⟨ea, o, es1 it', w, os, by rw [R.hl]; unfold es1; rw [List.map_append]; rfl, ?_, h2a, h2b, ho.2.2, ho.2.1, by show os.length ≤ 1000; have : os.length ≤ i := hzo; omega, ?_⟩
    · rw [List.length_append, List.length_singleton] at zW
      rw [show (es1 it').length = it'.length from List.length_map _]
      omega
    rw [List.length_map]
    refine k _ ⟨(R.ex.mut (R.fr o (by simp))).mut (R.fr N (by simp)), ?_, ?_, ?_, ?_, ?_, R.nd, R.fr, ?_, by omega, ?_⟩
    · rw [upd_ne n1, upd_ne ho.1.symm]
      exact R.hp
    · rw [upd_same, List.map_append]
      rfl
    · exact ((R.hA.imp fun _ _ h => (h.put h2b).put hN2)).snoc ((hx.put h2b).put hN2)
    · rw [upd_ne n3.symm, upd_ne ho.2.2.symm]
      exact R.hl
    · rw [e, addTop_snoc, hlen]
      refine Al2.snoc ?_ ⟨?_, ?_⟩
      · have nd := R.nd
        rw [List.map_append, ← List.cons_append, ← List.cons_append, ← List.cons_append] at nd
        have nd2 := (List.nodup_append.mp nd).2.2
        refine al2_put hN2 (fun x hx => (n4 x (List.mem_append_left _ hx)).2.1) (al2_put h2b (fun x hx => ?_) h1)
        exact nd2 x.2 (by simp only [List.mem_cons, List.mem_map]; exact .inr (.inr (.inr ⟨x, hx, rfl⟩))) o (by simp)
      · show upd (upd H' o _) N _ ea = _
        rw [upd_ne (fun z => by have q := R.hN; rw [← z, h2a] at q; cases q), upd_ne (fun z => by rw [← z, h2a] at h2b; cases h2b)]
        exact h2a
      · show upd (upd H' o _) N _ o = _
        rw [upd_ne ho.2.1, upd_same]
    · rw [List.length_append, List.length_singleton]
      omega
    · rw [e, addTop_snoc]
      intro y hy
      rcases List.mem_append.mp hy with h | h
      · have := R.zo y (by rw [e]; exact List.mem_append_left _ h)
        omega
      · rw [List.mem_singleton.mp h]
        show (os ++ [s.N.length]).length ≤ i + 1
        have : os.length ≤ i := hzo
        rw [List.length_append, List.length_singleton]
        omega
theorem RdAt.push {w : Str} {o e : Addr} (R : RdAt H H' p N l ps s as it i) (ho : H' o = none) (he : upd H' o (.lst []) e = none) :
    RdAt H (upd (upd (upd H' o (.lst [])) e (.tup [.str w, .ref o])) l (.lst (es1 it ++ [.ref e]))) p N l ps ⟨s.N, s.W ++ [(w, [])], false⟩ as (it ++ [(e, o)]) (i + 1) := by
  have R2 := (R.mono (Ex.new (o := .lst []) ho)).mono (Ex.new (o := .tup [.str w, .ref o]) he)
  obtain ⟨n1, n2, n3, n4⟩ := R2.ne
  have hz : ∀ {a : Addr} {u : HO}, H' a = some u → a ≠ o := fun h z => by rw [z, ho] at h; cases h
  have hoe : o ≠ e := fun z => by rw [← z, upd_same] at he; cases he
  have hw1 : WAt (upd (upd H' o (.lst [])) e (.tup [.str w, .ref o])) (e, o) (w, []) := ⟨upd_same, by show upd _ e _ o = _; rw [upd_ne hoe, upd_same]; rfl⟩
  have zN := R.zN
  have zW := R.zW
  refine ⟨R2.ex.mut (R.fr l (by simp)), by rw [upd_ne n2]; exact R2.hp, by rw [upd_ne n3]; exact R2.hN, R2.hA.imp fun _ _ h => h.put R2.hl, by rw [upd_same]; unfold es1; rw [List.map_append]; rfl, ?_, ?_, ?_, by omega, ?_, ?_⟩
  · exact (al2_put R2.hl (fun x hx => (n4 x hx).2.2) R2.hW).snoc (hw1.put R2.hl (hz R.hl).symm)
  · rw [List.map_append, ← List.cons_append, ← List.cons_append, ← List.cons_append]
    refine List.nodup_append.mpr ⟨R.nd, by simp, fun a ha b hb => ?_⟩
    rw [List.mem_singleton.mp (show b ∈ [o] from hb)]
    simp only [List.mem_cons, List.mem_map] at ha
    rcases ha with rfl | rfl | rfl | ⟨x, hx, rfl⟩
    · exact hz R.hp
    · exact hz R.hN
    · exact hz R.hl
    · obtain ⟨y, _, hy⟩ : ∃ y, y ∈ s.W ∧ WAt H' x y := by
        obtain ⟨j, hj⟩ := List.getElem?_of_mem hx
        obtain ⟨y, h1, h2⟩ := R.hW.get j x hj
        exact ⟨y, List.mem_of_getElem? h1, h2⟩
      exact hz hy.2
  · intro a ha
    rw [List.map_append, ← List.cons_append, ← List.cons_append, ← List.cons_append] at ha
    rcases List.mem_append.mp ha with h | h
    · exact R.fr a h
    · rw [List.mem_singleton.mp (show a ∈ [o] from h)]
      exact R.ex.free' ho
  · rw [List.length_append, List.length_singleton]
    omega
  · intro y hy
    rcases List.mem_append.mp hy with h | h
    · have := R.zo y h
      omega
    · rw [List.mem_singleton.mp h]
      exact Nat.zero_le _
end
def spNodesOf : Sp := fun vs H Q _ => ∃ (z : Str) (ns : List Nd), vs = [.str z] ∧ z.length ≤ 400 ∧ rrun okS ⟨[], [], false⟩ (cutGo [] (tl z)) = some ⟨ns, [], true⟩ ∧
  ∀ N as H', Ex H H' → H N = none → H' N = some (.lst (as.map V.ref)) → Al2 (NdAt H') as ns → Q (.ref N) H'
theorem ok_nodes_of (T : Tx0 w K mg A) : FnOk P w K mg base CX0 4 A.nodes_of A.d_nodes_of p_nodes_of spNodesOf := by
  refine T.F_nodes_of.ok sc_nodes_of (fun vs H Q E h => ?_) (fun cdv Ar outer s H vs Q E hr h => ?_)
  · obtain ⟨z, ns, rfl, _⟩ := h
    rfl
  · obtain ⟨z, ns, rfl, hz, hrun, k⟩ := h
    refine ⟨_, (pss_cons (ps_set (i := 1) sc_nodes_of.nd rfl (Or.inl rfl) (pe_lst pa_nil))
      (pss_cons (ps_set (i := 2) sc_nodes_of.nd rfl (Or.inl rfl) (pe_lst pa_nil))
      (pss_cons (ps_set (i := 3) sc_nodes_of.nd rfl (Or.inl rfl) pe_bl)
      (pss_cons (ps_for PassesOwn.never rfl (pi_list (pe_call (ok_cut T) (hr.mono (by decide)) (by rfl) T.g_cut T.F_cut.kp T.b_cut .nil pass0 (pa_cons (pv 0) pa_nil))) (pg_name (i := 4) sc_nodes_of.nd rfl (Or.inl rfl)) (pss_one (ps_if (pt_cmpR op_eq (pv 4) pe_str (nomark _)) (pss_cons (ps_if (PW.pt (pw_or (pt_not (pt_truth (pv 2) (fun _ => rfl))) (pw_or1 (pt_not (pt_val (pv 3)))))) (pss_one (ps_ret pe_non)) pss_nil)
          (pss_one (ps_set (i := 3) sc_nodes_of.nd rfl (Or.inl rfl) pe_bl))) (pss_one (ps_if (pt_cmpR op_eq (pv 4) pe_str (nomark _)) (pss_cons (ps_set (i := 5) sc_nodes_of.nd rfl (Or.inl rfl) (pe_call (ok_closed T) (hr.mono (by decide)) (by rfl) T.g_closed T.F_closed.kp T.b_closed .nil pass0 (pa_cons (pv 2) (pa_cons (pv 3) pa_nil))))
            (pss_cons (ps_if (pt_cmpR op_isN (pv 5) pe_non (nomark _)) (pss_one (ps_ret pe_non)) pss_nil)
            (pss_cons (ps_expr (pe_call (ok_add_node T) (hr.mono (by decide)) (by rfl) T.g_add_node T.F_add_node.kp T.b_add_node .nil pass0 (pa_cons (pv 1) (pa_cons (pv 2) (pa_cons (pv 5) pa_nil)))))
            (pss_one (ps_set (i := 3) sc_nodes_of.nd rfl (Or.inl rfl) pe_bl))))) (pss_one (ps_if (pt_val (pv 3)) (pss_one (ps_ret pe_non)) (pss_one (ps_if (pt_cmpR op_eq (pe_ix ix_str (pv 4) (pe_un un_neg pe_int) (fun _ _ => rfl)) pe_str (nomark _)) (pss_one (ps_expr (pe_bm PySem.F.plainAttrs_list PySem.F.slot_list_append PySem.F.type_list_append mt_append (pv 2) (pa_cons (pe_tup (pa_cons (pe_slice sl_str (pv 4) po_none (po_some (pe_un un_neg pe_int))) (pa_cons (pe_lst pa_nil) pa_nil))) pa_nil)))) (pss_one (ps_if (pt_val (pe_call (ok_is_name T) (hr.mono (by decide)) (by rfl) T.g_is_name T.F_is_name.kp T.b_is_name .nil pass0 (pa_cons (pv 4) pa_nil))) (pss_cons (ps_expr (pe_call (ok_add_node T) (hr.mono (by decide)) (by rfl) T.g_add_node T.F_add_node.kp T.b_add_node .nil pass0 (pa_cons (pv 1) (pa_cons (pv 2) (pa_cons (pe_tup (pa_cons pe_str (pa_cons (pv 4) pa_nil))) pa_nil)))))
                  (pss_one (ps_set (i := 3) sc_nodes_of.nd rfl (Or.inl rfl) pe_bl))) (pss_one (ps_ret pe_non)))))))))))))
      (pss_one (ps_ret (pe_ifExp (PW.pt (pw_and (pt_val (pv 3)) (pw_and1 (pt_not (pt_truth (pv 2) (fun _ => rfl)))))) (pv 1) pe_non))))))), ?_⟩
    refine ⟨Nat.zero_le _, fun N hNn => ⟨Nat.zero_le _, fun l hln => ?_⟩⟩
    have hlN : l ≠ N := fun z => by rw [z, upd_same] at hln; cases hln
    refine ⟨_, rfl, z, rfl, by omega, fun p H1 e1 hp1 hpn => ?_⟩
    have hps : ∀ q ∈ cutGo [] (tl z), q ≠ [] ∧ q.length ≤ 400 := fun q hq => by
      have := cut_mem (tl z) [] q hq
      rw [← len_tl, List.length_nil] at this
      exact ⟨this.1, by omega⟩
    have hcnt : (cutGo [] (tl z)).length ≤ 801 := by
      have := cut_count (tl z) []
      rw [← len_tl] at this
      omega
    generalize cutGo [] (tl z) = ps at hrun hp1 hps hcnt
    have eN := Ex.new (o := .lst []) hNn
    have el := Ex.new (o := .lst []) hln
    have hlH : H l = none := by rw [upd_ne hlN] at hln; exact hln
    have hpN : p ≠ N := fun z => by rw [z, upd_ne hlN.symm, upd_same] at hpn; cases hpn
    have hpl : p ≠ l := fun z => by rw [z, upd_same] at hpn; cases hpn
    have hpH : H p = none := by rw [upd_ne hpl, upd_ne hpN] at hpn; exact hpn
    have R0 : RdAt H H1 p N l ps ⟨[], [], false⟩ [] [] 0 := ⟨(eN.trans el).trans e1, hp1, e1 _ _ (el _ _ upd_same), .nil, e1 _ _ upd_same, .nil, by simp [hpN, hpl, hlN.symm], fun a ha => by
      simp only [List.map_nil, List.mem_cons, List.not_mem_nil, or_false] at ha
      rcases ha with rfl | rfl | rfl
      · exact hpH
      · exact hNn
      · exact hlH, Nat.le_refl _, Nat.le_refl _, fun y hy => by cases hy⟩
    refine ⟨p, rfl, ⟨_, SqL.of hp1⟩, ?_⟩
    refine for_it (walk_list (xs := ps.map fun q => V.str (ofL q))) (fun i σ' H' => ∃ (s : Rd) (as : List Addr) (it : List (Addr × Addr)) (v4 v5 : Option V), σ' = [some (.str z), some (.ref N), some (.ref l), some (.bl s.b), v4, v5] ∧ RdAt H H' p N l ps s as it i ∧ rrun okS s (ps.drop i) = some ⟨ns, [], true⟩) ⟨_, [], [], none, none, rfl, R0, hrun⟩ (fun i σ' H' _ ⟨_, _, _, _, _, _, R, _⟩ => SqL.of R.hp) ?_ ?_
    · rintro i x σ' H2 H3 hi ⟨s, as, it, v4, v5, rfl, R, hrr⟩ ⟨rfl, hx⟩
      rw [List.length_map] at hi
      obtain ⟨pc, hpc, rfl⟩ : ∃ pc, ps[i]? = some pc ∧ V.str (ofL pc) = x := by
        rw [List.getElem?_map] at hx
        exact Option.map_eq_some_iff.mp hx
      have hmem := hps pc (List.mem_of_getElem? hpc)
      have hd : ps.drop i = pc :: ps.drop (i + 1) := by
        obtain ⟨h1, h2⟩ := List.getElem?_eq_some_iff.mp hpc
        rw [List.drop_eq_getElem_cons h1, h2]
      rw [hd, rrun] at hrr
      obtain ⟨s', hst, hrr'⟩ := Option.bind_eq_some_iff.mp hrr
      have hlen : (ofL pc).length = pc.length := by rw [len_tl, tl_ofL]
      refine ⟨_, rfl, rfl, _, rfl, ?_⟩
      rw [show decide (V.str (ofL pc) = V.str ",") = decide (pc = [44]) from piece_eq pc 44]
      by_cases h44 : pc = [44]
      · subst h44
        obtain ⟨w1, w2, rfl⟩ := rstep_comma hst
        rw [decide_eq_true (rfl : [44] = [44])]
        refine iteT ?_
        have hne : it ≠ [] := fun z => by
          have hw := R.hW
          rw [z] at hw
          cases hW : s.W with
          | nil => exact w1 hW
          | cons a r =>
            rw [hW] at hw
            cases hw
        refine ⟨_, rfl, true, .inl ⟨_, SqL.of R.hl, by cases it with | nil => exact absurd rfl hne | cons a r => rfl⟩, iteF ?_⟩
        refine ⟨_, rfl, s.b, rfl, ?_⟩
        rw [w2]
        refine iteF ⟨_, as, it, _, _, rfl, ?_, hrr'⟩
        exact ⟨R.ex, R.hp, R.hN, R.hA, R.hl, R.hW, R.nd, R.fr, Nat.le_succ_of_le R.zN, Nat.le_succ_of_le R.zW, fun y hy => Nat.le_succ_of_le (R.zo y hy)⟩
      rw [decide_eq_false h44]
      refine iteF ⟨_, rfl, rfl, _, rfl, ?_⟩
      rw [show decide (V.str (ofL pc) = V.str ")") = decide (pc = [41]) from piece_eq pc 41]
      by_cases h41 : pc = [41]
      · subst h41
        obtain ⟨W, w1, os, nd, hW, hb, hop, rfl⟩ := rstep_close hst
        rw [decide_eq_true (rfl : [41] = [41])]
        refine iteT ?_
        obtain ⟨it', ⟨e, o⟩, rfl, hwa, R2⟩ := R.pop hW
        have hwe : H3 e = some (.tup [.str w1, .ref o]) := hwa.1
        have hwo : H3 o = some (.lst (ni os)) := hwa.2
        have hol := (R.ne.2.2.2 (e, o) (by simp)).2.2
        have hzo := R.zo (w1, os) (by rw [hW]; simp)
        refine ⟨_, rfl, _, rfl, l, e, o, es1 it', w1, os, s.b, nd, rfl, by rw [R.hl]; unfold es1; rw [List.map_append]; rfl, hwe, hwo, hol, by have : os.length ≤ i := hzo; omega, hb, hop, fun a H4 e4 ha => ?_⟩
        refine ⟨_, rfl, rfl, _, rfl, ?_⟩
        rw [decide_eq_false (show ¬ V.ref a = V.non by intro z; cases z)]
        refine iteF ⟨_, rfl, _, rfl, _, rfl, ?_⟩
        dsimp only [tNil]
        refine (R2.mono e4).add (P := P) (by omega) ha fun H5 R5 => ?_
        exact ⟨_, _, _, _, _, rfl, R5, hrr'⟩
      rw [decide_eq_false h41]
      refine iteF ?_
      obtain ⟨hb, hcase⟩ := rstep_else h44 h41 hst
      refine ⟨_, rfl, s.b, rfl, ?_⟩
      rw [hb]
      refine iteF ?_
      obtain ⟨r, c, rfl⟩ : ∃ r c, pc = r ++ [c] := by
        rcases List.eq_nil_or_concat pc with h | ⟨r, c, h⟩
        · exact absurd h hmem.1
        · exact ⟨r, c, by rw [h, List.concat_eq_append]⟩
      have hz1 : (ofL (r ++ [c])).length ≤ sizeLine := sz_of (by have := hmem.2; omega)
      refine ⟨_, rfl, 1, rfl, ofL (r ++ [c]), -1, c, rfl, rfl, hz1, by rw [show (ofL (r ++ [c])).cps.toList = r ++ [c] from tl_ofL _]; exact UL.last_at (List.getLast?_concat ..), rfl, _, rfl, ?_⟩
      rw [show decide (V.str ⟨#[c]⟩ = V.str "(") = decide (c = 40) from sgn_eq c 40]
      rcases hcase with ⟨hl, rfl⟩ | ⟨hl, hk, rfl⟩
      · obtain rfl : c = 40 := by rw [List.getLast?_concat] at hl; exact Option.some.inj hl
        rw [decide_eq_true (rfl : 40 = 40)]
        refine iteT ?_
        rw [List.dropLast_concat] at hrr'
        refine ⟨_, rfl, .inl ⟨rfl, _, SqL.of R.hl⟩, _, rfl, 1, rfl, _, rfl, _, rfl, hz1, Nat.zero_le _, fun o ho => ⟨sz_of (by show 2 ≤ 100000; decide), fun e he => ?_⟩⟩
        have R2 := R.push (w := ofL r) ho he
        rw [show cutS (ofL (r ++ [40])) none (some (-1)) = ofL r by rw [UL.cut_last, List.dropLast_concat]]
        have hl3 : upd (upd H3 o (.lst [])) e (.tup [.str (ofL r), .ref o]) l = some (.lst (es1 it)) := ((R.mono (Ex.new (o := .lst []) ho)).mono (Ex.new (o := .tup [.str (ofL r), .ref o]) he)).hl
        exact ⟨l, _, _, rfl, rfl, hl3, sz_lt (by rw [show (es1 it).length = it.length from List.length_map _]; have := R.zW; omega), _, as, it ++ [(e, o)], _, _, rfl, R2, hrr'⟩
      · have hc : c ≠ 40 := fun z => hl (by rw [z, List.getLast?_concat])
        rw [decide_eq_false hc]
        refine iteF ?_
        have hk8 := okS_len hk
        refine ⟨_, rfl, _, rfl, .inl ⟨_, rfl, by omega⟩, fun H4 e4 => ?_⟩
        rw [show nm (.str (ofL (r ++ [c]))) = true from hk]
        refine ⟨_, rfl, iteT ⟨_, rfl, _, rfl, _, rfl, sz_of (by show 2 ≤ 100000; decide), fun a ha => ?_⟩⟩
        dsimp only [tNil]
        refine ((R.mono e4).mono (Ex.new ha)).add (P := P) (nd := .name (ofL (r ++ [c]))) (by omega) upd_same fun H5 R5 => ?_
        exact ⟨_, _, _, _, _, rfl, R5, hrr'⟩
    · rintro σ' H2 ⟨s, as, it, v4, v5, rfl, R, hrr⟩
      rw [List.length_map, List.drop_length] at hrr
      obtain rfl := Option.some.inj hrr
      have hit : it = [] := by
        have hw := R.hW
        cases hw
        rfl
      refine ⟨_, rfl, true, rfl, iteT ⟨_, rfl, false, .inl ⟨_, SqL.of R.hl, by rw [hit]; rfl⟩, iteT ⟨_, rfl, ?_⟩⟩⟩
      exact k N as H2 R.ex hNn R.hN R.hA
end
end K24

set_option Elab.async false
set_option linter.all false
set_option maxRecDepth 100000
namespace K24
open PySem PySem.Spec PyProof.Rows L2 Evl TL UL StX
section
variable {P : Program} {w : World} {K : PySem.W.Frag} {mg : Str → Option Value} {base : Heap} {A : Adr}
/-! ### operands, ranges -/
theorem no_name : opsT.lookup ("name" : Str) = none := by decide +kernel
theorem no_call : opsT.lookup ("call" : Str) = none := by decide +kernel
theorem opw_ne {w : Str} {os : List Nat} (h : WfNd (.op w os)) : w ≠ "name" ∧ w ≠ "call" := by
  have h : opsT.lookup w = some (os.length : Int) := h
  exact ⟨(fun z => by rw [z, no_name] at h; cases h), (fun z => by rw [z, no_call] at h; cases h)⟩
theorem str_eqb (a b : Str) : decide (V.str a = V.str b) = decide (a = b) := decide_eq_decide.mpr ⟨fun h => by injection h, fun h => by rw [h]⟩
theorem ni_len (os : List Nat) : (ni os).length = os.length := List.length_map _
def spOpsOf : Sp := fun vs H Q _ => ∃ a nd, vs = [.ref a] ∧ NdAt H a nd ∧ WfNd nd ∧ ∀ p H', Ex H H' → H' p = some (.tup (ni (opsOf nd))) → Q (.ref p) H'
theorem ok_operands_of (T : Tx0 w K mg A) : FnOk P w K mg base CX0 1 A.operands_of A.d_operands_of p_operands_of spOpsOf := by
  refine T.F_operands_of.ok sc_operands_of (fun vs H Q E h => ?_) (fun cdv Ar outer s H vs Q E hr h => ?_)
  · obtain ⟨a, nd, rfl, _⟩ := h
    rfl
  · obtain ⟨a, nd, rfl, ha, hw, k⟩ := h
    refine ⟨_, (pss_cons (ps_if (pt_cmpR op_eq (pe_ix ix_tup (pv 0) pe_int (fun _ _ => rfl)) pe_str (nomark _)) (pss_one (ps_ret (pe_tup pa_nil))) pss_nil)
      (pss_cons (ps_if (pt_cmpR op_eq (pe_ix ix_tup (pv 0) pe_int (fun _ _ => rfl)) pe_str (nomark _)) (pss_one (ps_ret (pe_ix ix_tup (pv 0) pe_int (fun _ _ => rfl)))) pss_nil)
      (pss_one (ps_ret (pe_slice sl_tup (pv 0) (po_some pe_int) po_none))))), ?_⟩
    cases nd with
    | name wd =>
      have h : H a = some (.tup [.str "name", .str wd]) := ha
      refine ⟨_, rfl, a, _, 0, .str "name", rfl, rfl, SqT.of h, atI_nat (j := 0) rfl, rfl, _, rfl, ?_⟩
      rw [str_eqb, decide_eq_true rfl]
      exact iteT ⟨Nat.zero_le _, fun p hp => k p _ (Ex.new hp) upd_same⟩
    | call wd os =>
      obtain ⟨t, h, ht⟩ := ha
      refine ⟨_, rfl, a, _, 0, .str "call", rfl, rfl, SqT.of h, atI_nat (j := 0) rfl, rfl, _, rfl, ?_⟩
      rw [str_eqb, decide_eq_false (by decide +kernel)]
      refine iteF ⟨_, rfl, a, _, 0, .str "call", rfl, rfl, SqT.of h, atI_nat (j := 0) rfl, rfl, _, rfl, ?_⟩
      rw [str_eqb, decide_eq_true rfl]
      exact iteT ⟨_, rfl, a, _, 2, .ref t, rfl, rfl, SqT.of h, atI_nat (j := 2) rfl, k t _ (Ex.refl H) ht⟩
    | op wd os =>
      have h : H a = some (.tup (.str wd :: ni os)) := ha
      obtain ⟨n1, n2⟩ := opw_ne hw
      refine ⟨_, rfl, a, _, 0, .str wd, rfl, rfl, SqT.of h, atI_nat (j := 0) rfl, rfl, _, rfl, ?_⟩
      rw [str_eqb, decide_eq_false n1]
      refine iteF ⟨_, rfl, a, _, 0, .str wd, rfl, rfl, SqT.of h, atI_nat (j := 0) rfl, rfl, _, rfl, ?_⟩
      rw [str_eqb, decide_eq_false n2]
      refine iteF ⟨_, rfl, 1, rfl, a, _, rfl, SqT.of h, fun z => ?_, fun p hp => k p _ (Ex.new hp) (by rw [upd_same, show cutV (V.str wd :: ni os) (some 1) none = (V.str wd :: ni os).drop 1 from UL.cut_from _ 1]; rfl)⟩
      have z1 := z.1
      rw [show HT.sIx (V.str wd :: ni os).length 0 (some 1) = min 1 (V.str wd :: ni os).length from HT.sIx_nat _ 0 1, List.length_cons] at z1
      omega
def spFirsts : Sp := fun vs H Q _ => ∃ N as ns, vs = [.ref N] ∧ H N = some (.lst (as.map V.ref)) ∧ Al2 (NdAt H) as ns ∧ WfN ns ∧ ns.length ≤ 1000 ∧ ∀ p H', Ex H H' → H' p = some (.lst (ni (firstsL ns))) → H p = none → Q (.ref p) H'
theorem ok_firsts_of (T : Tx0 w K mg A) : FnOk P w K mg base CX0 2 A.firsts_of A.d_firsts_of p_firsts_of spFirsts := by
  refine T.F_firsts_of.ok sc_firsts_of (fun vs H Q E h => ?_) (fun cdv Ar outer s H vs Q E hr h => ?_)
  · obtain ⟨N, as, ns, rfl, _⟩ := h
    rfl
  · obtain ⟨N, as, ns, rfl, hN, hA, hwf, hz, k⟩ := h
    refine ⟨_, (pss_cons (ps_set (i := 1) sc_firsts_of.nd rfl (Or.inl rfl) (pe_lst pa_nil))
      (pss_cons (ps_for PassesOwn.never rfl (pi_enum (by rfl) T.m_enumerate (pa_cons (pv 0) pa_nil)) (pg_tup (n := 2) rfl (pgs_cons (pg_name (i := 2) sc_firsts_of.nd rfl (Or.inl rfl)) (pgs_cons (pg_name (i := 3) sc_firsts_of.nd rfl (Or.inl rfl)) pgs_nil))) (pss_cons (ps_set (i := 4) sc_firsts_of.nd rfl (Or.inl rfl) (pe_call (ok_operands_of T) (hr.mono (by decide)) (by rfl) T.g_operands_of T.F_operands_of.kp T.b_operands_of .nil pass0 (pa_cons (pv 3) pa_nil)))
        (pss_one (ps_expr (pe_bm PySem.F.plainAttrs_list PySem.F.slot_list_append PySem.F.type_list_append mt_append (pv 1) (pa_cons (pe_ifExp (pt_truth (pv 4) (fun _ => rfl)) (pe_ix ix_list (pv 1) (pe_ix ix_tup (pv 4) pe_int (fun _ _ => rfl)) (fun _ _ => rfl)) (pv 2)) pa_nil))))))
      (pss_one (ps_ret (pv 1))))), ?_⟩
    refine ⟨Nat.zero_le _, fun p hp => ?_⟩
    have hlen := hA.len
    refine ⟨_, rfl, N, _, rfl, SqL.of ((Ex.new hp) _ _ hN), ?_⟩
    refine for_it (walk_enum (xs := as.map V.ref)) (fun i σ' H' => ∃ v2 v3 v4, σ' = [some (.ref N), some (.ref p), v2, v3, v4] ∧ Ex H H' ∧ H' p = some (.lst (ni (firstsL (ns.take i))))) ⟨_, _, _, rfl, Ex.new hp, upd_same⟩ (fun i σ' H' _ ⟨_, _, _, _, e, _⟩ => SqL.of (e _ _ hN)) ?_ ?_
    · rintro i x σ' H1 H2 hi ⟨v2, v3, v4, rfl, e1, hL⟩ ⟨Tt, y1, y2, rfl, hT, rfl, h1, h2⟩
      rw [List.length_map] at hi
      cases h1
      obtain ⟨a, ha, rfl⟩ : ∃ a, as[i]? = some a ∧ V.ref a = y2 := by
        have h3 : (as.map V.ref)[i]? = some y2 := h2
        rw [List.getElem?_map] at h3
        exact Option.map_eq_some_iff.mp h3
      obtain ⟨nd, hnd, had⟩ := hA.get i a ha
      obtain ⟨w1, w2⟩ := hwf i nd hnd
      have e2 := Ex.new (o := .tup [.int (i : Nat), .ref a]) hT
      have hL2 := e2 _ _ hL
      have e12 := e1.trans e2
      have hTt : upd H1 Tt (.tup [.int (i : Nat), .ref a]) Tt = some (.tup [.int (i : Nat), .ref a]) := upd_same
      refine ⟨Tt, _, rfl, SqT.of hTt, rfl, _, _, rfl, _, _, rfl, rfl, ?_⟩
      refine ⟨_, rfl, a, nd, rfl, had.mono e12, w1, fun q H3 e3 hq => ?_⟩
      have hL3 := e3 _ _ hL2
      have e13 := e12.trans e3
      have hfl : (firstsL (ns.take i)).length = i := by rw [firstsL_len, List.length_take]; omega
      have htk : ns.take (i + 1) = ns.take i ++ [nd] := by rw [List.take_succ, hnd]; rfl
      have fin : ∀ n : Nat, n = fstOf (firstsL (ns.take i)) nd → upd H3 p (.lst (ni (firstsL (ns.take i)) ++ [.int (n : Int)])) p = some (.lst (ni (firstsL (ns.take (i + 1))))) := fun n e => by
        rw [upd_same, htk, firstsL_snoc, e]
        unfold ni
        rw [List.map_append]
        rfl
      have hsz : (ni (firstsL (ns.take i))).length < sizeLine := sz_lt (by rw [ni_len]; omega)
      refine ⟨_, rfl, .inl ⟨rfl, _, SqL.of hL3⟩, _, rfl, ?_⟩
      cases ho : opsOf nd with
      | nil =>
        rw [ho] at hq
        exact ⟨false, .inr (.inl ⟨_, SqT.of hq, rfl⟩), iteF ⟨_, rfl, p, _, _, rfl, rfl, hL3, hsz, _, _, _, rfl, e13.mut hp, fin i (by unfold fstOf; rw [ho, hfl])⟩⟩
      | cons n r =>
        rw [ho] at hq
        have hn : n < i := w2 n (by rw [ho]; exact List.mem_cons_self)
        have hg : (ni (firstsL (ns.take i)))[n]? = some (.int (((firstsL (ns.take i)).getD n 0 : Nat) : Int)) := by
          unfold ni
          rw [List.getElem?_map, List.getD_eq_getElem?_getD, List.getElem?_eq_getElem (by omega)]
          rfl
        exact ⟨true, .inr (.inl ⟨_, SqT.of hq, rfl⟩), iteT ⟨_, rfl, _, rfl, q, _, 0, .int (n : Int), rfl, rfl, SqT.of hq, atI_nat (j := 0) rfl, p, _, (n : Int), _, rfl, rfl, SqL.of hL3, atI_nat hg, p, _, _, rfl, rfl, hL3, hsz, _, _, _, rfl, e13.mut hp, fin _ (by unfold fstOf; rw [ho])⟩⟩
    · rintro σ' H1 ⟨v2, v3, v4, rfl, e1, hL⟩
      rw [List.length_map, hlen, List.take_length] at hL
      exact ⟨_, rfl, k p H1 e1 hL hp⟩
/-! ### the class -/
def exF (t f : Addr) : List (Str × V) := putF "_firsts" (.ref f) (putF "_nodes" (.ref t) [])
def ExAt (C : Addr) (H : Hp) (x : Addr) (ns : List Nd) : Prop := ∃ dx t f as, H x = some (.ins C dx (exF t f)) ∧ H t = some (.tup (as.map V.ref)) ∧ Al2 (NdAt H) as ns ∧ H f = some (.lst (ni (firstsL ns)))
theorem ExAt.mono {C : Addr} {H H' : Hp} {x : Addr} {ns : List Nd} (e : Ex H H') (h : ExAt C H x ns) : ExAt C H' x ns := by
  obtain ⟨dx, t, f, as, h1, h2, h3, h4⟩ := h
  exact ⟨dx, t, f, as, e _ _ h1, e _ _ h2, h3.imp fun _ _ h => h.mono e, e _ _ h4⟩
theorem NdAt.ins {C dx : Addr} {fs gs : List (Str × V)} {H : Hp} {a x : Addr} {nd : Nd} (hx : H x = some (.ins C dx fs)) (h : NdAt H a nd) : NdAt (upd H x (.ins C dx gs)) a nd := by
  have kp : ∀ {b : Addr} {ts : List V}, H b = some (.tup ts) → upd H x (.ins C dx gs) b = some (.tup ts) := fun {b ts} e => by
    rw [upd_ne (fun z => by rw [z, hx] at e; cases e)]
    exact e
  cases nd with
  | name w => exact kp h
  | call w os =>
    obtain ⟨t, h1, h2⟩ := h
    exact ⟨t, kp h1, kp h2⟩
  | op w os => exact kp h
def spExInit (C : Addr) : Sp := fun vs H Q _ => ∃ x dx N as ns, vs = [.ref x, .ref N] ∧ H x = some (.ins C dx []) ∧ H N = some (.lst (as.map V.ref)) ∧ Al2 (NdAt H) as ns ∧ WfN ns ∧ ns.length ≤ 1000 ∧ ∀ H', (∀ b o, b ≠ x → H b = some o → H' b = some o) → ExAt C H' x ns → Q .non H'
theorem ok_ex_init (T : Tx0 w K mg A) : FnOk P w K mg base CX0 3 A.ex_init A.d_ex_init p_ex_init (spExInit A.Expression) := by
  refine T.F_ex_init.ok sc_ex_init (fun vs H Q E h => ?_) (fun cdv Ar outer s H vs Q E hr h => ?_)
  · obtain ⟨x, dx, N, as, ns, rfl, _⟩ := h
    rfl
  · obtain ⟨x, dx, N, as, ns, rfl, hx, hN, hA, hwf, hz, k⟩ := h
    refine ⟨_, (pss_cons (ps_fld (pv 0) (pe_callTy call_tuple_of (by rfl) T.m_tuple (by decide +kernel) (pa_cons (pv 1) pa_nil)) rfl)
      (pss_one (ps_fld (pv 0) (pe_call (ok_firsts_of T) (hr.mono (by decide)) (by rfl) T.g_firsts_of T.F_firsts_of.kp T.b_firsts_of .nil pass0 (pa_cons (pv 1) pa_nil)) rfl))), ?_⟩
    refine ⟨_, rfl, N, _, rfl, .inl ⟨SqL.of hN, fun t ht => ?_⟩⟩
    have e1 := Ex.new (o := .tup (as.map V.ref)) ht
    have hxt : x ≠ t := fun z => by rw [← z, hx] at ht; cases ht
    refine ⟨_, rfl, x, _, dx, _, rfl, e1 _ _ hx, T.cl_Expression, T.na_Expression__nodes, (by decide), ?_⟩
    have hx1 := e1 _ _ hx
    generalize hH1 : upd H t (.tup (as.map V.ref)) = H1 at e1 hx1
    have ht1 : H1 t = some (.tup (as.map V.ref)) := by rw [← hH1, upd_same]
    have hA1 := hA.imp fun _ _ h => h.mono e1
    have hN1 := e1 _ _ hN
    have hNx : N ≠ x := fun z => by rw [z, hx1] at hN1; cases hN1
    have htx : t ≠ x := hxt.symm
    refine ⟨_, rfl, N, as, ns, rfl, by rw [upd_ne hNx]; exact hN1, hA1.imp fun _ _ h => h.ins hx1, hwf, hz, fun p H3 e3 hp hpn => ?_⟩
    have hx3 : H3 x = some (.ins A.Expression dx (putF "_nodes" (.ref t) [])) := e3 _ _ upd_same
    have hpx : p ≠ x := fun z => by rw [z, hx3] at hp; cases hp
    refine ⟨_, rfl, x, _, dx, _, rfl, hx3, T.cl_Expression, T.na_Expression__firsts, (by show 1 < 1000; decide), ?_⟩
    have kp : ∀ b o, b ≠ x → H1 b = some o → upd H3 x (.ins A.Expression dx (exF t p)) b = some o := fun b o n h => by
      rw [upd_ne n]
      exact e3 _ _ (by rw [upd_ne n]; exact h)
    refine k _ (fun b o n h => kp b o n (e1 _ _ h)) ⟨dx, t, p, as, upd_same, kp _ _ htx ht1, ?_, by rw [upd_ne hpx]; exact hp⟩
    exact ((hA1.imp fun _ _ h => h.ins hx1).imp fun _ _ h => h.mono e3).imp fun _ _ h => h.ins hx3
theorem ex_look (t f : Addr) : (exF t f).lookup ("_nodes" : Str) = some (.ref t) := rfl
theorem ex_look2 (t f : Addr) : (exF t f).lookup ("_firsts" : Str) = some (.ref f) := rfl
def spExLen (C : Addr) : Sp := fun vs H Q _ => ∃ x ns, vs = [.ref x] ∧ ExAt C H x ns ∧ Q (.int (ns.length : Int)) H
theorem ok_ex_len (T : Tx0 w K mg A) : FnOk P w K mg base CX0 1 A.ex_len A.d_ex_len p_ex_len (spExLen A.Expression) := by
  refine T.F_ex_len.ok sc_ex_len (fun vs H Q E h => ?_) (fun cdv Ar outer s H vs Q E hr h => ?_)
  · obtain ⟨x, ns, rfl, _⟩ := h
    rfl
  · obtain ⟨x, ns, rfl, ⟨dx, t, f, as, h1, h2, h3, h4⟩, k⟩ := h
    refine ⟨_, (pss_one (ps_ret (pe_callB call_len_seq (by rfl) T.m_len PySem.boot_len (pa_cons (pe_fld (pv 0) rfl) pa_nil)))), ?_⟩
    refine ⟨_, rfl, x, _, dx, _, _, rfl, h1, T.cl_Expression, T.na_Expression__nodes, ex_look _ _, t, _, rfl, .inr (SqT.of h2), ?_⟩
    rw [List.length_map, h3.len]
    exact k
def spExNodes (C : Addr) : Sp := fun vs H Q _ => ∃ x ns, vs = [.ref x] ∧ ExAt C H x ns ∧ ∀ p as, H p = none → Al2 (NdAt H) as ns → Q (.ref p) (upd H p (.lst (as.map V.ref)))
theorem ok_ex_nodes (T : Tx0 w K mg A) : FnOk P w K mg base CX0 1 A.ex_nodes A.d_ex_nodes p_ex_nodes (spExNodes A.Expression) := by
  refine T.F_ex_nodes.ok sc_ex_nodes (fun vs H Q E h => ?_) (fun cdv Ar outer s H vs Q E hr h => ?_)
  · obtain ⟨x, ns, rfl, _⟩ := h
    rfl
  · obtain ⟨x, ns, rfl, ⟨dx, t, f, as, h1, h2, h3, h4⟩, k⟩ := h
    refine ⟨_, (pss_one (ps_ret (pe_callTy call_list_of (by rfl) T.m_list (by decide +kernel) (pa_cons (pe_fld (pv 0) rfl) pa_nil)))), ?_⟩
    exact ⟨_, rfl, x, _, dx, _, _, rfl, h1, T.cl_Expression, T.na_Expression__nodes, ex_look _ _, t, _, rfl, .inr (SqT.of h2), fun p hp => k p as hp h3⟩
def spRead (C : Addr) : Sp := fun vs H Q _ => ∃ (z : Str) (ns : List Nd), vs = [.ref C, .str z] ∧ z.length ≤ 400 ∧ rrun okS ⟨[], [], false⟩ (cutGo [] (tl z)) = some ⟨ns, [], true⟩ ∧ ns.length ≤ 20 ∧ ∀ x H', Ex H H' → ExAt C H' x ns → Q (.ref x) H'
theorem ok_ex_read (T : Tx0 w K mg A) : FnOk P w K mg base CX0 7 A.ex_read A.d_ex_read p_ex_read (spRead A.Expression) := by
  refine T.F_ex_read.ok sc_ex_read (fun vs H Q E h => ?_) (fun cdv Ar outer s H vs Q E hr h => ?_)
  · obtain ⟨z, ns, rfl, _⟩ := h
    rfl
  · obtain ⟨z, ns, rfl, hz, hrun, hn, k⟩ := h
    refine ⟨_, (pss_cons (ps_set (i := 2) sc_ex_read.nd rfl (Or.inl rfl) (pe_call (ok_nodes_of T) (hr.mono (by decide)) (by rfl) T.g_nodes_of T.F_nodes_of.kp T.b_nodes_of .nil pass0 (pa_cons (pv 1) pa_nil)))
      (pss_cons (ps_if (pt_cmpR op_isN (pv 2) pe_non (nomark _)) (pss_one ps_never) pss_nil)
      (pss_cons (ps_if (pt_cmpR op_gt (pe_callB call_len_seq (by rfl) T.m_len PySem.boot_len (pa_cons (pv 2) pa_nil)) (ClX.pe_cval (pv 0)) (nomark _)) (pss_one ps_never) pss_nil)
      (pss_one (ps_ret (UL.pe_makeL (i := 0) T.mk_Expression (ok_ex_init T) (hr.mono (by decide)) rfl (Or.inl rfl) T.b_ex_init .nil pass0 (pa_cons (pv 2) pa_nil))))))), ?_⟩
    have hwf := (rrun_wf (s := ⟨[], [], false⟩) ⟨(fun j nd h => by cases h), (fun y hy => by cases hy)⟩ hrun).wn
    refine ⟨_, rfl, z, ns, rfl, hz, hrun, fun N as H1 e1 hNn hN hA => ?_⟩
    have hlen := hA.len
    obtain ⟨u, hu⟩ := T.cv_Expression_MOST_NODES
    refine ⟨_, rfl, rfl, _, rfl, ?_⟩
    rw [decide_eq_false (show ¬ V.ref N = V.non by intro z; cases z)]
    refine iteF ⟨_, rfl, N, _, rfl, .inl (SqL.of hN), _, rfl, A.Expression, .type "type", .int 20, u, rfl, T.cr_Expression, hu, _, 20, rfl, rfl, _, rfl, ?_⟩
    rw [decide_eq_false (by rw [List.length_map]; omega)]
    refine iteF ⟨rfl, _, rfl, fun x dx hx hdx hne => ?_⟩
    have e2 := Ex.new (o := .own x) hdx
    have hx2 : upd H1 dx (.own x) x = none := by rw [upd_ne hne.symm]; exact hx
    have e3 := e2.trans (Ex.new (o := .ins A.Expression dx []) hx2)
    refine ⟨x, dx, N, as, ns, rfl, upd_same, e3 _ _ hN, hA.imp fun _ _ h => h.mono e3, hwf, by omega, fun H' kp hE => ⟨rfl, k x H' (fun b o hb => kp b o (fun z => ?_) (e3 _ _ (e1 _ _ hb))) hE⟩⟩
    have q := e1 _ _ hb
    rw [z, hx] at q
    cases q
/-! ### expressions made on a stack -/
theorem joinL_C : ∀ ts : List (List Nat), joinL [44] ts = joinC ts
  | [] => rfl
  | [t] => rfl
  | t :: u :: r => by
    rw [joinL, joinC, joinL_C (u :: r)]
    rfl
theorem join_C (ts : List (List Nat)) : Txt.join "," (ts.map ofL) = ofL (joinC ts) := by
  have h : tl (Txt.join "," (ts.map ofL)) = joinC ts := by
    rw [join_eq, tl_join, List.map_map, show tl "," = [44] by decide +kernel, show (tl ∘ ofL) = id from funext fun l => tl_ofL l, List.map_id, joinL_C]
  rw [← ofL_tl (Txt.join "," (ts.map ofL)), h]
theorem joinC_len : ∀ ts : List (List Nat), (joinC ts).length ≤ (ts.map List.length).sum + ts.length
  | [] => Nat.le_refl _
  | [t] => by simp [joinC]
  | t :: u :: r => by
    have := joinC_len (u :: r)
    rw [joinC, List.length_append, List.length_cons, List.map_cons, List.sum_cons, List.length_cons]
    omega
theorem ofL_app (a b : List Nat) : ofL a ++ ofL b = ofL (a ++ b) := by
  have h : tl (ofL a ++ ofL b) = a ++ b := by rw [tl_append, tl_ofL, tl_ofL]
  rw [← ofL_tl (ofL a ++ ofL b), h]
theorem len_app (x y : Str) : (x ++ y).length = x.length + y.length := by rw [len_tl, tl_append, List.length_append, ← len_tl, ← len_tl]
theorem ofL_len (l : List Nat) : (ofL l).length = l.length := by rw [len_tl, tl_ofL]
theorem alnum_plain {c : Nat} (h : alnum c = true) : c ≠ 40 ∧ c ≠ 41 ∧ c ≠ 44 :=
  ⟨fun z => by rw [z] at h; revert h; decide +kernel, fun z => by rw [z] at h; revert h; decide +kernel, fun z => by rw [z] at h; revert h; decide +kernel⟩
theorem okS_all {z : Str} (h : okS z = true) : (tl z).all alnum = true ∧ tl z ≠ [] := by
  unfold okS at h
  rw [Bool.and_eq_true, Bool.and_eq_true, Bool.and_eq_true, Bool.and_eq_true] at h
  refine ⟨h.2, fun e => ?_⟩
  have := h.1.1.2
  rw [e] at this
  cases this
theorem okS_plain {z : Str} (h : okS z = true) : plainL (tl z) := fun c hc => alnum_plain (List.all_eq_true.mp (okS_all h).1 c hc)
theorem ops_cases {w : Str} {n : Int} (h : opsT.lookup w = some n) : (w = "part" ∧ n = 1) ∨ (w = "pick" ∧ n = 2) ∨ (w = "then" ∧ n = 2) := by
  unfold opsT at h
  by_cases h1 : w = "part"
  · subst h1
    rw [List.lookup_cons_self] at h
    exact .inl ⟨rfl, (Option.some.inj h).symm⟩
  rw [lookup_put2 h1] at h
  by_cases h2 : w = "pick"
  · subst h2
    rw [List.lookup_cons_self] at h
    exact .inr (.inl ⟨rfl, (Option.some.inj h).symm⟩)
  rw [lookup_put2 h2] at h
  by_cases h3 : w = "then"
  · subst h3
    rw [List.lookup_cons_self] at h
    exact .inr (.inr ⟨rfl, (Option.some.inj h).symm⟩)
  rw [lookup_put2 h3] at h
  cases h
theorem op_plain {w : Str} {n : Int} (h : opsT.lookup w = some n) : plainL (tl w) ∧ w.length ≤ 8 := by
  rcases ops_cases h with ⟨rfl, _⟩ | ⟨rfl, _⟩ | ⟨rfl, _⟩ <;> exact ⟨by unfold plainL; decide +kernel, by decide +kernel⟩
theorem okS_noop {w : Str} (h : okS w = true) : opsT.lookup w = none := by
  cases e : opsT.lookup w with
  | none => rfl
  | some n =>
    rcases ops_cases e with ⟨rfl, _⟩ | ⟨rfl, _⟩ | ⟨rfl, _⟩
    · rw [show okS "part" = false by decide +kernel] at h; cases h
    · rw [show okS "pick" = false by decide +kernel] at h; cases h
    · rw [show okS "then" = false by decide +kernel] at h; cases h
/-! ### texts -/
theorem wordOk : WordOk okS := ⟨fun w h => okS_plain h, fun w h => (okS_all h).2, fun w h => by rw [← len_tl]; exact okS_len h, fun w h => okS_noop h⟩
structure OkN (ns : List Nd) : Prop where
  F : Forest ns [ns.length - 1]
  g : ∀ nd ∈ ns, GoodNd okS nd
  ne : ns ≠ []
  le : ns.length ≤ 20
theorem okN_of {t : List Nat} {ns : List Nd} (h : GoodE okS t 0 ns) (hl : ns.length ≤ 20) : OkN ns := by
  obtain ⟨w1, w2⟩ := good_wf h
  refine ⟨good_forest h, fun nd hnd => ?_, h.1, hl⟩
  obtain ⟨j, hj⟩ := List.getElem?_of_mem hnd
  have a := (w1 j nd hj).1
  have b := w2 nd hnd
  cases nd with
  | name w => exact b
  | call w os => exact ⟨b, a⟩
  | op w os => exact a
theorem okN_good {ns : List Nd} (h : OkN ns) : GoodE okS (tx ns (ns.length - 1)) 0 ns ∧ (tx ns (ns.length - 1)).length ≤ 280 := by
  obtain ⟨h1, h2⟩ := forest_good wordOk h.F h.g
  have := h.le
  exact ⟨h1, by omega⟩
theorem goodNd_small {nd : Nd} (h : GoodNd okS nd) : (tl (wordOf nd)).length ≤ 8 ∧ (opsOf nd).length ≤ 4 := by
  cases nd with
  | name w => exact ⟨wordOk.le w h, Nat.zero_le _⟩
  | call w os => exact ⟨wordOk.le w h.1, h.2⟩
  | op w os =>
    have h : opsT.lookup w = some (os.length : Int) := h
    obtain ⟨_, h1, h2⟩ := op_pl h
    exact ⟨h1, by show os.length ≤ 4; omega⟩
theorem okN_len {ns : List Nd} (h : OkN ns) {i : Nat} (hi : i < ns.length) : (tx ns i).length ≤ 280 := by
  have := (forest_len h.F fun nd hnd => goodNd_small (h.g nd hnd)).2 i hi
  have := h.le
  omega
theorem goodNd_wf {nd : Nd} (h : GoodNd okS nd) : WfNd nd := by
  cases nd with
  | name w => trivial
  | call w os => exact h.2
  | op w os => exact h
theorem sum_small (f : Nat → Str) : ∀ os : List Nat, os.length ≤ 4 → (∀ o ∈ os, (f o).length ≤ 280) → ((os.map f).map fun x => x.length).sum ≤ 280 * 4 := by
  intro os h4 h
  have gen : ∀ os : List Nat, (∀ o ∈ os, (f o).length ≤ 280) → ((os.map f).map fun x => x.length).sum ≤ 280 * os.length := by
    intro os
    induction os with
    | nil => exact fun _ => Nat.le_refl _
    | cons o r ih =>
      intro h
      have h1 := h o List.mem_cons_self
      have h2 := ih fun q hq => h q (List.mem_cons_of_mem _ hq)
      rw [List.map_cons, List.map_cons, List.sum_cons, List.length_cons]
      omega
  have := gen os h
  omega
theorem join_f (f : Nat → Str) (os : List Nat) : Txt.join "," (os.map f) = ofL (joinC (os.map fun o => tl (f o))) := by
  have h : os.map f = (os.map fun o => tl (f o)).map ofL := by
    rw [List.map_map]
    exact List.map_congr_left fun o _ => (ofL_tl (f o)).symm
  rw [h, join_C]
theorem join_small (f : Nat → Str) (os : List Nat) (h4 : os.length ≤ 4) (h : ∀ o ∈ os, (f o).length ≤ 280) : (Txt.join "," (os.map f)).length ≤ 280 * 4 + 4 := by
  rw [join_f, ofL_len]
  have h1 := joinC_len2 (fun o => tl (f o)) os
  have h2 := sum_small f os h4 h
  rw [List.map_map] at h2
  have e : (os.map fun o => (tl (f o)).length) = os.map ((fun x : Str => x.length) ∘ f) := List.map_congr_left fun o _ => (len_tl (f o)).symm
  rw [e] at h1
  omega
theorem out_text (w : Str) (f : Nat → Str) (os : List Nat) : Str.empty ++ w ++ "(" ++ Txt.join "," (os.map f) ++ ")" = ofL (tl w ++ 40 :: joinC (os.map fun o => tl (f o)) ++ [41]) := by
  have h : tl (Str.empty ++ w ++ "(" ++ Txt.join "," (os.map f) ++ ")") = tl w ++ 40 :: joinC (os.map fun o => tl (f o)) ++ [41] := by
    rw [tl_append, tl_append, tl_append, tl_append, join_f, tl_ofL, show tl Str.empty = [] by decide +kernel, show tl "(" = [40] by decide +kernel, show tl ")" = [41] by decide +kernel]
    simp
  rw [← ofL_tl (Str.empty ++ w ++ "(" ++ Txt.join "," (os.map f) ++ ")"), h]
theorem out_text2 (w : Str) (f : Nat → Str) (os : List Nat) : w ++ "(" ++ Txt.join "," (os.map f) ++ ")" = ofL (tl w ++ 40 :: joinC (os.map fun o => tl (f o)) ++ [41]) := by
  have h : tl (w ++ "(" ++ Txt.join "," (os.map f) ++ ")") = tl w ++ 40 :: joinC (os.map fun o => tl (f o)) ++ [41] := by
    rw [tl_append, tl_append, tl_append, join_f, tl_ofL, show tl "(" = [40] by decide +kernel, show tl ")" = [41] by decide +kernel]
    simp
  rw [← ofL_tl (w ++ "(" ++ Txt.join "," (os.map f) ++ ")"), h]
def fst (ns : List Nd) (a : Nat) : Nat := (firstsL ns).getD a 0
def spFirst (C : Addr) : Sp := fun vs H Q E => ∃ (x : Addr) (ns : List Nd) (a : Nat), vs = [.ref x, .int (a : Int)] ∧ ExAt C H x ns ∧ a < ns.length ∧ Q (.int (fst ns a : Nat)) H
theorem ok_ex_first (T : Tx0 w K mg A) : FnOk P w K mg base CX0 6 A.ex_first A.d_ex_first p_ex_first (spFirst A.Expression) := by
  refine T.F_ex_first.ok sc_ex_first (fun vs H Q E h => ?_) (fun cdv Ar outer s H vs Q E hr h => ?_)
  · obtain ⟨x, ns, a, rfl, _⟩ := h
    rfl
  · obtain ⟨x, ns, a, rfl, hx, hv, k⟩ := h
    refine ⟨_, (pss_cons (ps_if (pt_not (pt_val (pe_call (ok_is_int T) (hr.mono (by decide)) (by rfl) T.g_is_int T.F_is_int.kp T.b_is_int .nil pass0 (pa_cons (pv 1) (pa_cons pe_int (pa_cons (pe_op op_sub (pe_callB call_len_seq (by rfl) T.m_len PySem.boot_len (pa_cons (pe_fld (pv 0) rfl) pa_nil)) pe_int) pa_nil)))))) (pss_one ps_never) pss_nil)
      (pss_one (ps_ret (pe_ix ix_list (pe_fld (pv 0) rfl) (pv 1) (fun _ _ => rfl))))), ?_⟩
    obtain ⟨dx, t, f, as, h1, h2, h3, h4⟩ := hx
    refine ⟨_, rfl, _, rfl, x, _, dx, _, _, rfl, h1, T.cl_Expression, T.na_Expression__nodes, ex_look _ _, t, _, rfl, .inr (SqT.of h2), _, 1, rfl, rfl, .int (a : Int), 0, _, rfl, .inr (.inr (.inr (.inl ⟨_, rfl⟩))), _, rfl, ?_⟩
    rw [List.length_map, h3.len, show inI (.int (a : Int)) 0 (((ns.length : Nat) : Int) - 1) = true by
      show (decide ((0 : Int) ≤ (a : Int)) && decide ((a : Int) ≤ ((ns.length : Nat) : Int) - 1)) = true
      rw [Bool.and_eq_true]
      exact ⟨decide_eq_true (by omega), decide_eq_true (by omega)⟩]
    have ha : (ni (firstsL ns))[a]? = some (.int (fst ns a : Nat)) := by
      unfold ni fst
      rw [List.getElem?_map, List.getD_eq_getElem?_getD, List.getElem?_eq_getElem (by rw [firstsL_len]; omega)]
      rfl
    exact iteF ⟨_, rfl, x, _, dx, _, _, rfl, h1, T.cl_Expression, T.na_Expression__firsts, ex_look2 _ _, _, rfl, f, _, (a : Int), _, rfl, rfl, SqL.of h4, atI_nat ha, k⟩
def nodeSp (nd : Nd) (f : Nat → Str) : Str := ofL (ndT (fun o => tl (f o)) nd)
def spNodeText : Sp := fun vs H Q _ => ∃ (a dT : Addr) (nd : Nd) (f : Nat → Str) (ks : List (Key × V)), vs = [.ref a, .ref dT] ∧ NdAt H a nd ∧ GoodNd okS nd ∧ H dT = some (.dK ks) ∧ (∀ o ∈ opsOf nd, valV ks (Sum.inl (o : Int)) = some (.str (f o)) ∧ (f o).length ≤ 280) ∧ ∀ H', Ex H H' → Q (.str (nodeSp nd f)) H'
theorem ok_node_text (T : Tx0 w K mg A) : FnOk P w K mg base CX0 2 A.node_text A.d_node_text p_node_text spNodeText := by
  refine T.F_node_text.ok sc_node_text (fun vs H Q E h => ?_) (fun cdv Ar outer s H vs Q E hr h => ?_)
  · obtain ⟨a, dT, nd, f, ks, rfl, _⟩ := h
    rfl
  · obtain ⟨a, dT, nd, f, ks, rfl, ha, hg, hd, hv, k⟩ := h
    refine ⟨_, (pss_cons (ps_if (pt_cmpR op_eq (pe_ix ix_tup (pv 0) pe_int (fun _ _ => rfl)) pe_str (nomark _)) (pss_one (ps_ret (pe_ix ix_tup (pv 0) pe_int (fun _ _ => rfl)))) pss_nil)
      (pss_cons (ps_set (i := 2) sc_node_text.nd rfl (Or.inl rfl) (pe_ifExp (pt_cmpR op_eq (pe_ix ix_tup (pv 0) pe_int (fun _ _ => rfl)) pe_str (nomark _)) (pe_ix ix_tup (pv 0) pe_int (fun _ _ => rfl)) (pe_ix ix_tup (pv 0) pe_int (fun _ _ => rfl))))
      (pss_cons (ps_set (i := 3) sc_node_text.nd rfl (Or.inl rfl) (pe_bm PySem.F.plainAttrs_str PySem.F.slot_str_join PySem.F.type_str_join mt_join pe_str (pa_cons (pe_lc (own := [("i", 4)]) (g := gName 4) (tt := tYes) rfl sc_node_text.nd (pi_tup (pe_call (ok_operands_of T) (hr.mono (by decide)) (by rfl) T.g_operands_of T.F_operands_of.kp T.b_operands_of .nil pass0 (pa_cons (pv 0) pa_nil))) (blkOk_by (N := n_node_text) (sc := defScope s_node_text) (by decide +kernel)) (fun _ _ _ _ _ => pg_name (i := 4) sc_node_text.nd rfl (Or.inl rfl)) (fun _ _ _ _ _ => pts_nil) (fun _ _ _ _ _ => (pe_dget (hu_of hr) (pv 1) (pv 4) (fun _ _ => rfl)))) pa_nil)))
      (pss_one (ps_ret (pe_joined (.cons (pe_fmt (pv 2)) (.cons pe_str (.cons (pe_fmt (pv 3)) (.cons pe_str .nil)))))))))), ?_⟩
    cases nd with
    | name w =>
      have h : H a = some (.tup [.str "name", .str w]) := ha
      refine ⟨_, rfl, a, _, 0, .str "name", rfl, rfl, SqT.of h, atI_nat (j := 0) rfl, rfl, _, rfl, ?_⟩
      rw [str_eqb, decide_eq_true rfl]
      have k := k H (Ex.refl H)
      rw [show nodeSp (.name w) f = w from ofL_tl w] at k
      exact iteT ⟨_, rfl, a, _, 1, .str w, rfl, rfl, SqT.of h, atI_nat (j := 1) rfl, k⟩
    | call w os =>
      have hg2 : okS w = true ∧ os.length ≤ 4 := hg
      have hwl : w.length ≤ 8 := by rw [len_tl]; exact wordOk.le w hg2.1
      obtain ⟨t, h, ht⟩ := id ha
      refine ⟨_, rfl, a, _, 0, .str "call", rfl, rfl, SqT.of h, atI_nat (j := 0) rfl, rfl, _, rfl, ?_⟩
      rw [str_eqb, decide_eq_false (by decide +kernel)]
      refine iteF ⟨_, rfl, a, _, 0, .str "call", rfl, rfl, SqT.of h, atI_nat (j := 0) rfl, rfl, _, rfl, ?_⟩
      rw [str_eqb, decide_eq_true rfl]
      refine iteT ⟨_, rfl, a, _, 1, .str w, rfl, rfl, SqT.of h, atI_nat (j := 1) rfl, ?_⟩
      refine ⟨rfl, _, rfl, a, _, rfl, ha, goodNd_wf hg, fun p H1 e1 hp => ⟨p, rfl, ⟨_, SqT.of hp⟩, fun D hD => ?_⟩⟩
      refine lc_tup (xs := ni os) (fun i H' => Ex H1 H' ∧ H' D = some (.lst ((os.take i).map fun o => V.str (f o)))) ⟨Ex.new hD, upd_same⟩ (fun i H' _ h => SqT.of (h.1 _ _ hp)) ?_ ?_
      · rintro i x H2 hx ⟨e2, h2⟩
        have hx : (os.map fun (n : Nat) => V.int (n : Int))[i]? = some x := hx
        rw [List.getElem?_map] at hx
        obtain ⟨o, ho, rfl⟩ := Option.map_eq_some_iff.mp hx
        have hvo := hv o (List.mem_of_getElem? ho)
        refine ⟨rfl, _, rfl, _, rfl, dT, _, rfl, (show DGet H2 dT (.int (o : Int)) (some (.str (f o))) from by rw [← hvo.1]; exact DGet.k (k := Sum.inl (o : Int)) (e2 _ _ (e1 _ _ hd))), _, h2, sz_lt (by rw [List.length_map, List.length_take]; omega), e2.mut hD, ?_⟩
        rw [upd_same, List.take_succ, ho, List.map_append]
        rfl
      · rintro H2 ⟨e2, h2⟩
        rw [ni_len, List.take_length] at h2
        have hsum : ((os.map f).map fun x => x.length).sum ≤ 280 * 4 := sum_small f os hg2.2 (fun o ho => (hv o ho).2)
        have hjl : (Txt.join "," (os.map f)).length ≤ 280 * 4 + 4 := join_small f os hg2.2 (fun o ho => (hv o ho).2)
        refine ⟨",", D, os.map f, rfl, rfl, .inl (SqL.of (by rw [h2, List.map_map]; rfl)), ?_, ?_⟩
        · rw [List.length_map]
          show _ + os.length * 1 ≤ 16777216
          have := hg2.2
          omega
        · refine ⟨_, rfl, .inl ⟨w, rfl, sz_of (by omega), _, rfl, sz_of (by rw [len_app]; show 0 + w.length ≤ 100000; omega), _, rfl, sz_of (by rw [len_app, len_app]; show 0 + w.length + 1 ≤ 100000; omega), _, rfl, .inl ⟨_, rfl, sz_of (by omega), _, rfl, sz_of (by rw [len_app, len_app, len_app]; show 0 + w.length + 1 + _ ≤ 100000; omega), _, rfl, sz_of (by rw [len_app, len_app, len_app, len_app]; show 0 + w.length + 1 + _ + 1 ≤ 100000; omega), ?_⟩⟩⟩
          have k := k H2 (e1.trans e2)
          show Q (.str (Str.empty ++ w ++ "(" ++ Txt.join "," (os.map f) ++ ")")) H2
          rw [out_text w f os]
          exact k
    | op w os =>
      have hg2 : opsT.lookup w = some (os.length : Int) := hg
      obtain ⟨_, hwl', h42⟩ := op_pl hg2
      have hwl : w.length ≤ 8 := by rw [len_tl]; exact hwl'
      have hg2 : True ∧ os.length ≤ 4 := ⟨trivial, by omega⟩
      have h : H a = some (.tup (.str w :: ni os)) := ha
      obtain ⟨n1, n2⟩ := opw_ne hg
      refine ⟨_, rfl, a, _, 0, .str w, rfl, rfl, SqT.of h, atI_nat (j := 0) rfl, rfl, _, rfl, ?_⟩
      rw [str_eqb, decide_eq_false n1]
      refine iteF ⟨_, rfl, a, _, 0, .str w, rfl, rfl, SqT.of h, atI_nat (j := 0) rfl, rfl, _, rfl, ?_⟩
      rw [str_eqb, decide_eq_false n2]
      refine iteF ⟨_, rfl, a, _, 0, .str w, rfl, rfl, SqT.of h, atI_nat (j := 0) rfl, ?_⟩
      refine ⟨rfl, _, rfl, a, _, rfl, ha, goodNd_wf hg, fun p H1 e1 hp => ⟨p, rfl, ⟨_, SqT.of hp⟩, fun D hD => ?_⟩⟩
      refine lc_tup (xs := ni os) (fun i H' => Ex H1 H' ∧ H' D = some (.lst ((os.take i).map fun o => V.str (f o)))) ⟨Ex.new hD, upd_same⟩ (fun i H' _ h => SqT.of (h.1 _ _ hp)) ?_ ?_
      · rintro i x H2 hx ⟨e2, h2⟩
        have hx : (os.map fun (n : Nat) => V.int (n : Int))[i]? = some x := hx
        rw [List.getElem?_map] at hx
        obtain ⟨o, ho, rfl⟩ := Option.map_eq_some_iff.mp hx
        have hvo := hv o (List.mem_of_getElem? ho)
        refine ⟨rfl, _, rfl, _, rfl, dT, _, rfl, (show DGet H2 dT (.int (o : Int)) (some (.str (f o))) from by rw [← hvo.1]; exact DGet.k (k := Sum.inl (o : Int)) (e2 _ _ (e1 _ _ hd))), _, h2, sz_lt (by rw [List.length_map, List.length_take]; omega), e2.mut hD, ?_⟩
        rw [upd_same, List.take_succ, ho, List.map_append]
        rfl
      · rintro H2 ⟨e2, h2⟩
        rw [ni_len, List.take_length] at h2
        have hsum : ((os.map f).map fun x => x.length).sum ≤ 280 * 4 := sum_small f os hg2.2 (fun o ho => (hv o ho).2)
        have hjl : (Txt.join "," (os.map f)).length ≤ 280 * 4 + 4 := join_small f os hg2.2 (fun o ho => (hv o ho).2)
        refine ⟨",", D, os.map f, rfl, rfl, .inl (SqL.of (by rw [h2, List.map_map]; rfl)), ?_, ?_⟩
        · rw [List.length_map]
          show _ + os.length * 1 ≤ 16777216
          have := hg2.2
          omega
        · refine ⟨_, rfl, .inl ⟨w, rfl, sz_of (by omega), _, rfl, sz_of (by rw [len_app]; show 0 + w.length ≤ 100000; omega), _, rfl, sz_of (by rw [len_app, len_app]; show 0 + w.length + 1 ≤ 100000; omega), _, rfl, .inl ⟨_, rfl, sz_of (by omega), _, rfl, sz_of (by rw [len_app, len_app, len_app]; show 0 + w.length + 1 + _ ≤ 100000; omega), _, rfl, sz_of (by rw [len_app, len_app, len_app, len_app]; show 0 + w.length + 1 + _ + 1 ≤ 100000; omega), ?_⟩⟩⟩
          have k := k H2 (e1.trans e2)
          show Q (.str (Str.empty ++ w ++ "(" ++ Txt.join "," (os.map f) ++ ")")) H2
          rw [out_text w f os]
          exact k
theorem ndT_congr {f g : Nat → List Nat} {nd : Nd} (h : ∀ o ∈ opsOf nd, f o = g o) : ndT f nd = ndT g nd := by
  cases nd with
  | name w => rfl
  | call w os =>
    have h : ∀ o ∈ os, f o = g o := h
    show tl w ++ 40 :: joinC (os.map f) ++ [41] = tl w ++ 40 :: joinC (os.map g) ++ [41]
    rw [List.map_congr_left h]
  | op w os =>
    have h : ∀ o ∈ os, f o = g o := h
    show tl w ++ 40 :: joinC (os.map f) ++ [41] = tl w ++ 40 :: joinC (os.map g) ++ [41]
    rw [List.map_congr_left h]
theorem tx_app {N : List Nd} {i : Nat} (h : i < N.length) : ∀ M : List Nd, tx (N ++ M) i = tx N i := by
  intro M
  induction M generalizing N with
  | nil => rw [List.append_nil]
  | cons d r ih =>
    rw [show N ++ d :: r = (N ++ [d]) ++ r by simp, ih (by rw [List.length_append]; omega), tx_old h]
theorem tx_at {N : List Nd} {j : Nat} {nd : Nd} (h : N[j]? = some nd) (ho : ∀ o ∈ opsOf nd, o < j) : tx N j = ndT (tx N) nd := by
  obtain ⟨hj, hn⟩ := List.getElem?_eq_some_iff.mp h
  have htl : (N.take j).length = j := by rw [List.length_take]; omega
  have e : N = (N.take j ++ [nd]) ++ N.drop (j + 1) := by
    rw [← hn, List.append_assoc, List.singleton_append, ← List.drop_eq_getElem_cons hj, List.take_append_drop]
  have h1 : tx N j = ndT (tx (N.take j)) nd := by
    conv => lhs; rw [e]
    rw [tx_app (by rw [List.length_append, htl, List.length_singleton]; omega)]
    have := tx_new (N := N.take j) (nd := nd)
    rw [htl] at this
    exact this
  rw [h1]
  refine ndT_congr fun o hoo => ?_
  have := tx_app (N := N.take j) (i := o) (by rw [htl]; exact ho o hoo) (N.drop j)
  rw [List.take_append_drop] at this
  exact this.symm
def txD (N : List Nd) (k : Nat) : List (Key × V) := (List.range k).map fun (i : Nat) => ((Sum.inl (i : Int) : Key), V.str (ofL (tx N i)))
theorem txD_succ (N : List Nd) (k : Nat) : txD N (k + 1) = txD N k ++ [(Sum.inl (k : Int), V.str (ofL (tx N k)))] := by
  unfold txD
  rw [List.range_succ, List.map_append]
  rfl
theorem txD_len (N : List Nd) (k : Nat) : (txD N k).length = k := by
  unfold txD
  rw [List.length_map, List.length_range]
theorem txD_none (N : List Nd) : ∀ (k i : Nat), k ≤ i → valV (txD N k) (Sum.inl (i : Int)) = none
  | 0, i, _ => rfl
  | k + 1, i, h => by
    rw [txD_succ, valV_snoc _ _ _ _ (txD_none N k k (Nat.le_refl _)), if_neg (by intro z; have := Sum.inl.inj z; omega)]
    exact txD_none N k i (by omega)
theorem txD_get {N : List Nd} {k i : Nat} (h : i < k) : valV (txD N k) (Sum.inl (i : Int)) = some (.str (ofL (tx N i))) := by
  induction k with
  | zero => omega
  | succ k ih =>
    rw [txD_succ, valV_snoc _ _ _ _ (txD_none N k k (Nat.le_refl _))]
    by_cases e : i = k
    · rw [if_pos (by rw [e]), e]
    · rw [if_neg (by intro z; have := Sum.inl.inj z; omega)]
      exact ih (by omega)
theorem txD_put (N : List Nd) (k : Nat) : putK (txD N k) (Sum.inl (k : Int)) (V.str (ofL (tx N k))) = txD N (k + 1) := by
  unfold putK
  rw [valV_any, txD_none N k k (Nat.le_refl _), if_neg (by simp), txD_succ]
def spPartText (C : Addr) : Sp := fun vs H Q _ => ∃ x ns, vs = [.ref x, .int ((ns.length : Int) - 1), .non] ∧ ExAt C H x ns ∧ OkN ns ∧ ∀ H', Ex H H' → Q (.str (ofL (tx ns (ns.length - 1)))) H'
theorem ok_part_text (T : Tx0 w K mg A) : FnOk P w K mg base (L2.CX P w) 8 A.part_text A.d_part_text p_part_text (spPartText A.Expression) := by
  refine T.F_part_text.ok sc_part_text (fun vs H Q E h => ?_) (fun cdv Ar outer s H vs Q E hr h => ?_)
  · obtain ⟨x, ns, rfl, _⟩ := h
    rfl
  · obtain ⟨x, ns, rfl, hx, hN, k⟩ := h
    refine ⟨_, (pss_cons (ps_set (i := 3) sc_part_text.nd rfl (Or.inl rfl) pe_dnewK)
      (pss_cons (ps_for PassesOwn.leaving rfl (pi_range2 (by rfl) T.m_range (pa_cons (pe_meth (pv 0) T.cl_Expression T.e_ex_first (ok_ex_first T) (hr.mono (by decide)) T.b_ex_first .nil pass0 (pa_cons (pv 1) pa_nil)) (pa_cons (pe_op op_add (pv 1) pe_int) pa_nil))) (pg_name (i := 4) sc_part_text.nd rfl (Or.inl rfl)) (pss_one (ps_if (PW.pt (pw_and (pt_cmpR op_notN (pv 2) pe_non (nomark _)) (pw_and1 (pt_cmp (pc_din (hu_of hr) (pv 4) (pv 2)))))) (pss_one (ps_dput (hu_of hr) (pv 3) (pv 4) (pe_dget (hu_of hr) (pv 2) (pv 4) (fun _ _ => rfl)) rfl)) (pss_one (ps_dput (hu_of hr) (pv 3) (pv 4) (pe_call (ok_node_text T) (hr.mono (by decide)) (by rfl) T.g_node_text T.F_node_text.kp T.b_node_text .nil pass0 (pa_cons (pe_ix ix_tup (pe_fld (pv 0) rfl) (pv 4) (fun _ _ => rfl)) (pa_cons (pv 3) pa_nil))) rfl)))))
      (pss_one (ps_ret (pe_dget (hu_of hr) (pv 3) (pv 1) (fun _ _ => rfl)))))), ?_⟩
    obtain ⟨dx, t, f, as, h1, h2, h3, h4⟩ := id hx
    have ok := forest_ok hN.F
    have hnp := List.length_pos_iff.mpr hN.ne
    have hroot : fst ns (ns.length - 1) = 0 := ok.part.1
    have hwf := (good_wf (okN_good hN).1).1
    have hlen := h3.len
    intro d hd
    have e0 := Ex.new (o := .dK []) hd
    refine ⟨_, rfl, x, dx, _, rfl, e0 _ _ h1, rfl, _, rfl, x, ns, ns.length - 1, by rw [show ((ns.length - 1 : Nat) : Int) = (ns.length : Int) - 1 by omega]; rfl, hx.mono e0, by omega, ?_⟩
    refine ⟨_, rfl, (ns.length : Int) - 1, 1, rfl, rfl, ((fst ns (ns.length - 1) : Nat) : Int), (ns.length : Int), ?_, ⟨by omega, by rw [hroot]; omega, by omega, by have := hN.le; omega⟩, ?_⟩
    · show [V.int _, V.int ((ns.length : Int) - 1 + 1)] = _
      rw [show (ns.length : Int) - 1 + 1 = ns.length by omega]
    rw [hroot]
    refine for_range (lo := ((0 : Nat) : Int)) (n := ((ns.length : Int) - ((0 : Nat) : Int)).toNat) (fun j σ' H' => ∃ v4, σ' = [some (.ref x), some (.int ((ns.length : Int) - 1)), some .non, some (.ref d), v4] ∧ Ex H H' ∧ H' d = some (.dK (txD ns j))) ⟨_, rfl, e0, upd_same⟩ ?_ ?_
    · rintro j σ' H1 hj ⟨v4, rfl, e1, hd1⟩
      have z0 : ((0 : Nat) : Int) + (j : Int) = (j : Int) := by omega
      have hj' : j < ns.length := by omega
      rw [z0]
      have hja : j < as.length := by omega
      obtain ⟨nd, hnd, had⟩ := h3.get j as[j] (List.getElem?_eq_getElem hja)
      have hops := (hwf j nd hnd).2
      refine ⟨_, rfl, rfl, _, rfl, ?_⟩
      rw [decide_eq_true rfl]
      refine iteF (iteF ?_)
      refine ⟨_, rfl, x, _, dx, _, _, rfl, e1 _ _ h1, T.cl_Expression, T.na_Expression__nodes, ex_look _ _, _, rfl, t, _, (j : Int), .ref as[j], rfl, rfl, SqT.of (e1 _ _ h2), atI_nat (by rw [List.getElem?_map, List.getElem?_eq_getElem hja]; rfl), _, rfl, as[j], d, nd, (fun o => ofL (tx ns o)), _, rfl, had.mono e1, hN.g nd (List.mem_of_getElem? hnd), hd1, (fun o ho => ⟨txD_get (hops o ho), by rw [ofL_len]; exact okN_len hN (by have := hops o ho; omega)⟩), fun H2 e2 => ⟨_, rfl, _, rfl, d, _, rfl, DPut.k (k := Sum.inl (j : Int)) (e2 _ _ hd1) (sz_lt (by rw [txD_len]; have := hN.le; omega)), _, rfl, (e1.trans e2).mut hd, ?_⟩⟩
      rw [upd_same, show nodeSp nd (fun o => ofL (tx ns o)) = ofL (tx ns j) from by
        unfold nodeSp
        rw [tx_at hnd hops, ndT_congr (g := tx ns) fun o _ => tl_ofL _], txD_put]
    · rintro σ' H1 ⟨v4, rfl, e1, hd1⟩
      rw [show ((ns.length : Int) - ((0 : Nat) : Int)).toNat = ns.length by omega] at hd1
      have hg := txD_get (N := ns) (show ns.length - 1 < ns.length by omega)
      refine ⟨_, rfl, _, rfl, d, _, rfl, (show DGet H1 d (.int ((ns.length : Int) - 1)) (some (.str (ofL (tx ns (ns.length - 1))))) from ?_), k H1 e1⟩
      rw [← hg, show (ns.length : Int) - 1 = ((ns.length - 1 : Nat) : Int) by omega]
      exact DGet.k (k := Sum.inl ((ns.length - 1 : Nat) : Int)) hd1
def spText (C : Addr) : Sp := fun vs H Q _ => ∃ x ns, vs = [.ref x] ∧ ExAt C H x ns ∧ OkN ns ∧ ∀ H', Ex H H' → Q (.str (ofL (tx ns (ns.length - 1)))) H'
theorem ok_ex_text (T : Tx0 w K mg A) : FnOk P w K mg base CX0 9 A.ex_text A.d_ex_text p_ex_text (spText A.Expression) := by
  refine T.F_ex_text.ok sc_ex_text (fun vs H Q E h => ?_) (fun cdv Ar outer s H vs Q E hr h => ?_)
  · obtain ⟨x, ns, rfl, _⟩ := h
    rfl
  · obtain ⟨x, ns, rfl, hx, hN, k⟩ := h
    obtain ⟨ds, v0_part_text_2, b0_part_text_2⟩ := T.F_part_text.binds0 (ps := p_part_text) 2 (by simp) rfl (fun D doc pm an cdv ct us ks h1 h2 => by
      match us, h1, ks, h2 with
      | [_, _], _, [_], _ => exact ⟨_, _, _, _, _, _, rfl, rfl, rfl⟩)
    refine ⟨_, (pss_one (ps_ret (pe_meth (pv 0) T.cl_Expression T.e_part_text (ok_part_text T) (hr.mono (by decide)) b0_part_text_2 v0_part_text_2 passL (pa_cons (pe_op op_sub (pe_callB call_len_seq (by rfl) T.m_len PySem.boot_len (pa_cons (pe_fld (pv 0) rfl) pa_nil)) pe_int) pa_nil)))), ?_⟩
    obtain ⟨dx, t, f, as, h1, h2, h3, h4⟩ := id hx
    exact ⟨_, rfl, x, dx, _, rfl, h1, rfl, _, rfl, x, _, dx, _, _, rfl, h1, T.cl_Expression, T.na_Expression__nodes, ex_look _ _, t, _, rfl, .inr (SqT.of h2), _, 1, rfl, rfl, x, ns, by rw [List.length_map, h3.len]; rfl, hx, hN, k⟩
end
end K24

set_option Elab.async false
set_option linter.all false
set_option maxRecDepth 100000
namespace K24
open PySem PySem.Spec PyProof.Rows L2 Evl TL UL StX
section
variable {P : Program} {w : World} {K : PySem.W.Frag} {mg : Str → Option Value} {base : Heap} {A : Adr}
/-! ### rows of nine kinds -/
inductive Kd
  | use | val | ref | set | blk | iff | lop | els | fin
deriving DecidableEq
def kS : Kd → Str
  | .use => "use"
  | .val => "val"
  | .ref => "ref"
  | .set => "set"
  | .blk => "block"
  | .iff => "if"
  | .lop => "loop"
  | .els => "else"
  | .fin => "end"
/-- rows that have an expression; rows that bind a name -/
def isX : Kd → Bool
  | .use => true
  | .val => true
  | .ref => true
  | .set => true
  | _ => false
def isB : Kd → Bool
  | .val => true
  | .ref => true
  | .set => true
  | _ => false
structure Rwd where
  k : Kd
  nm : Str
  ns : List Nd
deriving DecidableEq
def exT (ns : List Nd) : Str := ofL (tx ns (ns.length - 1))
/-- its line -/
def rT (r : Rwd) : Str := if isB r.k then kS r.k ++ " " ++ (r.nm ++ " = " ++ exT r.ns) else if isX r.k then kS r.k ++ " " ++ exT r.ns else kS r.k
structure WfRw (r : Rwd) : Prop where
  x : isX r.k = true → OkN r.ns
  nx : isX r.k = false → r.ns = []
  b : isB r.k = true → okS r.nm = true
  nb : isB r.k = false → r.nm = ""
theorem isB_X {k : Kd} (h : isB k = true) : isX k = true := by cases k <;> first | rfl | cases h
theorem ex_run {ns : List Nd} (h : OkN ns) : rrun okS ⟨[], [], false⟩ (cutGo [] (tl (exT ns))) = some ⟨ns, [], true⟩ ∧ (exT ns).length ≤ 280 := by
  obtain ⟨g, l⟩ := okN_good h
  unfold exT
  rw [tl_ofL, ofL_len]
  exact ⟨good_run g, l⟩
def ExpV (C : Addr) (H : Hp) (r : Rwd) (v : V) : Prop := if isX r.k then ∃ x, v = .ref x ∧ ExAt C H x r.ns else v = .non
theorem ExpV.mono {C : Addr} {H H' : Hp} {r : Rwd} {v : V} (e : Ex H H') (h : ExpV C H r v) : ExpV C H' r v := by
  unfold ExpV at h ⊢
  split
  · rw [if_pos (by assumption)] at h
    obtain ⟨x, h1, h2⟩ := h
    exact ⟨x, h1, h2.mono e⟩
  · rw [if_neg (by assumption)] at h
    exact h
def rowF (r : Rwd) (v : V) : List (Str × V) := [("kind", .str (kS r.k)), ("name", .str r.nm), ("expression", v)]
def RwAt (R C : Addr) (H : Hp) (a : Addr) (r : Rwd) : Prop := ∃ dx v, H a = some (.ins R dx (rowF r v)) ∧ ExpV C H r v
theorem RwAt.mono {R C : Addr} {H H' : Hp} {a : Addr} {r : Rwd} (e : Ex H H') (h : RwAt R C H a r) : RwAt R C H' a r := by
  obtain ⟨dx, v, h1, h2⟩ := h
  exact ⟨dx, v, e _ _ h1, h2.mono e⟩
theorem f_kind (r : Rwd) (v : V) : (rowF r v).lookup ("kind" : Str) = some (.str (kS r.k)) := rfl
theorem f_rname (r : Rwd) (v : V) : (rowF r v).lookup ("name" : Str) = some (.str r.nm) := rfl
theorem f_rexp (r : Rwd) (v : V) : (rowF r v).lookup ("expression" : Str) = some v := rfl
theorem k_binding (k : Kd) : inV (.str (kS k)) k_BINDING = isB k := by cases k <;> decide +kernel
theorem k_bare (k : Kd) : inV (.str (kS k)) k_BARE = !isX k := by cases k <;> decide +kernel
theorem kS_len (k : Kd) : (kS k).length ≤ 5 := by cases k <;> decide +kernel
theorem kS_plain (k : Kd) : 32 ∉ tl (kS k) ∧ 10 ∉ tl (kS k) := by cases k <;> decide +kernel
theorem kS_inj {k k' : Kd} (h : kS k = kS k') : k = k' := by
  revert h
  cases k <;> cases k' <;> first | (intro _; rfl) | (intro h; exact absurd h (by decide +kernel))
theorem okS_sp {z : Str} (h : okS z = true) : 32 ∉ tl z ∧ 10 ∉ tl z := by
  have ha := List.all_eq_true.mp (okS_all h).1
  exact ⟨fun m => absurd (ha _ m) (by decide +kernel), fun m => absurd (ha _ m) (by decide +kernel)⟩
theorem okS_ne {z : Str} (h : okS z = true) : z ≠ "" := fun e => by
  rw [e] at h
  exact absurd h (by decide +kernel)
def spIsRow (C : Addr) : Sp := fun vs H Q _ => ∃ r v, vs = [.str (kS r.k), .str r.nm, v] ∧ ExpV C H r v ∧ WfRw r ∧ ∀ H', Ex H H' → Q (.bl true) H'
theorem ok_is_row (T : Tx0 w K mg A) : FnOk P w K mg base CX0 2 A.is_row A.d_is_row p_is_row (spIsRow A.Expression) := by
  refine T.F_is_row.ok sc_is_row (fun vs H Q E h => ?_) (fun cdv Ar outer s H vs Q E hr h => ?_)
  · obtain ⟨r, v, rfl, _⟩ := h
    rfl
  · obtain ⟨r, v, rfl, hv, wf, q⟩ := h
    refine ⟨_, (pss_cons (ps_if (PW.pt (pw_or (pt_not (pt_val (pe_callB call_isi (by rfl) T.m_isinstance (by decide +kernel) (pa_cons (pv 0) (pa_cons (pe_bltn (v := .ty "str") (u := .type "str") (by rfl) T.m_str (by decide +kernel) rfl) pa_nil))))) (pw_or1 (pt_not (pt_val (pe_callB call_isi (by rfl) T.m_isinstance (by decide +kernel) (pa_cons (pv 1) (pa_cons (pe_bltn (v := .ty "str") (u := .type "str") (by rfl) T.m_str (by decide +kernel) rfl) pa_nil)))))))) (pss_one (ps_ret pe_bl)) pss_nil)
      (pss_cons (ps_if (pt_cmpR op_in_seq (pv 0) (pe_glob (v := .ref A.BINDING) (by rfl) T.c_BINDING rfl) (by rfl)) (pss_one (ps_ret (pe_and (pe_call (ok_is_name T) (hr.mono (by decide)) (by rfl) T.g_is_name T.F_is_name.kp T.b_is_name .nil pass0 (pa_cons (pv 1) pa_nil)) (pe_one (pe_callB call_isi (by rfl) T.m_isinstance (by decide +kernel) (pa_cons (pv 2) (pa_cons (pe_glob (v := .ref A.Expression) (by rfl) T.g_Expression rfl) pa_nil))))))) pss_nil)
      (pss_cons (ps_if (pt_cmpR op_eq (pv 0) pe_str (nomark _)) (pss_one (ps_ret (pe_and (pe_cmpR op_eq (pv 1) pe_str (nomark _)) (pe_one (pe_callB call_isi (by rfl) T.m_isinstance (by decide +kernel) (pa_cons (pv 2) (pa_cons (pe_glob (v := .ref A.Expression) (by rfl) T.g_Expression rfl) pa_nil))))))) pss_nil)
      (pss_one (ps_ret (pe_and (pe_cmpR op_in_seq (pv 0) (pe_glob (v := .ref A.BARE) (by rfl) T.c_BARE rfl) (by rfl)) (pe_and (pe_cmpR op_eq (pv 1) pe_str (nomark _)) (pe_one (pe_cmpR op_isN (pv 2) pe_non (nomark _)))))))))), ?_⟩
    have bnd := k_binding r.k
    have bar := k_bare r.k
    refine ⟨_, rfl, .str (kS r.k), _, _, _, true, rfl, .ty "str", .base (.str _), kit_ty (r := true) (by decide +kernel), _, rfl, iteF ?_⟩
    refine ⟨_, rfl, .str r.nm, _, _, _, true, rfl, .ty "str", .base (.str _), kit_ty (r := true) (by decide +kernel), _, rfl, iteF ?_⟩
    refine ⟨_, rfl, A.BINDING, k_BINDING, rfl, .inr (T.q_BINDING _), rfl, by decide, _, rfl, ?_⟩
    show if inV (.str (kS r.k)) k_BINDING = true then _ else _
    rw [bnd]
    cases hB : isB r.k with
    | true =>
      have hX := isB_X hB
      unfold ExpV at hv
      rw [if_pos hX] at hv
      obtain ⟨x, rfl, hx⟩ := hv
      refine iteT ⟨_, rfl, .str r.nm, rfl, .inl ⟨_, rfl, Nat.le_trans (okS_len (wf.b hB)) (by decide)⟩, fun H1 e1 => ?_⟩
      rw [show nm (.str r.nm) = true from wf.b hB]
      obtain ⟨dx, t, f, as, h1, _⟩ := hx.mono e1
      exact ⟨true, rfl, iteT ⟨_, rfl, .ref x, _, _, _, true, rfl, .own A.Expression, tyx_ins h1 T.cl_Expression T.ty_Expression, UL.kit_own, q H1 e1⟩⟩
    | false =>
      refine iteF ⟨_, rfl, rfl, _, rfl, ?_⟩
      rw [str_eqb]
      have hn := wf.nb hB
      rw [hn]
      by_cases e : r.k = .use
      · have hX : isX r.k = true := by rw [e]; rfl
        unfold ExpV at hv
        rw [if_pos hX] at hv
        obtain ⟨x, rfl, hx⟩ := hv
        obtain ⟨dx, t, f, as, h1, _⟩ := id hx
        rw [decide_eq_true (by rw [e]; rfl)]
        exact iteT ⟨_, rfl, rfl, true, by decide +kernel, iteT ⟨_, rfl, .ref x, _, _, _, true, rfl, .own A.Expression, tyx_ins h1 T.cl_Expression T.ty_Expression, UL.kit_own, q H (Ex.refl H)⟩⟩
      · have hX : isX r.k = false := by
          revert hB e
          cases r.k <;> decide
        unfold ExpV at hv
        rw [hX] at hv
        obtain rfl : v = .non := hv
        rw [show decide (kS r.k = ("use" : Str)) = false from decide_eq_false (fun z => e (kS_inj (k' := .use) z))]
        rw [hX] at bar
        refine iteF ⟨_, rfl, A.BARE, k_BARE, rfl, .inr (T.q_BARE _), rfl, by decide, true, congrArg V.bl bar, iteT ⟨_, rfl, rfl, true, by decide +kernel, iteT ⟨_, rfl, rfl, ?_⟩⟩⟩
        rw [decide_eq_true rfl]
        exact q H (Ex.refl H)
/-- a line that has an expression: its kind, its name, the expression's text -/
def spParts : Sp := fun vs H Q _ => ∃ r, vs = [.str (rT r)] ∧ WfRw r ∧ isX r.k = true ∧ ∀ p H', Ex H H' → H' p = some (.tup [.str (kS r.k), .str r.nm, .str (exT r.ns)]) → Q (.ref p) H'
theorem rT_len {r : Rwd} (wf : WfRw r) : (rT r).length ≤ 300 := by
  have h1 := kS_len r.k
  unfold rT
  cases hB : isB r.k with
  | true =>
    have hX := isB_X hB
    have h2 := (ex_run (wf.x hX)).2
    have h3 := okS_len (wf.b hB)
    rw [if_pos rfl, len_app, len_app, len_app, len_app, show (" " : Str).length = 1 by decide +kernel, show (" = " : Str).length = 3 by decide +kernel]
    omega
  | false =>
    rw [if_neg (by decide)]
    cases hX : isX r.k with
    | true =>
      have h2 := (ex_run (wf.x hX)).2
      rw [if_pos rfl, len_app, len_app, show (" " : Str).length = 1 by decide +kernel]
      omega
    | false => rw [if_neg (by decide)]; omega
theorem ok_parts_of (T : Tx0 w K mg A) : FnOk P w K mg base CX0 1 A.parts_of A.d_parts_of p_parts_of spParts := by
  refine T.F_parts_of.ok sc_parts_of (fun vs H Q E h => ?_) (fun cdv Ar outer s H vs Q E hr h => ?_)
  · obtain ⟨r, rfl, _⟩ := h
    rfl
  · obtain ⟨r, rfl, wf, hX, q⟩ := h
    refine ⟨_, (pss_cons (ps_asg (pe_partition (pv 0) pe_str) (pg_tup (n := 3) rfl (pgs_cons (pg_name (i := 1) sc_parts_of.nd rfl (Or.inl rfl)) (pgs_cons (pg_name (i := 2) sc_parts_of.nd rfl (Or.inl rfl)) (pgs_cons (pg_name (i := 3) sc_parts_of.nd rfl (Or.inl rfl)) pgs_nil)))))
      (pss_cons (ps_if (pt_cmpR op_in_seq (pv 1) (pe_glob (v := .ref A.BINDING) (by rfl) T.c_BINDING rfl) (by rfl)) (pss_cons (ps_asg (pe_partition (pv 3) pe_str) (pg_tup (n := 3) rfl (pgs_cons (pg_name (i := 4) sc_parts_of.nd rfl (Or.inl rfl)) (pgs_cons (pg_name (i := 2) sc_parts_of.nd rfl (Or.inl rfl)) (pgs_cons (pg_name (i := 5) sc_parts_of.nd rfl (Or.inl rfl)) pgs_nil)))))
        (pss_one (ps_ret (pe_tup (pa_cons (pv 1) (pa_cons (pv 4) (pa_cons (pv 5) pa_nil))))))) pss_nil)
      (pss_one (ps_ret (pe_tup (pa_cons (pv 1) (pa_cons pe_str (pa_cons (pv 3) pa_nil)))))))), ?_⟩
    have hl := rT_len wf
    have sp : tl (" " : Str) = 32 :: [] := by decide +kernel
    have sp3 : tl (" = " : Str) = 32 :: [61, 32] := by decide +kernel
    refine ⟨_, rfl, ⟨_, rfl⟩, _, _, rfl, rfl, by decide +kernel, sz_of (by omega), fun p hp => ?_⟩
    have bnd := k_binding r.k
    cases hB : isB r.k with
    | true =>
      have hpt : Txt.partition (rT r) " " = (kS r.k, (" " : Str), r.nm ++ " = " ++ exT r.ns) := by
        unfold rT
        rw [hB, if_pos rfl]
        exact partition_app sp (kS_plain r.k).1
      rw [hpt]
      refine ⟨p, _, rfl, SqT.of upd_same, rfl, _, _, rfl, _, _, rfl, _, _, rfl, rfl, ?_⟩
      have ep := Ex.new (o := .tup [.str (kS r.k), .str " ", .str (r.nm ++ " = " ++ exT r.ns)]) hp
      generalize upd H p (.tup [.str (kS r.k), .str " ", .str (r.nm ++ " = " ++ exT r.ns)]) = H1 at ep ⊢
      refine ⟨_, rfl, A.BINDING, k_BINDING, rfl, .inr (T.q_BINDING _), rfl, by decide, _, rfl, ?_⟩
      show if inV (.str (kS r.k)) k_BINDING = true then _ else _
      rw [bnd, hB]
      have h2 := (ex_run (wf.x hX)).2
      have h3 := okS_len (wf.b hB)
      refine iteT ⟨_, rfl, ⟨_, rfl⟩, _, _, rfl, rfl, by decide +kernel, sz_of (by rw [len_app, len_app, show (" = " : Str).length = 3 by decide +kernel]; omega), fun p2 hp2 => ?_⟩
      rw [partition_app sp3 (okS_sp (wf.b hB)).1]
      refine ⟨p2, _, rfl, SqT.of upd_same, rfl, _, _, rfl, _, _, rfl, _, _, rfl, rfl, ?_⟩
      have ep2 := Ex.new (o := .tup [.str r.nm, .str " = ", .str (exT r.ns)]) hp2
      exact ⟨_, rfl, _, rfl, _, rfl, sz_of (by show 3 ≤ 100000; decide), fun t ht => q t _ ((ep.trans ep2).trans (Ex.new ht)) upd_same⟩
    | false =>
      have hpt : Txt.partition (rT r) " " = (kS r.k, (" " : Str), exT r.ns) := by
        unfold rT
        rw [hB, hX, if_neg (by decide), if_pos rfl]
        exact partition_app sp (kS_plain r.k).1
      rw [hpt]
      refine ⟨p, _, rfl, SqT.of upd_same, rfl, _, _, rfl, _, _, rfl, _, _, rfl, rfl, ?_⟩
      have ep := Ex.new (o := .tup [.str (kS r.k), .str " ", .str (exT r.ns)]) hp
      generalize upd H p (.tup [.str (kS r.k), .str " ", .str (exT r.ns)]) = H1 at ep ⊢
      refine ⟨_, rfl, A.BINDING, k_BINDING, rfl, .inr (T.q_BINDING _), rfl, by decide, _, rfl, ?_⟩
      show if inV (.str (kS r.k)) k_BINDING = true then _ else _
      rw [bnd, hB]
      refine iteF ⟨_, rfl, _, rfl, sz_of (by show 3 ≤ 100000; decide), fun t ht => q t _ (ep.trans (Ex.new ht)) ?_⟩
      rw [upd_same, wf.nb hB]
def spRowInit (R C : Addr) : Sp := fun vs H Q _ => ∃ x dx r v, vs = [.ref x, .str (kS r.k), .str r.nm, v] ∧ H x = some (.ins R dx []) ∧ ExpV C H r v ∧ WfRw r ∧ ∀ H', Ex (L2.del H x) H' → H' x = some (.ins R dx (rowF r v)) → Q .non H'
theorem ok_row_init (T : Tx0 w K mg A) : FnOk P w K mg base CX0 5 A.row_init A.d_row_init p_row_init (spRowInit A.Row A.Expression) := by
  refine T.F_row_init.ok sc_row_init (fun vs H Q E h => ?_) (fun cdv Ar outer s H vs Q E hr h => ?_)
  · obtain ⟨x, dx, r, v, rfl, _⟩ := h
    rfl
  · obtain ⟨x, dx, r, v, rfl, hx, hv, wf, q⟩ := h
    refine ⟨_, (pss_cons (ps_if (pt_not (pt_val (pe_call (ok_is_row T) (hr.mono (by decide)) (by rfl) T.g_is_row T.F_is_row.kp T.b_is_row .nil pass0 (pa_cons (pv 1) (pa_cons (pv 2) (pa_cons (pv 3) pa_nil)))))) (pss_one ps_never) pss_nil)
      (pss_cons (ps_fld (pv 0) (pv 1) rfl)
      (pss_cons (ps_fld (pv 0) (pv 2) rfl)
      (pss_one (ps_fld (pv 0) (pv 3) rfl))))), ?_⟩
    refine ⟨_, rfl, _, rfl, _, rfl, r, v, rfl, hv, wf, fun H1 e1 => ⟨_, rfl, iteF ?_⟩⟩
    have hx1 := e1 _ _ hx
    refine ⟨_, rfl, _, rfl, x, _, dx, _, rfl, hx1, T.cl_Row, T.na_Row_kind, by decide, ?_⟩
    refine ⟨_, rfl, _, rfl, x, _, dx, _, rfl, upd_same, T.cl_Row, T.na_Row_name, by show 1 < 1000; decide, ?_⟩
    refine ⟨_, rfl, _, rfl, x, _, dx, _, rfl, upd_same, T.cl_Row, T.na_Row_expression, by show 2 < 1000; decide, ?_⟩
    exact q _ (ex_del e1 fun b o n hb => by rw [upd_ne n, upd_ne n, upd_ne n]; exact hb) upd_same
def spRowText (R C : Addr) : Sp := fun vs H Q _ => ∃ a r, vs = [.ref a] ∧ RwAt R C H a r ∧ WfRw r ∧ ∀ H', Ex H H' → Q (.str (rT r)) H'
theorem ok_row_text (T : Tx0 w K mg A) : FnOk P w K mg base CX0 10 A.row_text A.d_row_text p_row_text (spRowText A.Row A.Expression) := by
  refine T.F_row_text.ok sc_row_text (fun vs H Q E h => ?_) (fun cdv Ar outer s H vs Q E hr h => ?_)
  · obtain ⟨a, r, rfl, _⟩ := h
    rfl
  · obtain ⟨a, r, rfl, ha, wf, q⟩ := h
    refine ⟨_, (pss_cons (ps_if (pt_cmpR op_in_seq (pe_fld (pv 0) rfl) (pe_glob (v := .ref A.BARE) (by rfl) T.c_BARE rfl) (by rfl)) (pss_one (ps_ret (pe_fld (pv 0) rfl))) pss_nil)
      (pss_cons (ps_set (i := 1) sc_row_text.nd rfl (Or.inl rfl) (pe_meth0 (pe_fld (pv 0) rfl) T.cl_Expression T.e_ex_text (ok_ex_text T) (hr.mono (by decide)) T.b_ex_text .nil pass0))
      (pss_one (ps_ret (pe_ifExp (pt_cmpR op_in_seq (pe_fld (pv 0) rfl) (pe_glob (v := .ref A.BINDING) (by rfl) T.c_BINDING rfl) (by rfl)) (pe_joined (.cons (pe_fmt (pe_fld (pv 0) rfl)) (.cons pe_str (.cons (pe_fmt (pe_fld (pv 0) rfl)) (.cons pe_str (.cons (pe_fmt (pv 1)) .nil)))))) (pe_joined (.cons (pe_fmt (pe_fld (pv 0) rfl)) (.cons pe_str (.cons (pe_fmt (pv 1)) .nil))))))))), ?_⟩
    obtain ⟨dx, v, h1, hv⟩ := ha
    have hkl := kS_len r.k
    refine ⟨_, rfl, a, _, dx, _, _, rfl, h1, T.cl_Row, T.na_Row_kind, f_kind r v, A.BARE, k_BARE, rfl, .inr (T.q_BARE _), rfl, by decide, _, rfl, ?_⟩
    show if inV (.str (kS r.k)) k_BARE = true then _ else _
    rw [k_bare]
    cases hX : isX r.k with
    | true =>
      unfold ExpV at hv
      rw [if_pos hX] at hv
      obtain ⟨x, rfl, hx⟩ := hv
      obtain ⟨dx', t', f', as', hx1, _⟩ := id hx
      refine iteF ⟨_, rfl, a, _, dx, _, _, rfl, h1, T.cl_Row, T.na_Row_expression, f_rexp _ _, x, dx', _, rfl, hx1, rfl, x, r.ns, rfl, hx, wf.x hX, fun H' e' => ?_⟩
      have h1' := e' _ _ h1
      have hel := (ex_run (wf.x hX)).2
      have k2 := q H' e'
      have hl := rT_len wf
      refine ⟨_, rfl, a, _, dx, _, _, rfl, h1', T.cl_Row, T.na_Row_kind, f_kind _ _, A.BINDING, k_BINDING, rfl, .inr (T.q_BINDING _), rfl, by decide, _, rfl, ?_⟩
      show if inV (.str (kS r.k)) k_BINDING = true then _ else _
      rw [k_binding]
      have se : tl Str.empty = [] := by decide +kernel
      have hexl : (ofL (tx r.ns (r.ns.length - 1))).length = (exT r.ns).length := rfl
      have hsz : ∀ z : Str, z.length ≤ 300 → z.length ≤ sizeLine := fun z hz => sz_of (by omega)
      cases hB : isB r.k with
      | true =>
        have h3 := okS_len (wf.b hB)
        have hst : rT r = Str.empty ++ kS r.k ++ " " ++ r.nm ++ " = " ++ exT r.ns := by
          unfold rT
          rw [hB, if_pos rfl]
          exact ext_tl (by simp only [tl_append, se, List.nil_append, List.append_assoc])
        rw [hst] at k2 hl
        rw [len_app, len_app, len_app, len_app, len_app] at hl
        refine iteT ⟨_, rfl, a, _, dx, _, _, rfl, h1', T.cl_Row, T.na_Row_kind, f_kind _ _, .inl ⟨_, rfl, hsz _ (by omega), _, rfl, hsz _ (by rw [len_app]; omega), _, rfl, hsz _ (by rw [len_app, len_app]; omega), _, rfl, a, _, dx, _, _, rfl, h1', T.cl_Row, T.na_Row_name, f_rname _ _, .inl ⟨_, rfl, hsz _ (by omega), _, rfl, hsz _ (by rw [len_app, len_app, len_app]; omega), _, rfl, hsz _ (by rw [len_app, len_app, len_app, len_app]; omega), _, rfl, .inl ⟨_, rfl, hsz _ (by omega), _, rfl, hsz _ (by rw [len_app, len_app, len_app, len_app, len_app]; omega), k2⟩⟩⟩⟩
      | false =>
        have hst : rT r = Str.empty ++ kS r.k ++ " " ++ exT r.ns := by
          unfold rT
          rw [hB, hX, if_neg (by decide), if_pos rfl]
          exact ext_tl (by simp only [tl_append, se, List.nil_append, List.append_assoc])
        rw [hst] at k2 hl
        rw [len_app, len_app, len_app] at hl
        refine iteF ⟨_, rfl, a, _, dx, _, _, rfl, h1', T.cl_Row, T.na_Row_kind, f_kind _ _, .inl ⟨_, rfl, hsz _ (by omega), _, rfl, hsz _ (by rw [len_app]; omega), _, rfl, hsz _ (by rw [len_app, len_app]; omega), _, rfl, .inl ⟨_, rfl, hsz _ (by show (exT r.ns).length ≤ 300; omega), _, rfl, hsz _ (by rw [len_app, len_app, len_app]; omega), k2⟩⟩⟩
    | false =>
      refine iteT ⟨_, rfl, a, _, dx, _, _, rfl, h1, T.cl_Row, T.na_Row_kind, f_kind r v, ?_⟩
      have k2 := q H (Ex.refl H)
      have hB : isB r.k = false := by
        cases hB : isB r.k with
        | false => rfl
        | true => rw [isB_X hB] at hX; cases hX
      unfold rT at k2
      rw [hB, hX, if_neg (by decide), if_neg (by decide)] at k2
      exact k2
def spRowRead (R C : Addr) : Sp := fun vs H Q _ => ∃ r, vs = [.str (rT r)] ∧ WfRw r ∧ ∀ a H', H a = none → Ex H H' → RwAt R C H' a r → Q (.ref a) H'
theorem rT_bare {r : Rwd} (wf : WfRw r) : inV (.str (rT r)) k_BARE = !isX r.k := by
  cases hX : isX r.k with
  | false =>
    have hB : isB r.k = false := by
      cases hB : isB r.k with
      | false => rfl
      | true => rw [isB_X hB] at hX; cases hX
    unfold rT
    rw [hB, hX, if_neg (by decide), if_neg (by decide), k_bare, hX]
  | true =>
    have h32 : 32 ∈ tl (rT r) := by
      unfold rT
      have e1 : tl (" " : Str) = [32] := by decide +kernel
      cases hB : isB r.k with
      | true =>
        rw [if_pos rfl, tl_append, tl_append, e1]
        simp
      | false =>
        rw [hX, if_neg (by decide), if_pos rfl, tl_append, tl_append, e1]
        simp
    have ne : ∀ w : Str, 32 ∉ tl w → rT r ≠ w := fun w hw e => hw (e ▸ h32)
    show inV (.str (rT r)) k_BARE = false
    unfold inV
    rw [List.any_eq_false]
    have key : ∀ w : Str, 32 ∉ tl w → ¬ eqV (V.str w) (V.str (rT r)) = true := fun w hw z => ne w hw (of_decide_eq_true z).symm
    intro v hv
    unfold k_BARE at hv
    simp only [List.mem_cons, List.not_mem_nil, or_false] at hv
    rcases hv with rfl | rfl | rfl | rfl | rfl <;> exact key _ (by decide +kernel)
theorem ok_row_read (T : Tx0 w K mg A) : FnOk P w K mg base CX0 9 A.row_read A.d_row_read p_row_read (spRowRead A.Row A.Expression) := by
  refine T.F_row_read.ok sc_row_read (fun vs H Q E h => ?_) (fun cdv Ar outer s H vs Q E hr h => ?_)
  · obtain ⟨r, rfl, _⟩ := h
    rfl
  · obtain ⟨r, rfl, wf, q⟩ := h
    obtain ⟨ds, v0_row_init_1, b0_row_init_1⟩ := T.F_row_init.binds0 (ps := p_row_init) 2 (by simp) rfl (fun D doc pm an cdv ct us ks h1 h2 => by
      match us, h1, ks, h2 with
      | [_, _], _, [_, _], _ => exact ⟨_, _, _, _, _, _, rfl, rfl, _, _, _, _, _, _, rfl, rfl, rfl⟩)
    obtain ⟨mv, kb_row_init_1⟩ := T.F_row_init.kbinds0 (ps := p_row_init) 2 ["name", "expression"] [] (fun us _ ws => us ++ ws) (by simp) (fun q h => (nomatch h)) (fun a _ c => a.append c) (fun D doc pm an cdv ct us mv ws h1 h2 h3 => by
      match us, h1, mv, h2, ws, h3 with
      | [_, _], _, [], _, [_, _], _ => exact rfl)
    refine ⟨_, (pss_cons (ps_if (pt_cmpR op_in_seq (pv 0) (pe_glob (v := .ref A.BARE) (by rfl) T.c_BARE rfl) (by rfl)) (pss_one (ps_ret (pe_make T.mk_Row (ok_row_init T) (hr.mono (by decide)) (by rfl) T.g_Row b0_row_init_1 v0_row_init_1 pass0 (pa_cons (pv 0) pa_nil)))) pss_nil)
      (pss_cons (ps_asg (pe_call (ok_parts_of T) (hr.mono (by decide)) (by rfl) T.g_parts_of T.F_parts_of.kp T.b_parts_of .nil pass0 (pa_cons (pv 0) pa_nil)) (pg_tup (n := 3) rfl (pgs_cons (pg_name (i := 1) sc_row_read.nd rfl (Or.inl rfl)) (pgs_cons (pg_name (i := 2) sc_row_read.nd rfl (Or.inl rfl)) (pgs_cons (pg_name (i := 3) sc_row_read.nd rfl (Or.inl rfl)) pgs_nil)))))
      (pss_cons (ps_if (PW.pt (pw_and (pt_cmpR op_ne (pv 1) pe_str (nomark _)) (pw_and1 (pt_not (PW.pt (pw_and (pt_cmpR op_in_seq (pv 1) (pe_glob (v := .ref A.BINDING) (by rfl) T.c_BINDING rfl) (by rfl)) (pw_and1 (pt_val (pe_call (ok_is_name T) (hr.mono (by decide)) (by rfl) T.g_is_name T.F_is_name.kp T.b_is_name .nil pass0 (pa_cons (pv 2) pa_nil)))))))))) (pss_one ps_never) pss_nil)
      (pss_cons (ps_try_thru0 (pss_one (ps_set (i := 4) sc_row_read.nd rfl (Or.inl rfl) (ClX.pe_cmeth (pe_glob (v := .ref A.Expression) (by rfl) T.g_Expression rfl) T.cr_Expression T.cm_ex_read ((ok_ex_read T).raw T.b_ex_read .nil) (hr.mono (by decide)) pass0 (pa_cons (pv 3) pa_nil)))))
      (pss_one (ps_ret (pe_makeK (n := 1) T.mk_Row (ok_row_init T) (hr.mono (by decide)) (by rfl) T.g_Row kb_row_init_1 pass0 (pa_cons (pv 1) pa_nil) (pk_cons (pv 2) (pk_cons (pv 4) pk_nil))))))))), ?_⟩
    refine ⟨_, rfl, A.BARE, k_BARE, rfl, .inr (T.q_BARE _), rfl, by decide, _, rfl, ?_⟩
    show if inV (.str (rT r)) k_BARE = true then _ else _
    rw [rT_bare wf]
    cases hX : isX r.k with
    | true =>
      have hrun := ex_run (wf.x hX)
      refine iteF ⟨_, rfl, r, rfl, wf, hX, fun p H1 e1 hp => ?_⟩
      refine ⟨p, _, rfl, SqT.of hp, rfl, _, _, rfl, _, _, rfl, _, _, rfl, rfl, ?_⟩
      have fin : ∀ H2, Ex H H2 → (tSeq (tAsg (ClX.tCMeth A.Expression (fun vs H Q E => spRead A.Expression (vs ++ []) H Q E) E0 (tC (V.ref A.Expression)) (tCons (tVar 3) tNil)) (gName 4)) (tRet (tMakeK A.Row 1 ["name", "expression"].length (spRowInit A.Row A.Expression) (fun vs zs => vs ++ zs) E0 (tCons (tVar 1) tNil) (tCons (tVar 2) (tCons (tVar 4) tNil))))) { nx := fun x H' => Q V.non H', rt := Q } [some (.str (rT r)), some (.str (kS r.k)), some (.str r.nm), some (.str (exT r.ns)), none] H2 := fun H2 e2 => by
        refine ⟨rfl, _, rfl, exT r.ns, r.ns, rfl, by have := hrun.2; omega, hrun.1, (wf.x hX).le, fun x H3 e3 hx => ?_⟩
        have hv : ∀ H', Ex H3 H' → ExpV A.Expression H' r (.ref x) := fun H' e' => by
          unfold ExpV
          rw [if_pos hX]
          exact ⟨x, rfl, hx.mono e'⟩
        refine ⟨_, rfl, _, rfl, _, rfl, rfl, rfl, fun a da ha hda ne => ⟨a, da, r, .ref x, rfl, upd_same, hv _ (fun b o hb => made_in ha hda b o hb), wf, fun H' e' h' => ⟨rfl, ?_⟩⟩⟩
        have e3' := made_ex ha hda e'
        exact q a H' (fresh_back (e2.trans e3) ha) ((e2.trans e3).trans e3') ⟨da, _, h', hv _ e3'⟩
      refine ⟨_, rfl, rfl, _, rfl, ?_⟩
      cases hB : isB r.k with
      | true =>
        have hne : r.k ≠ .use := fun z => by rw [z] at hB; cases hB
        refine ite2 (fun _ => ?_) (fun z => absurd (show (!decide (V.str (kS r.k) = V.str (kS .use))) = true by rw [decide_eq_false (fun y => hne (kS_inj (V.str.inj y)))]; rfl) z)
        refine ⟨_, rfl, A.BINDING, k_BINDING, rfl, .inr (T.q_BINDING _), rfl, by decide, _, rfl, ?_⟩
        show if inV (.str (kS r.k)) k_BINDING = true then _ else _
        rw [k_binding, hB]
        refine iteT ⟨_, rfl, .str r.nm, rfl, .inl ⟨_, rfl, Nat.le_trans (okS_len (wf.b hB)) (by decide)⟩, fun H2 e2 => ?_⟩
        rw [show nm (.str r.nm) = true from wf.b hB]
        exact ⟨_, rfl, iteF (fin H2 (e1.trans e2))⟩
      | false =>
        have hu : r.k = .use := by
          revert hB hX
          cases r.k <;> decide
        exact ite2 (fun z => absurd z (by rw [hu, decide_eq_true (show V.str (kS .use) = V.str "use" from rfl)]; exact Bool.noConfusion)) (fun _ => fin H1 e1)
    | false =>
      have hB : isB r.k = false := by
        cases hB : isB r.k with
        | false => rfl
        | true => rw [isB_X hB] at hX; cases hX
      have hT : rT r = kS r.k := by
        unfold rT
        rw [hB, hX, if_neg (by decide), if_neg (by decide)]
      have hv : ExpV A.Expression H r .non := by
        unfold ExpV
        rw [hX]
        rfl
      refine iteT ⟨_, rfl, fun a da ha hda ne => ⟨a, da, r, .non, ?_, upd_same, ?_, wf, fun H' e' h' => ⟨rfl, q a H' ha (made_ex ha hda e') ⟨da, _, h', ?_⟩⟩⟩⟩
      · rw [hT, wf.nb hB]
        rfl
      · unfold ExpV
        rw [hX]
        rfl
      · unfold ExpV
        rw [hX]
        rfl
end
end K24

set_option Elab.async false
set_option linter.all false
set_option maxRecDepth 100000
namespace K24
open PySem PySem.Spec PyProof.Rows L2 Evl TL UL StX
section
variable {P : Program} {w : World} {K : PySem.W.Frag} {mg : Str → Option Value} {base : Heap} {A : Adr}
/-! ### blocks, as numbers -/
def isClo : Kd → Bool
  | .els => true
  | .fin => true
  | _ => false
def isOpn : Kd → Bool
  | .blk => true
  | .iff => true
  | .lop => true
  | .els => true
  | _ => false
def isDeep : Kd → Bool
  | .blk => true
  | .iff => true
  | .lop => true
  | _ => false
structure Bk where
  S : List (Nat × Kd)
  E : List (Nat × Nat)
  A : List (List Nat)
def opnL (S : List (Nat × Kd)) : List Nat := 0 :: (S.map (·.1)).reverse
def endE (S : List (Nat × Kd)) (n : Nat) : List (Nat × Nat) := match S with
  | (o, _) :: _ => [(o, n)]
  | [] => []
def stepB (n : Nat) (b : Bk) (k : Kd) : Bk :=
  ⟨(if isOpn k then [(n, k)] else []) ++ (if isClo k then b.S.tail else b.S), b.E ++ (if isClo k then endE b.S n else []), b.A ++ [opnL b.S]⟩
def goB : Nat → Bk → List Kd → Bk
  | _, b, [] => b
  | n, b, k :: r => goB (n + 1) (stepB n b k) r
theorem goB_snoc (ks : List Kd) (k : Kd) : ∀ (n : Nat) (b : Bk), goB n b (ks ++ [k]) = stepB (n + ks.length) (goB n b ks) k := by
  induction ks with
  | nil => intro n b; rfl
  | cons x r ih =>
    intro n b
    show goB (n + 1) (stepB n b x) (r ++ [k]) = _
    rw [ih]
    show stepB (n + 1 + r.length) (goB n b (x :: r)) k = stepB (n + (r.length + 1)) (goB n b (x :: r)) k
    rw [show n + 1 + r.length = n + (r.length + 1) by omega]
def bk0 : Bk := ⟨[], [], []⟩
def bkAt (ks : List Kd) (i : Nat) : Bk := goB 1 bk0 (ks.take i)
theorem bk_succ {ks : List Kd} {i : Nat} {k : Kd} (h : ks[i]? = some k) : bkAt ks (i + 1) = stepB (i + 1) (bkAt ks i) k := by
  unfold bkAt
  have hl := (List.getElem?_eq_some_iff.mp h).1
  rw [List.take_add_one, h]
  show goB 1 bk0 (ks.take i ++ [k]) = _
  rw [goB_snoc, List.length_take, Nat.min_eq_left (by omega), Nat.add_comm]
structure OkS (S : List (Nat × Kd)) (k : Kd) : Prop where
  deep : isDeep k = true → S.length ≤ 6
  els : k = .els → ∃ o r, S = (o, .iff) :: r
  fin : k = .fin → S ≠ []
theorem OkS.clo {S : List (Nat × Kd)} {k : Kd} (h : OkS S k) (hc : isClo k = true) : ∃ o okd r, S = (o, okd) :: r ∧ (k = .els → okd = .iff) := by
  cases k with
  | els => obtain ⟨o, r, e⟩ := h.els rfl; exact ⟨o, .iff, r, e, fun _ => rfl⟩
  | fin =>
    match S, h.fin rfl with
    | (o, okd) :: r, _ => exact ⟨o, okd, r, rfl, fun e => by cases e⟩
  | _ => cases hc
structure Bal (ks : List Kd) : Prop where
  ok : ∀ (i : Nat) (k : Kd), ks[i]? = some k → OkS (bkAt ks i).S k
  fin : (bkAt ks ks.length).S = []
  len : ks.length ≤ 48
/-- what holds behind i rows -/
structure BI (ks : List Kd) (i : Nat) (b : Bk) : Prop where
  sk : ∀ o kd, (o, kd) ∈ b.S → 1 ≤ o ∧ o ≤ i ∧ ks[o - 1]? = some kd ∧ isOpn kd = true
  sn : (b.S.map (·.1)).Nodup
  ek : ∀ o e, (o, e) ∈ b.E → 1 ≤ o ∧ o < e ∧ e ≤ i
  en : (b.E.map (·.1)).Nodup
  es : ∀ o kd e, (o, kd) ∈ b.S → (o, e) ∉ b.E
  op : ∀ (k : Nat) (kd : Kd), 1 ≤ k → k ≤ i → ks[k - 1]? = some kd → isOpn kd = true → (k, kd) ∈ b.S ∨ ∃ e, (k, e) ∈ b.E
  al : b.A.length = i
  aa : ∀ j, j < i → b.A[j]? = some (opnL (bkAt ks j).S)
theorem bi_zero (ks : List Kd) : BI ks 0 (bkAt ks 0) := by
  have e : bkAt ks 0 = bk0 := rfl
  rw [e]
  exact ⟨(fun o kd h => by cases h), List.nodup_nil, (fun o e h => by cases h), List.nodup_nil, (fun o kd e h => by cases h), (fun k kd h1 h2 => by omega), rfl, (fun j h => by omega)⟩
theorem bi_step {ks : List Kd} {i : Nat} {k : Kd} (h : ks[i]? = some k) (hi : BI ks i (bkAt ks i)) (ok : OkS (bkAt ks i).S k) : BI ks (i + 1) (bkAt ks (i + 1)) := by
  rw [bk_succ h]
  obtain ⟨b, hb⟩ : ∃ b, b = bkAt ks i := ⟨_, rfl⟩
  rw [← hb] at hi ok ⊢
  have hA : (stepB (i + 1) b k).A = b.A ++ [opnL b.S] := rfl
  have al : (stepB (i + 1) b k).A.length = i + 1 := by rw [hA, List.length_append, hi.al]; rfl
  have aa : ∀ j, j < i + 1 → (stepB (i + 1) b k).A[j]? = some (opnL (bkAt ks j).S) := fun j hj => by
    rw [hA]
    by_cases e : j = i
    · subst e
      rw [List.getElem?_append_right (by rw [hi.al]; exact Nat.le_refl _), hi.al, Nat.sub_self, hb]
      rfl
    · rw [List.getElem?_append_left (by rw [hi.al]; omega)]
      exact hi.aa j (by omega)
  have new : ∀ kd, (i + 1, kd) ∉ b.S := fun kd hm => by have := (hi.sk _ _ hm).2.1; omega
  have newE : ∀ e, (i + 1, e) ∉ b.E := fun e hm => by have := hi.ek _ _ hm; omega
  -- the stack without what is closed, the enders with it
  obtain ⟨S1, E1, hS, hE, k1, k2, k3, k4, k5, k6⟩ : ∃ S1 E1, (stepB (i + 1) b k).S = (if isOpn k then [(i + 1, k)] else []) ++ S1 ∧ (stepB (i + 1) b k).E = E1 ∧ (∀ x ∈ S1, x ∈ b.S) ∧ (S1.map (·.1)).Nodup ∧ (∀ o e, (o, e) ∈ E1 → 1 ≤ o ∧ o < e ∧ e ≤ i + 1 ∧ o ≠ i + 1) ∧ (E1.map (·.1)).Nodup ∧ (∀ o kd e, (o, kd) ∈ S1 → (o, e) ∉ E1) ∧ (∀ o kd, (o, kd) ∈ b.S → (o, kd) ∈ S1 ∨ ∃ e, (o, e) ∈ E1) ∧ (∀ x ∈ b.E, x ∈ E1) := by
    cases hc : isClo k with
    | false =>
      refine ⟨b.S, b.E, by show _ ++ (if isClo k then _ else _) = _; rw [hc]; rfl, by show b.E ++ (if isClo k then _ else _) = _; rw [hc]; exact List.append_nil _, fun x hx => hx, hi.sn, fun o e hm => ?_, hi.en, hi.es, fun o kd hm => .inl hm, fun x hx => hx⟩
      have := hi.ek o e hm
      omega
    | true =>
      obtain ⟨o, okd, r, e, _⟩ := ok.clo hc
      have hsn := hi.sn
      rw [e, List.map_cons, List.nodup_cons] at hsn
      have hom : (o, okd) ∈ b.S := by rw [e]; exact List.mem_cons_self
      have ho := hi.sk o okd hom
      have hoE : ∀ e', (o, e') ∉ b.E := fun e' => hi.es o okd e' hom
      refine ⟨r, b.E ++ [(o, i + 1)], by show _ ++ (if isClo k then b.S.tail else _) = _; rw [hc, e]; rfl, by show b.E ++ (if isClo k then endE b.S _ else _) = _; rw [hc, e]; rfl, fun x hx => by rw [e]; exact List.mem_cons_of_mem _ hx, hsn.2, fun o' e' hm => ?_, ?_, fun o' kd e' h1 h2 => ?_, fun o' kd hm => ?_, fun x hx => List.mem_append_left _ hx⟩
      · rcases List.mem_append.mp hm with hm | hm
        · have := hi.ek o' e' hm
          omega
        · cases List.mem_singleton.mp hm
          omega
      · rw [List.map_append, List.nodup_append]
        refine ⟨hi.en, by simp, fun a ha b' hb' e' => ?_⟩
        obtain ⟨⟨x, y⟩, hm, rfl⟩ := List.mem_map.mp ha
        have hb' : b' = o := List.mem_singleton.mp hb'
        have e' : x = b' := e'
        rw [e', hb'] at hm
        exact hoE y hm
      · have h1' : (o', kd) ∈ b.S := by rw [e]; exact List.mem_cons_of_mem _ h1
        rcases List.mem_append.mp h2 with h2 | h2
        · exact hi.es _ _ _ h1' h2
        · cases List.mem_singleton.mp h2
          exact hsn.1 (List.mem_map.mpr ⟨(o, kd), h1, rfl⟩)
      · rw [e] at hm
        rcases List.mem_cons.mp hm with hm | hm
        · cases hm
          exact .inr ⟨i + 1, List.mem_append_right _ (List.mem_singleton.mpr rfl)⟩
        · exact .inl hm
  obtain ⟨k6, k7⟩ := k6
  have inS : ∀ o kd, (o, kd) ∈ (stepB (i + 1) b k).S → (o = i + 1 ∧ kd = k ∧ isOpn k = true) ∨ (o, kd) ∈ S1 := fun o kd hm => by
    rw [hS] at hm
    rcases List.mem_append.mp hm with hm | hm
    · cases hk : isOpn k with
      | false => rw [hk] at hm; cases hm
      | true =>
        rw [hk] at hm
        cases List.mem_singleton.mp hm
        exact .inl ⟨rfl, rfl, rfl⟩
    · exact .inr hm
  refine ⟨fun o kd hm => ?_, ?_, fun o e hm => ?_, by rw [hE]; exact k4, fun o kd e h1 h2 => ?_, fun k' kd h1 h2 h3 h4 => ?_, al, aa⟩
  · rcases inS o kd hm with ⟨rfl, rfl, h4⟩ | hm
    · exact ⟨by omega, Nat.le_refl _, h, h4⟩
    · obtain ⟨h1, h2, h3, h4⟩ := hi.sk o kd (k1 _ hm)
      exact ⟨h1, by omega, h3, h4⟩
  · rw [hS, List.map_append]
    cases hk : isOpn k with
    | false => exact k2
    | true =>
      show ((i + 1) :: S1.map (·.1)).Nodup
      rw [List.nodup_cons]
      refine ⟨fun hm => ?_, k2⟩
      obtain ⟨⟨x, y⟩, hm, e⟩ := List.mem_map.mp hm
      have e : x = i + 1 := e
      rw [e] at hm
      exact new y (k1 _ hm)
  · rw [hE] at hm
    have := k3 o e hm
    omega
  · rw [hE] at h2
    rcases inS o kd h1 with ⟨rfl, _, _⟩ | h1
    · exact (k3 _ _ h2).2.2.2 rfl
    · exact k5 _ _ _ h1 h2
  · by_cases e : k' = i + 1
    · subst e
      rw [show i + 1 - 1 = i by omega, h] at h3
      cases h3
      refine .inl ?_
      rw [hS, h4]
      exact List.mem_cons_self
    · rcases hi.op k' kd h1 (by omega) h3 h4 with hm | ⟨e', hm⟩
      · rcases k6 _ _ hm with hm | hm
        · exact .inl (by rw [hS]; exact List.mem_append_right _ hm)
        · exact .inr (by rw [hE]; exact hm)
      · exact .inr ⟨e', by rw [hE]; exact k7 _ hm⟩
theorem bi_at {ks : List Kd} (ok : ∀ (i : Nat) (k : Kd), ks[i]? = some k → OkS (bkAt ks i).S k) : ∀ i, i ≤ ks.length → BI ks i (bkAt ks i)
  | 0, _ => bi_zero ks
  | i + 1, hi => by
    have h : ks[i]? = some ks[i] := List.getElem?_eq_getElem (by omega)
    exact bi_step h (bi_at ok i (by omega)) (ok i _ h)
theorem E_mono {ks : List Kd} {x : Nat × Nat} {i : Nat} : ∀ j, i ≤ j → j ≤ ks.length → x ∈ (bkAt ks i).E → x ∈ (bkAt ks j).E
  | 0, h, _, hx => by rw [show i = 0 by omega] at hx; exact hx
  | j + 1, h, hj, hx => by
    by_cases e : i = j + 1
    · rw [← e]; exact hx
    · have hk : ks[j]? = some ks[j] := List.getElem?_eq_getElem (by omega)
      rw [bk_succ hk]
      exact List.mem_append_left _ (E_mono j (by omega) (by omega) hx)
theorem lookup_mem {κ : Type} [BEq κ] [LawfulBEq κ] {β : Type} {l : List (κ × β)} {k : κ} {v : β} (nd : (l.map (·.1)).Nodup) (h : (k, v) ∈ l) : l.lookup k = some v := by
  induction l with
  | nil => cases h
  | cons x r ih =>
    rw [List.map_cons, List.nodup_cons] at nd
    obtain ⟨x1, x2⟩ := x
    rcases List.mem_cons.mp h with h | h
    · cases h
      exact List.lookup_cons_self
    · have ne : (k == x1) = false := by
        simpa using fun z : k = x1 => nd.1 (z ▸ List.mem_map.mpr ⟨_, h, rfl⟩)
      rw [List.lookup_cons, ne]
      exact ih nd.2 h
/-! ### the next places -/
def enD (ks : List Kd) (k : Nat) : Nat := ((bkAt ks ks.length).E.lookup k).getD 0
def aft (ks : List Kd) (k : Nat) : List Nat := match ks[k - 1]? with
  | some .iff => [k + 1, enD ks k + 1]
  | some .lop => [k + 1, enD ks k + 1]
  | some .els => [enD ks k + 1]
  | some .fin => (match (bkAt ks (k - 1)).S with
    | (o, .lop) :: _ => [o]
    | _ => [k + 1])
  | some _ => [k + 1]
  | none => []
theorem en_of {ks : List Kd} (b : Bal ks) {o e : Nat} (h : (o, e) ∈ (bkAt ks ks.length).E) : enD ks o = e := by
  unfold enD
  rw [lookup_mem (bi_at b.ok _ (Nat.le_refl _)).en h]
  rfl
def stepN (k : Nat) (S : List (Nat × Kd)) (kd : Kd) (NL : List (List Nat)) : List (List Nat) := if isClo kd then (match S with
  | (o, okd) :: _ =>
    let N1 := if okd = .iff ∨ okd = .lop then NL.set o [o + 1, k + 1] else NL
    let N2 := if okd = .els then N1.set o [k + 1] else N1
    if okd = .lop then N2.set k [o] else N2
  | [] => NL) else NL
structure NI (ks : List Kd) (i : Nat) (NL : List (List Nat)) : Prop where
  len : NL.length = ks.length + 2
  opn : ∀ k, 1 ≤ k → k ≤ ks.length → ((∃ kd, (k, kd) ∈ (bkAt ks i).S) ∨ i < k) → NL[k]? = some [k + 1]
  don : ∀ k, 1 ≤ k → k ≤ i → (∀ kd, (k, kd) ∉ (bkAt ks i).S) → NL[k]? = some (aft ks k)
  end_ : NL[ks.length + 1]? = some []
def NL0 (n : Nat) : List (List Nat) := ((List.range (n + 1)).map fun k => [k + 1]) ++ [[]]
theorem ni_zero (ks : List Kd) : NI ks 0 (NL0 ks.length) := by
  refine ⟨by simp [NL0], fun k h1 h2 _ => ?_, fun k h1 h2 => by omega, ?_⟩
  · unfold NL0
    rw [List.getElem?_append_left (by simp; omega), List.getElem?_map, List.getElem?_range (by omega)]
    rfl
  · unfold NL0
    rw [List.getElem?_append_right (by simp)]
    simp
theorem ni_step {ks : List Kd} (b : Bal ks) {i : Nat} {kd : Kd} {NL : List (List Nat)} (h : ks[i]? = some kd) (hn : NI ks i NL) : NI ks (i + 1) (stepN (i + 1) (bkAt ks i).S kd NL) := by
  have hil := (List.getElem?_eq_some_iff.mp h).1
  have hi := bi_at b.ok i (by omega)
  have hi1 := bi_at b.ok (i + 1) (by omega)
  have ok := b.ok i kd h
  have hs := bk_succ h
  have hk1 : ks[i + 1 - 1]? = some kd := by rw [show i + 1 - 1 = i by omega]; exact h
  cases hc : isClo kd with
  | false =>
    have e1 : stepN (i + 1) (bkAt ks i).S kd NL = NL := by unfold stepN; rw [hc]; rfl
    have e2 : (bkAt ks (i + 1)).S = (if isOpn kd then [(i + 1, kd)] else []) ++ (bkAt ks i).S := by
      rw [hs]
      show _ ++ (if isClo kd then _ else _) = _
      rw [hc]
      rfl
    rw [e1]
    refine ⟨hn.len, fun k h1 h2 h3 => ?_, fun k h1 h2 h3 => ?_, hn.end_⟩
    · refine hn.opn k h1 h2 ?_
      rcases h3 with ⟨kd', h3⟩ | h3
      · rw [e2] at h3
        rcases List.mem_append.mp h3 with h3 | h3
        · cases ho : isOpn kd with
          | false => rw [ho] at h3; cases h3
          | true =>
            rw [ho] at h3
            cases List.mem_singleton.mp h3
            exact .inr (by omega)
        · exact .inl ⟨kd', h3⟩
      · exact .inr (by omega)
    · by_cases e : k = i + 1
      · subst e
        have ho : isOpn kd = false := by
          cases ho : isOpn kd with
          | false => rfl
          | true =>
            refine absurd ?_ (h3 kd)
            rw [e2, ho]
            exact List.mem_cons_self
        rw [hn.opn (i + 1) h1 (by omega) (.inr (by omega))]
        unfold aft
        rw [hk1]
        cases kd <;> first | rfl | exact absurd ho (by decide) | exact absurd hc (by decide)
      · exact hn.don k h1 (by omega) fun kd' hm => h3 kd' (by rw [e2]; exact List.mem_append_right _ hm)
  | true =>
    obtain ⟨o, okd, r, e, hel⟩ := ok.clo hc
    have hom : (o, okd) ∈ (bkAt ks i).S := by rw [e]; exact List.mem_cons_self
    obtain ⟨o1, o2, o3, o4⟩ := hi.sk o okd hom
    have e2 : (bkAt ks (i + 1)).S = (if isOpn kd then [(i + 1, kd)] else []) ++ r := by
      rw [hs]
      show _ ++ (if isClo kd then (bkAt ks i).S.tail else _) = _
      rw [hc, e]
      rfl
    have hE : (o, i + 1) ∈ (bkAt ks (i + 1)).E := by
      rw [hs]
      show _ ∈ (bkAt ks i).E ++ (if isClo kd then endE (bkAt ks i).S _ else _)
      rw [hc, e]
      exact List.mem_append_right _ (List.mem_singleton.mpr rfl)
    have hen : enD ks o = i + 1 := en_of b (E_mono ks.length (by omega) (Nat.le_refl _) hE)
    have hsn := hi.sn
    rw [e, List.map_cons, List.nodup_cons] at hsn
    have hor : ∀ kd', (o, kd') ∉ r := fun kd' hm => hsn.1 (List.mem_map.mpr ⟨_, hm, rfl⟩)
    have hni : ∀ kd', (i + 1, kd') ∉ r := fun kd' hm => by
      have := (hi.sk (i + 1) kd' (by rw [e]; exact List.mem_cons_of_mem _ hm)).2.1
      omega
    have hNo := hn.opn o o1 (by omega) (.inl ⟨okd, hom⟩)
    have hNk := hn.opn (i + 1) (by omega) (by omega) (.inr (by omega))
    have hao : aft ks o = (if okd = .iff ∨ okd = .lop then [o + 1, i + 2] else if okd = .els then [i + 2] else [o + 1]) := by
      unfold aft
      rw [o3]
      cases okd <;> first | exact absurd o4 (by decide) | (simp [hen])
    have hak : kd = .fin → aft ks (i + 1) = (if okd = .lop then [o] else [i + 2]) := fun z => by
      unfold aft
      rw [hk1, z, show i + 1 - 1 = i by omega, e]
      cases okd <;> rfl
    -- what stands at each place then
    have hat : ∀ k, (stepN (i + 1) (bkAt ks i).S kd NL)[k]? = if k = i + 1 ∧ okd = .lop then some [o] else if k = o then some (aft ks o) else NL[k]? := fun k => by
      have e1 : stepN (i + 1) (bkAt ks i).S kd NL = (if okd = .lop then (if okd = .els then (if okd = .iff ∨ okd = .lop then NL.set o [o + 1, i + 2] else NL).set o [i + 2] else (if okd = .iff ∨ okd = .lop then NL.set o [o + 1, i + 2] else NL)).set (i + 1) [o] else (if okd = .els then (if okd = .iff ∨ okd = .lop then NL.set o [o + 1, i + 2] else NL).set o [i + 2] else (if okd = .iff ∨ okd = .lop then NL.set o [o + 1, i + 2] else NL))) := by
        unfold stepN
        rw [hc, e]
        rfl
      rw [e1, hao]
      have hlo : o < NL.length := by rw [hn.len]; omega
      have hli : i + 1 < NL.length := by rw [hn.len]; omega
      cases okd with
      | use => exact absurd o4 (by decide)
      | val => exact absurd o4 (by decide)
      | ref => exact absurd o4 (by decide)
      | set => exact absurd o4 (by decide)
      | fin => exact absurd o4 (by decide)
      | blk =>
        simp only [reduceCtorEq, if_false, or_self, and_false]
        by_cases q : k = o
        · rw [if_pos q, q]; exact hNo
        · rw [if_neg q]
      | iff =>
        simp only [reduceCtorEq, if_false, if_true, or_false, and_false]
        rw [List.getElem?_set]
        by_cases q : k = o
        · rw [if_pos q.symm, if_pos q, if_pos hlo]
        · rw [if_neg (fun z => q z.symm), if_neg q]
      | els =>
        simp only [reduceCtorEq, if_false, if_true, or_false, and_false]
        rw [List.getElem?_set]
        by_cases q : k = o
        · rw [if_pos q.symm, if_pos q, if_pos hlo]
        · rw [if_neg (fun z => q z.symm), if_neg q]
      | lop =>
        simp only [reduceCtorEq, if_false, if_true, or_true, and_true]
        rw [List.getElem?_set, List.length_set]
        by_cases q1 : k = i + 1
        · rw [if_pos q1.symm, if_pos q1, if_pos hli]
        · rw [if_neg (fun z => q1 z.symm), if_neg q1, List.getElem?_set]
          by_cases q : k = o
          · rw [if_pos q.symm, if_pos q, if_pos hlo]
          · rw [if_neg (fun z => q z.symm), if_neg q]
    have hkf : okd = .lop → kd = .fin := fun z => by
      cases kd <;> first | rfl | exact absurd hc (by decide) | exact absurd (z.symm.trans (hel rfl)) (by decide)
    refine ⟨?_, fun k h1 h2 h3 => ?_, fun k h1 h2 h3 => ?_, ?_⟩
    · unfold stepN
      rw [hc, e, ← hn.len]
      cases okd <;> simp
    · have hko : k ≠ o := by
        rintro rfl
        rcases h3 with ⟨kd', h3⟩ | h3
        · rw [e2] at h3
          rcases List.mem_append.mp h3 with h3 | h3
          · cases ho : isOpn kd with
            | false => rw [ho] at h3; cases h3
            | true =>
              rw [ho] at h3
              cases List.mem_singleton.mp h3
              omega
          · exact hor _ h3
        · omega
      have hkl : ¬ (k = i + 1 ∧ okd = .lop) := by
        rintro ⟨rfl, z⟩
        have hf := hkf z
        rcases h3 with ⟨kd', h3⟩ | h3
        · rw [e2, hf] at h3
          exact hni kd' h3
        · omega
      rw [hat, if_neg hkl, if_neg hko]
      refine hn.opn k h1 h2 ?_
      rcases h3 with ⟨kd', h3⟩ | h3
      · rw [e2] at h3
        rcases List.mem_append.mp h3 with h3 | h3
        · cases ho : isOpn kd with
          | false => rw [ho] at h3; cases h3
          | true =>
            rw [ho] at h3
            cases List.mem_singleton.mp h3
            exact .inr (by omega)
        · exact .inl ⟨kd', by rw [e]; exact List.mem_cons_of_mem _ h3⟩
      · exact .inr (by omega)
    · by_cases hko : k = o
      · subst hko
        rw [hat, if_neg (fun z => by omega), if_pos rfl]
      · by_cases hki : k = i + 1
        · subst hki
          have hf : kd = .fin := by
            cases kd <;> first | rfl | exact absurd hc (by decide) | exact absurd (by rw [e2]; exact List.mem_cons_self) (h3 .els)
          rw [hat, hak hf]
          by_cases z : okd = .lop
          · rw [if_pos ⟨rfl, z⟩, if_pos z]
          · rw [if_neg (fun y => z y.2), if_neg hko, if_neg z]
            exact hNk
        · rw [hat, if_neg (fun y => hki y.1), if_neg hko]
          refine hn.don k h1 (by omega) fun kd' hm => ?_
          rw [e] at hm
          rcases List.mem_cons.mp hm with hm | hm
          · cases hm
            exact hko rfl
          · exact h3 kd' (by rw [e2]; exact List.mem_append_right _ hm)
    · rw [hat, if_neg (fun z => by omega), if_neg (by omega)]
      exact hn.end_
theorem ni_fin {ks : List Kd} (b : Bal ks) {NL : List (List Nat)} (h : NI ks ks.length NL) {k : Nat} (h1 : 1 ≤ k) (h2 : k ≤ ks.length + 1) : NL[k]? = some (aft ks k) := by
  by_cases e : k = ks.length + 1
  · subst e
    rw [h.end_]
    unfold aft
    rw [show ks.length + 1 - 1 = ks.length by omega, List.getElem?_eq_none (Nat.le_refl _)]
  · exact h.don k h1 (by omega) fun kd hm => by rw [b.fin] at hm; cases hm
/-! ### what is due at a row -/
inductive Due
  | ok | lg | ub
deriving DecidableEq
def dueS (S : List (Nat × Kd)) (k : Kd) : Due := match k with
  | .use => .ok
  | .val => .ok
  | .ref => .ok
  | .set => .ok
  | .els => (match S with | (_, .iff) :: _ => .ok | _ => .ub)
  | .fin => (match S with | [] => .ub | _ :: _ => .ok)
  | .blk => if S.length ≤ 6 then .ok else .lg
  | .iff => if S.length ≤ 6 then .ok else .lg
  | .lop => if S.length ≤ 6 then .ok else .lg
theorem due_ok {S : List (Nat × Kd)} {k : Kd} (h : dueS S k = .ok) : OkS S k := by
  have deep : (if S.length ≤ 6 then Due.ok else .lg) = .ok → S.length ≤ 6 := fun h => by
    by_cases z : S.length ≤ 6
    · exact z
    · rw [if_neg z] at h; cases h
  cases k with
  | use => exact ⟨(fun z => by cases z), (fun z => by cases z), (fun z => by cases z)⟩
  | val => exact ⟨(fun z => by cases z), (fun z => by cases z), (fun z => by cases z)⟩
  | ref => exact ⟨(fun z => by cases z), (fun z => by cases z), (fun z => by cases z)⟩
  | set => exact ⟨(fun z => by cases z), (fun z => by cases z), (fun z => by cases z)⟩
  | blk => exact ⟨(fun _ => deep h), (fun z => by cases z), (fun z => by cases z)⟩
  | iff => exact ⟨(fun _ => deep h), (fun z => by cases z), (fun z => by cases z)⟩
  | lop => exact ⟨(fun _ => deep h), (fun z => by cases z), (fun z => by cases z)⟩
  | els =>
    refine ⟨(fun z => by cases z), (fun _ => ?_), (fun z => by cases z)⟩
    match S, h with
    | (o, .iff) :: r, _ => exact ⟨o, r, rfl⟩
  | fin =>
    refine ⟨(fun z => by cases z), (fun z => by cases z), (fun _ z => ?_)⟩
    rw [z] at h
    cases h
theorem due_lg {S : List (Nat × Kd)} {k : Kd} (h : dueS S k = .lg) : isDeep k = true ∧ 7 ≤ S.length := by
  have deep : (if S.length ≤ 6 then Due.ok else .lg) = .lg → 7 ≤ S.length := fun h => by
    by_cases z : S.length ≤ 6
    · rw [if_pos z] at h; cases h
    · omega
  cases k with
  | use => cases h
  | val => cases h
  | ref => cases h
  | set => cases h
  | blk => exact ⟨rfl, deep h⟩
  | iff => exact ⟨rfl, deep h⟩
  | lop => exact ⟨rfl, deep h⟩
  | els =>
    exfalso
    unfold dueS at h
    dsimp only at h
    split at h <;> cases h
  | fin =>
    exfalso
    unfold dueS at h
    dsimp only at h
    split at h <;> cases h
theorem due_ub {S : List (Nat × Kd)} {k : Kd} (h : dueS S k = .ub) : (k = .els ∧ ∀ o r, S ≠ (o, .iff) :: r) ∨ (k = .fin ∧ S = []) := by
  have deep : (if S.length ≤ 6 then Due.ok else .lg) ≠ .ub := fun h => by
    by_cases z : S.length ≤ 6
    · rw [if_pos z] at h; cases h
    · rw [if_neg z] at h; cases h
  cases k with
  | use => cases h
  | val => cases h
  | ref => cases h
  | set => cases h
  | blk => exact absurd h deep
  | iff => exact absurd h deep
  | lop => exact absurd h deep
  | els => exact .inl ⟨rfl, fun o r e => by rw [e] at h; cases h⟩
  | fin =>
    refine .inr ⟨rfl, ?_⟩
    match S, h with
    | [], _ => rfl
def Pf (ks : List Kd) (i : Nat) : Prop := ∀ (j : Nat) (k : Kd), j < i → ks[j]? = some k → OkS (bkAt ks j).S k
theorem pf_zero (ks : List Kd) : Pf ks 0 := fun j k h => by omega
theorem pf_succ {ks : List Kd} {i : Nat} {k : Kd} (p : Pf ks i) (h : ks[i]? = some k) (ok : OkS (bkAt ks i).S k) : Pf ks (i + 1) := fun j k' hj hk => by
  by_cases e : j = i
  · subst e
    rw [h] at hk
    obtain rfl := Option.some.inj hk
    exact ok
  · exact p j k' (by omega) hk
theorem bi_pf {ks : List Kd} : ∀ i, Pf ks i → i ≤ ks.length → BI ks i (bkAt ks i)
  | 0, _, _ => bi_zero ks
  | i + 1, p, hi => by
    have h : ks[i]? = some ks[i] := List.getElem?_eq_getElem (by omega)
    exact bi_step h (bi_pf i (fun j k hj => p j k (by omega)) (by omega)) (p i _ (by omega) h)
theorem pf_le {ks : List Kd} : ∀ i, Pf ks i → i ≤ ks.length → (bkAt ks i).S.length ≤ 7
  | 0, _, _ => Nat.zero_le _
  | i + 1, p, hi => by
    have h : ks[i]? = some ks[i] := List.getElem?_eq_getElem (by omega)
    have ih := pf_le i (fun j k hj => p j k (by omega)) (by omega)
    have ok := p i _ (by omega) h
    rw [bk_succ h]
    show ((if isOpn ks[i] then [(i + 1, ks[i])] else []) ++ (if isClo ks[i] then (bkAt ks i).S.tail else (bkAt ks i).S)).length ≤ 7
    revert ok
    cases ks[i] with
    | use => intro ok; simpa [isOpn, isClo] using ih
    | val => intro ok; simpa [isOpn, isClo] using ih
    | ref => intro ok; simpa [isOpn, isClo] using ih
    | set => intro ok; simpa [isOpn, isClo] using ih
    | fin => intro ok; simp [isOpn, isClo]; omega
    | els => intro ok; obtain ⟨o, r, e⟩ := ok.els rfl; rw [e] at ih ⊢; simpa [isOpn, isClo] using ih
    | blk => intro ok; have := ok.deep rfl; simp [isOpn, isClo]; omega
    | iff => intro ok; have := ok.deep rfl; simp [isOpn, isClo]; omega
    | lop => intro ok; have := ok.deep rfl; simp [isOpn, isClo]; omega
theorem pf_bal {ks : List Kd} (p : Pf ks ks.length) (h : (bkAt ks ks.length).S = []) (l : ks.length ≤ 48) : Bal ks := ⟨fun i k hk => p i k (List.getElem?_eq_some_iff.mp hk).1 hk, h, l⟩
inductive Res
  | ok | lg | ub (j : Nat)
def stepS (n : Nat) (S : List (Nat × Kd)) (k : Kd) : List (Nat × Kd) := (if isOpn k then [(n, k)] else []) ++ (if isClo k then S.tail else S)
def goR : Nat → List (Nat × Kd) → List Kd → Res
  | n, S, [] => (match S with | [] => .ok | _ :: _ => .ub n)
  | n, S, k :: r => match dueS S k with
    | .ok => goR (n + 1) (stepS n S k) r
    | .lg => .lg
    | .ub => .ub n
def resK (ks : List Kd) : Res := goR 1 [] ks
theorem due_of {S : List (Nat × Kd)} {k : Kd} (h : OkS S k) : dueS S k = .ok := by
  cases k with
  | use => rfl
  | val => rfl
  | ref => rfl
  | set => rfl
  | blk => exact if_pos (h.deep rfl)
  | iff => exact if_pos (h.deep rfl)
  | lop => exact if_pos (h.deep rfl)
  | els => obtain ⟨o, r, e⟩ := h.els rfl; rw [e]; rfl
  | fin =>
    have := h.fin rfl
    match S, this with
    | _ :: _, _ => rfl
theorem res_at {ks : List Kd} : ∀ i, Pf ks i → i ≤ ks.length → resK ks = goR (i + 1) (bkAt ks i).S (ks.drop i)
  | 0, _, _ => rfl
  | i + 1, p, hi => by
    have h : ks[i]? = some ks[i] := List.getElem?_eq_getElem (by omega)
    rw [res_at i (fun j k hj => p j k (by omega)) (by omega), List.drop_eq_getElem_cons (by omega : i < ks.length)]
    show (match dueS (bkAt ks i).S ks[i] with | .ok => goR (i + 1 + 1) (stepS (i + 1) (bkAt ks i).S ks[i]) (ks.drop (i + 1)) | .lg => .lg | .ub => .ub (i + 1)) = _
    rw [due_of (p i _ (by omega) h), bk_succ h]
    rfl
theorem res_lg {ks : List Kd} {i : Nat} {k : Kd} (p : Pf ks i) (h : ks[i]? = some k) (d : dueS (bkAt ks i).S k = .lg) : resK ks = .lg := by
  have hi := (List.getElem?_eq_some_iff.mp h).1
  rw [res_at i p (by omega), List.drop_eq_getElem_cons hi, (List.getElem?_eq_some_iff.mp h).2]
  show (match dueS (bkAt ks i).S k with | .ok => _ | .lg => Res.lg | .ub => .ub (i + 1)) = _
  rw [d]
theorem res_ub {ks : List Kd} {i : Nat} {k : Kd} (p : Pf ks i) (h : ks[i]? = some k) (d : dueS (bkAt ks i).S k = .ub) : resK ks = .ub (i + 1) := by
  have hi := (List.getElem?_eq_some_iff.mp h).1
  rw [res_at i p (by omega), List.drop_eq_getElem_cons hi, (List.getElem?_eq_some_iff.mp h).2]
  show (match dueS (bkAt ks i).S k with | .ok => _ | .lg => Res.lg | .ub => .ub (i + 1)) = _
  rw [d]
theorem res_end {ks : List Kd} (p : Pf ks ks.length) : resK ks = (match (bkAt ks ks.length).S with | [] => .ok | _ :: _ => .ub (ks.length + 1)) := by
  rw [res_at _ p (Nat.le_refl _), List.drop_length]
  rfl
theorem due_els {S : List (Nat × Kd)} (no : ∀ o r, S ≠ (o, .iff) :: r) : dueS S .els = .ub := by
  match S, no with
  | [], _ => rfl
  | (o, okd) :: r, no => cases okd <;> first | rfl | exact absurd rfl (no o r)
end
end K24

set_option Elab.async false
set_option linter.all false
set_option maxRecDepth 100000
namespace K24
open PySem PySem.Spec PyProof.Rows L2 Evl TL UL StX
section
variable {P : Program} {w : World} {K : PySem.W.Frag} {mg : Str → Option Value} {base : Heap} {A : Adr}
theorem ni_app (a b : List Nat) : ni a ++ ni b = ni (a ++ b) := by unfold ni; rw [List.map_append]
/-! ### the object that finds the blocks -/
theorem opn_cons (o : Nat) (kd : Kd) (r : List (Nat × Kd)) : opnL ((o, kd) :: r) = opnL r ++ [o] := by
  unfold opnL
  simp
theorem opn_len (S : List (Nat × Kd)) : (opnL S).length = S.length + 1 := by
  unfold opnL
  simp
theorem in_deep (k : Kd) : inV (.str (kS k)) [.str "block", .str "if", .str "loop"] = isDeep k := by cases k <;> decide +kernel
theorem in_clo (k : Kd) : inV (.str (kS k)) [.str "else", .str "end"] = isClo k := by cases k <;> decide +kernel
theorem in_opn (k : Kd) : inV (.str (kS k)) [.str "block", .str "if", .str "loop", .str "else"] = isOpn k := by cases k <;> decide +kernel
def Fr (L : List Addr) (H H' : Hp) : Prop := ∀ b o, H b = some o → b ∉ L → H' b = some o
theorem Fr.trans {L : List Addr} {H H1 H2 : Hp} (h : Fr L H H1) (h' : Fr L H1 H2) : Fr L H H2 := fun b o e n => h' b o (h b o e n) n
theorem Fr.of {L : List Addr} {H H' : Hp} (e : Ex H H') : Fr L H H' := fun b o h _ => e b o h
theorem Fr.put {L : List Addr} {H : Hp} {a : Addr} {o : HO} (h : a ∈ L) : Fr L H (upd H a o) := fun b x e n => by
  rw [upd_ne (fun z => n (by rw [z]; exact h))]
  exact e
/-- all but x stays -/
def Gx (x : Addr) (H H' : Hp) : Prop := ∀ b o, b ≠ x → H b = some o → H' b = some o
theorem Gx.new {x p : Addr} {H H' : Hp} {o : HO} (g : Gx x H H') (hp : H' p = none) : Gx x H (upd H' p o) := fun b y n e => by
  have h := g b y n e
  rw [upd_ne (ne_of_none h hp)]
  exact h
theorem Gx.at_ {x : Addr} {H H' : Hp} {o : HO} (g : Gx x H H') : Gx x H (upd H' x o) := fun b y n e => by
  rw [upd_ne n]
  exact g b y n e
theorem Gx.free {x p : Addr} {H H' : Hp} {o : HO} (g : Gx x H H') (hx : H' x = some o) (hp : H' p = none) : H p = none := by
  cases e : H p with
  | none => rfl
  | some y =>
    have := g p y (ne_of_none hx hp).symm e
    rw [hp] at this
    cases this
def blF (op kl ar en : Addr) : List (Str × V) := [("_most_depth", .int 8), ("_opened", .ref op), ("_kinds", .ref kl), ("_around", .ref ar), ("_enders", .ref en)]
def enK (E : List (Nat × Nat)) : List (Key × V) := E.map fun p => (Sum.inl ((p.1 : Nat) : Int), V.int ((p.2 : Nat) : Int))
def TupN (H : Hp) (a : Addr) (l : List Nat) : Prop := H a = some (.tup (ni l))
def klL (ks : List Kd) : List V := .str "program" :: ks.map fun k => .str (kS k)
structure BlA (B : Addr) (H : Hp) (x dx op kl ar en : Addr) (S : List (Nat × Kd)) (ks : List Kd) (as : List Addr) (A : List (List Nat)) (E : List (Nat × Nat)) : Prop where
  ob : H x = some (.ins B dx (blF op kl ar en))
  opn : H op = some (.lst (ni (opnL S)))
  kin : H kl = some (.lst (klL ks))
  aro : H ar = some (.lst (as.map V.ref))
  arl : Al2 (TupN H) as A
  end_ : H en = some (.dK (enK E))
theorem TupN.mono {H H' : Hp} {a : Addr} {l : List Nat} (e : Ex H H') (h : TupN H a l) : TupN H' a l := e _ _ h
theorem BlA.mono {B : Addr} {H H' : Hp} {x dx op kl ar en : Addr} {S : List (Nat × Kd)} {ks : List Kd} {as : List Addr} {A : List (List Nat)} {E : List (Nat × Nat)} (e : Ex H H') (h : BlA B H x dx op kl ar en S ks as A E) : BlA B H' x dx op kl ar en S ks as A E :=
  ⟨e _ _ h.ob, e _ _ h.opn, e _ _ h.kin, e _ _ h.aro, h.arl.imp fun _ _ z => z.mono e, e _ _ h.end_⟩
theorem tup_ne {H : Hp} {z a : Addr} {o o' : HO} {l : List Nat} (hz : H z = some o) (no : ∀ ys, o ≠ .tup ys) (h : TupN H a l) : TupN (upd H z o') a l := by
  have h : H a = _ := h
  show upd H z o' a = _
  rw [upd_ne (fun e => by rw [e, hz] at h; exact no _ (Option.some.inj h))]
  exact h
theorem opn_ni (S : List (Nat × Kd)) : ∃ r, ni (opnL S) = V.int 0 :: r := ⟨_, rfl⟩
section
variable {B : Addr} {H : Hp} {x dx op kl ar en : Addr} {S : List (Nat × Kd)} {ks : List Kd} {as : List Addr} {A : List (List Nat)} {E : List (Nat × Nat)}
theorem BlA.ne_ok (h : BlA B H x dx op kl ar en S ks as A E) : op ≠ kl := fun e => by
  have h1 := h.opn
  rw [e, h.kin] at h1
  cases h1
theorem BlA.ne_xo (h : BlA B H x dx op kl ar en S ks as A E) : x ≠ op ∧ x ≠ kl ∧ x ≠ ar ∧ x ≠ en ∧ op ≠ en ∧ kl ≠ en ∧ ar ≠ en :=
  ⟨(fun e => by have := h.ob; rw [e, h.opn] at this; cases this), (fun e => by have := h.ob; rw [e, h.kin] at this; cases this), (fun e => by have := h.ob; rw [e, h.aro] at this; cases this), (fun e => by have := h.ob; rw [e, h.end_] at this; cases this),
    (fun e => by have := h.opn; rw [e, h.end_] at this; cases this), (fun e => by have := h.kin; rw [e, h.end_] at this; cases this), (fun e => by have := h.aro; rw [e, h.end_] at this; cases this)⟩
theorem BlA.ne_oa (h : BlA B H x dx op kl ar en S ks as A E) : op ≠ ar := fun e => by
  have h1 := h.opn
  rw [e, h.aro] at h1
  cases as with
  | nil => cases h1
  | cons a r => cases h1
theorem BlA.ne_ka (h : BlA B H x dx op kl ar en S ks as A E) : kl ≠ ar := fun e => by
  have h1 := h.kin
  rw [e, h.aro] at h1
  cases as with
  | nil => cases h1
  | cons a r => cases h1
/-- each of the four written anew -/
theorem BlA.put_op (h : BlA B H x dx op kl ar en S ks as A E) (S' : List (Nat × Kd)) : BlA B (upd H op (.lst (ni (opnL S')))) x dx op kl ar en S' ks as A E := by
  obtain ⟨n1, n2, n3, n4, n5, n6, n7⟩ := h.ne_xo
  exact ⟨by rw [upd_ne n1]; exact h.ob, upd_same, by rw [upd_ne h.ne_ok.symm]; exact h.kin, by rw [upd_ne h.ne_oa.symm]; exact h.aro, h.arl.imp fun _ _ z => tup_ne h.opn (fun _ e => by cases e) z, by rw [upd_ne n5.symm]; exact h.end_⟩
theorem BlA.put_kl (h : BlA B H x dx op kl ar en S ks as A E) (ks' : List Kd) : BlA B (upd H kl (.lst (klL ks'))) x dx op kl ar en S ks' as A E := by
  obtain ⟨n1, n2, n3, n4, n5, n6, n7⟩ := h.ne_xo
  exact ⟨by rw [upd_ne n2]; exact h.ob, by rw [upd_ne h.ne_ok]; exact h.opn, upd_same, by rw [upd_ne h.ne_ka.symm]; exact h.aro, h.arl.imp fun _ _ z => tup_ne h.kin (fun _ e => by cases e) z, by rw [upd_ne n6.symm]; exact h.end_⟩
theorem BlA.put_ar (h : BlA B H x dx op kl ar en S ks as A E) {a : Addr} {l : List Nat} (ha : TupN H a l) : BlA B (upd H ar (.lst (as.map V.ref ++ [.ref a]))) x dx op kl ar en S ks (as ++ [a]) (A ++ [l]) E := by
  obtain ⟨n1, n2, n3, n4, n5, n6, n7⟩ := h.ne_xo
  exact ⟨by rw [upd_ne n3]; exact h.ob, by rw [upd_ne h.ne_oa]; exact h.opn, by rw [upd_ne h.ne_ka]; exact h.kin, by rw [upd_same, List.map_append]; rfl, (h.arl.imp fun _ _ z => tup_ne h.aro (fun _ e => by cases e) z).snoc (tup_ne h.aro (fun _ e => by cases e) ha), by rw [upd_ne n7.symm]; exact h.end_⟩
theorem BlA.put_en (h : BlA B H x dx op kl ar en S ks as A E) (E' : List (Nat × Nat)) : BlA B (upd H en (.dK (enK E'))) x dx op kl ar en S ks as A E' := by
  obtain ⟨n1, n2, n3, n4, n5, n6, n7⟩ := h.ne_xo
  exact ⟨by rw [upd_ne n4]; exact h.ob, by rw [upd_ne n5]; exact h.opn, by rw [upd_ne n6]; exact h.kin, by rw [upd_ne n7]; exact h.aro, h.arl.imp fun _ _ z => tup_ne h.end_ (fun _ e => by cases e) z, upd_same⟩
end
theorem put_en {E : List (Nat × Nat)} {o n : Nat} (h : ∀ e, (o, e) ∉ E) : putK (enK E) (Sum.inl ((o : Nat) : Int)) (V.int ((n : Nat) : Int)) = enK (E ++ [(o, n)]) := by
  unfold putK
  rw [if_neg]
  · unfold enK
    rw [List.map_append]
    rfl
  · intro q
    obtain ⟨kv, hm, e⟩ := List.any_eq_true.mp q
    obtain ⟨⟨a, b⟩, hm1, rfl⟩ := List.mem_map.mp hm
    have e : (Sum.inl ((a : Nat) : Int) : Key) = Sum.inl ((o : Nat) : Int) := of_decide_eq_true e
    have e := Sum.inl.inj e
    have ao : a = o := by omega
    subst ao
    exact h b hm1
theorem get_en {E : List (Nat × Nat)} {o n : Nat} (nd : (E.map (·.1)).Nodup) (h : (o, n) ∈ E) : valV (enK E) (Sum.inl ((o : Nat) : Int)) = some (V.int ((n : Nat) : Int)) := by
  induction E with
  | nil => cases h
  | cons p r ih =>
    rw [List.map_cons, List.nodup_cons] at nd
    obtain ⟨a, b⟩ := p
    show valV ((Sum.inl ((a : Nat) : Int), V.int ((b : Nat) : Int)) :: enK r) _ = _
    rcases List.mem_cons.mp h with h | h
    · cases h
      exact valV_pos rfl
    · rw [valV_neg]
      · exact ih nd.2 h
      · intro e
        have e := Sum.inl.inj e
        have e : a = o := by omega
        subst e
        exact nd.1 (List.mem_map.mpr ⟨(a, n), h, rfl⟩)
theorem en_len (E : List (Nat × Nat)) : (enK E).length = E.length := by unfold enK; rw [List.length_map]
def spBlInit (B : Addr) : Sp := fun vs H Q _ => ∃ x dx, vs = [.ref x, .int 8] ∧ H x = some (.ins B dx []) ∧
  ∀ H' op kl ar en as, Ex (L2.del H x) H' → BlA B H' x dx op kl ar en [] [] as [[0]] [] → H op = none → H kl = none → H ar = none → H en = none → Q .non H'
theorem ok_bl_init (T : Tx0 w K mg A) : FnOk P w K mg base CX0 1 A.bl_init A.d_bl_init p_bl_init (spBlInit A.Blocks) := by
  refine T.F_bl_init.ok sc_bl_init (fun vs H Q E h => ?_) (fun cdv Ar outer s H vs Q E hr h => ?_)
  · obtain ⟨x, dx, rfl, _⟩ := h
    rfl
  · obtain ⟨x, dx, rfl, hx, k⟩ := h
    refine ⟨_, (pss_cons (ps_fld (pv 0) (pv 1) rfl)
      (pss_cons (ps_fld (pv 0) (pe_lst (pa_cons pe_int pa_nil)) rfl)
      (pss_cons (ps_fld (pv 0) (pe_lst (pa_cons pe_str pa_nil)) rfl)
      (pss_cons (ps_fld (pv 0) (pe_lst (pa_cons (pe_tup (pa_cons pe_int pa_nil)) pa_nil)) rfl)
      (pss_one (ps_fld (pv 0) pe_dnewK rfl)))))), ?_⟩
    refine ⟨_, rfl, _, rfl, x, _, dx, _, rfl, hx, T.cl_Blocks, T.na_Blocks__most_depth, by decide, ?_⟩
    have g1 : Gx x H (upd H x (.ins A.Blocks dx [("_most_depth", .int 8)])) := Gx.at_ fun b o n e => e
    have x1 : upd H x (.ins A.Blocks dx [("_most_depth", .int 8)]) x = some (.ins A.Blocks dx [("_most_depth", .int 8)]) := upd_same
    show tSeq _ _ _ _ (upd H x (.ins A.Blocks dx [("_most_depth", .int 8)]))
    generalize upd H x (.ins A.Blocks dx [("_most_depth", .int 8)]) = H1 at g1 x1 ⊢
    refine ⟨sz_of (by show 1 ≤ 100000; decide), fun op hop => ?_⟩
    have o2 : upd H1 op (.lst [.int 0]) op = some (.lst [.int 0]) := upd_same
    have x2 := (Ex.new (o := .lst [.int 0]) hop) _ _ x1
    have g2 := g1.new (o := .lst [.int 0]) hop
    have f2 := g1.free x1 hop
    generalize upd H1 op (.lst [.int 0]) = H2 at o2 x2 g2 ⊢
    refine ⟨_, rfl, x, _, dx, _, rfl, x2, T.cl_Blocks, T.na_Blocks__opened, by show 1 < 1000; decide, ?_⟩
    have nox : op ≠ x := fun e => by rw [e, x2] at o2; cases o2
    show tSeq _ _ _ _ (upd H2 x (.ins A.Blocks dx [("_most_depth", .int 8), ("_opened", .ref op)]))
    have o3 : upd H2 x (.ins A.Blocks dx [("_most_depth", .int 8), ("_opened", .ref op)]) op = some (.lst [.int 0]) := by rw [upd_ne nox]; exact o2
    have x3 : upd H2 x (.ins A.Blocks dx [("_most_depth", .int 8), ("_opened", .ref op)]) x = some (.ins A.Blocks dx [("_most_depth", .int 8), ("_opened", .ref op)]) := upd_same
    have g3 : Gx x H (upd H2 x (.ins A.Blocks dx [("_most_depth", .int 8), ("_opened", .ref op)])) := g2.at_
    generalize upd H2 x (.ins A.Blocks dx [("_most_depth", .int 8), ("_opened", .ref op)]) = H3 at o3 x3 g3 ⊢
    refine ⟨sz_of (by show 1 ≤ 100000; decide), fun kl hkl => ?_⟩
    have e4 := Ex.new (o := .lst [.str "program"]) hkl
    have k4 : upd H3 kl (.lst [.str "program"]) kl = some (.lst [.str "program"]) := upd_same
    have o4 := e4 _ _ o3
    have x4 := e4 _ _ x3
    have g4 := g3.new (o := .lst [.str "program"]) hkl
    have f4 := g3.free x3 hkl
    generalize upd H3 kl (.lst [.str "program"]) = H4 at k4 o4 x4 g4 ⊢
    refine ⟨_, rfl, x, _, dx, _, rfl, x4, T.cl_Blocks, T.na_Blocks__kinds, by show 2 < 1000; decide, ?_⟩
    have nkx : kl ≠ x := fun e => by rw [e, x4] at k4; cases k4
    show tSeq _ _ _ _ (upd H4 x (.ins A.Blocks dx [("_most_depth", .int 8), ("_opened", .ref op), ("_kinds", .ref kl)]))
    have k5 : upd H4 x (.ins A.Blocks dx [("_most_depth", .int 8), ("_opened", .ref op), ("_kinds", .ref kl)]) kl = some (.lst [.str "program"]) := by rw [upd_ne nkx]; exact k4
    have o5 : upd H4 x (.ins A.Blocks dx [("_most_depth", .int 8), ("_opened", .ref op), ("_kinds", .ref kl)]) op = some (.lst [.int 0]) := by rw [upd_ne nox]; exact o4
    have x5 : upd H4 x (.ins A.Blocks dx [("_most_depth", .int 8), ("_opened", .ref op), ("_kinds", .ref kl)]) x = some (.ins A.Blocks dx [("_most_depth", .int 8), ("_opened", .ref op), ("_kinds", .ref kl)]) := upd_same
    have g5 : Gx x H (upd H4 x (.ins A.Blocks dx [("_most_depth", .int 8), ("_opened", .ref op), ("_kinds", .ref kl)])) := g4.at_
    generalize upd H4 x (.ins A.Blocks dx [("_most_depth", .int 8), ("_opened", .ref op), ("_kinds", .ref kl)]) = H5 at k5 o5 x5 g5 ⊢
    refine ⟨sz_of (by show 1 ≤ 100000; decide), fun t ht => ⟨sz_of (by show 1 ≤ 100000; decide), fun ar har => ?_⟩⟩
    have t6 : upd H5 t (.tup [.int 0]) t = some (.tup [.int 0]) := upd_same
    have e6 := Ex.new (o := .tup [.int 0]) ht
    have g6 := g5.new (o := .tup [.int 0]) ht
    have k6 := e6 _ _ k5
    have o6 := e6 _ _ o5
    have x6 := e6 _ _ x5
    generalize upd H5 t (.tup [.int 0]) = H6 at t6 g6 k6 o6 x6 har ⊢
    have e7 := Ex.new (o := .lst [.ref t]) har
    have a7 : upd H6 ar (.lst [.ref t]) ar = some (.lst [.ref t]) := upd_same
    have g7 := g6.new (o := .lst [.ref t]) har
    have f7 := g6.free x6 har
    have t7 := e7 _ _ t6
    have k7 := e7 _ _ k6
    have o7 := e7 _ _ o6
    have x7 := e7 _ _ x6
    generalize upd H6 ar (.lst [.ref t]) = H7 at a7 g7 t7 k7 o7 x7 ⊢
    refine ⟨_, rfl, x, _, dx, _, rfl, x7, T.cl_Blocks, T.na_Blocks__around, by show 3 < 1000; decide, ?_⟩
    have nax : ar ≠ x := fun e => by rw [e, x7] at a7; cases a7
    have ntx : t ≠ x := fun e => by rw [e, x7] at t7; cases t7
    obtain ⟨H8, hH8⟩ : ∃ H8, H8 = upd H7 x (.ins A.Blocks dx (putF "_around" (.ref ar) [("_most_depth", .int 8), ("_opened", .ref op), ("_kinds", .ref kl)])) := ⟨_, rfl⟩
    rw [← hH8]
    have g8 : Gx x H H8 := by rw [hH8]; exact g7.at_
    have x8 : H8 x = some (.ins A.Blocks dx [("_most_depth", .int 8), ("_opened", .ref op), ("_kinds", .ref kl), ("_around", .ref ar)]) := by rw [hH8]; exact upd_same
    have o8 : H8 op = some (.lst [.int 0]) := by rw [hH8, upd_ne nox]; exact o7
    have k8 : H8 kl = some (.lst [.str "program"]) := by rw [hH8, upd_ne nkx]; exact k7
    have a8 : H8 ar = some (.lst [.ref t]) := by rw [hH8, upd_ne nax]; exact a7
    have t8 : H8 t = some (.tup [.int 0]) := by rw [hH8, upd_ne ntx]; exact t7
    intro en hen
    have e9 := Ex.new (o := .dK []) hen
    have f9 := g8.free x8 hen
    have x9 := e9 _ _ x8
    refine ⟨_, rfl, x, _, dx, _, rfl, x9, T.cl_Blocks, T.na_Blocks__enders, by show 4 < 1000; decide, ?_⟩
    have n9 : upd H8 en (.dK []) en = some (.dK []) := upd_same
    have nex : en ≠ x := (ne_of_none x8 hen).symm
    refine k _ op kl ar en [t] (ex_del (Ex.refl H) ((g8.new (o := .dK []) hen).at_)) ⟨upd_same, by rw [upd_ne nox]; exact e9 _ _ o8, by rw [upd_ne nkx]; exact e9 _ _ k8, by rw [upd_ne nax]; exact e9 _ _ a8, .cons (by show upd _ x _ t = _; rw [upd_ne ntx]; exact e9 _ _ t8) .nil, by rw [upd_ne nex]; exact n9⟩ f2 f4 f7 f9
/-- behind i rows -/
def BlAt (B : Addr) (H : Hp) (x dx op kl ar en : Addr) (KS : List Kd) (i : Nat) : Prop := ∃ as, BlA B H x dx op kl ar en (bkAt KS i).S (KS.take i) as ([0] :: (bkAt KS i).A) (bkAt KS i).E
def spBlTake (B TL UB : Addr) : Sp := fun vs H Q E => ∃ x dx op kl ar en KS i k, vs = [.ref x, .str (kS k)] ∧ BlAt B H x dx op kl ar en KS i ∧ KS[i]? = some k ∧ Pf KS i ∧ KS.length ≤ 48 ∧
  (OkS (bkAt KS i).S k → ∀ H', BlAt B H' x dx op kl ar en KS (i + 1) → Fr [op, kl, ar, en] H H' → Q .non H') ∧
  (dueS (bkAt KS i).S k = .lg → ∀ d H', Ex H H' → H' d = some (.xd [("what", .str "depth")]) → E (.ref TL) (some d) H') ∧
  (dueS (bkAt KS i).S k = .ub → ∀ d H', Ex H H' → H' d = some (.xd [("what", .int ((i + 1 : Nat) : Int))]) → E (.ref UB) (some d) H')
theorem ok_bl_take (T : Tx0 w K mg A) : FnOk P w K mg base (L2.CX P w) 4 A.bl_take A.d_bl_take p_bl_take (spBlTake A.Blocks A.TooLarge A.Unbalanced) := by
  refine T.F_bl_take.okX sc_bl_take (fun vs H Q E h => ?_) (fun cdv Ar outer s H vs Q E hr h => ?_)
  · obtain ⟨x, dx, op, kl, ar, en, KS, i, k, rfl, _⟩ := h
    rfl
  · obtain ⟨x, dx, op, kl, ar, en, KS, i, k, rfl, ⟨as, hb⟩, hk, pf, l48, q, qlg, qub⟩ := h
    refine ⟨_, (pss_cons (ps_set (i := 2) sc_bl_take.nd rfl (Or.inl rfl) (pe_callB call_len_seq (by rfl) T.m_len PySem.boot_len (pa_cons (pe_fld (pv 0) rfl) pa_nil)))
      (Evl.pss_cut (ps_if (PW.pt (pw_and (pt_cmpR op_in_seq (pv 1) (pe_tup (pa_cons pe_str (pa_cons pe_str (pa_cons pe_str pa_nil)))) (by rfl)) (pw_and1 (pt_cmpR op_eq (pe_callB call_len_seq (by rfl) T.m_len PySem.boot_len (pa_cons (pe_fld (pv 0) rfl) pa_nil)) (pe_fld (pv 0) rfl) (nomark _))))) (pss_one (ps_raise rfl (takes_of rfl rfl rfl rfl) (pmk_oex T.ex_TooLarge.ox T.ex_TooLarge.ii T.ti_lives_init (ok_lives_init T) (hr.mono (by decide)) T.b_lives_init .nil pass0 (by rfl) T.g_TooLarge (pa_cons pe_str pa_nil)))) pss_nil)
      (Evl.pss_cut (ps_if (PW.pt (pw_and (pt_cmpR op_eq (pv 1) pe_str (nomark _)) (pw_and1 (pt_cmpR op_ne (pe_ix ix_list (pe_fld (pv 0) rfl) (pe_ix ix_list (pe_fld (pv 0) rfl) (pe_un un_neg pe_int) (fun _ _ => rfl)) (fun _ _ => rfl)) pe_str (nomark _))))) (pss_one (ps_raise rfl (takes_of rfl rfl rfl rfl) (pmk_oex T.ex_Unbalanced.ox T.ex_Unbalanced.ii T.ti_lives_init (ok_lives_init T) (hr.mono (by decide)) T.b_lives_init .nil pass0 (by rfl) T.g_Unbalanced (pa_cons (pv 2) pa_nil)))) pss_nil)
      (Evl.pss_cut (ps_if (PW.pt (pw_and (pt_cmpR op_eq (pv 1) pe_str (nomark _)) (pw_and1 (pt_cmpR op_eq (pe_callB call_len_seq (by rfl) T.m_len PySem.boot_len (pa_cons (pe_fld (pv 0) rfl) pa_nil)) pe_int (nomark _))))) (pss_one (ps_raise rfl (takes_of rfl rfl rfl rfl) (pmk_oex T.ex_Unbalanced.ox T.ex_Unbalanced.ii T.ti_lives_init (ok_lives_init T) (hr.mono (by decide)) T.b_lives_init .nil pass0 (by rfl) T.g_Unbalanced (pa_cons (pv 2) pa_nil)))) pss_nil)
      (pss_cons (ps_expr (pe_bm PySem.F.plainAttrs_list PySem.F.slot_list_append PySem.F.type_list_append mt_append (pe_fld (pv 0) rfl) (pa_cons (pe_callTy call_tuple_of (by rfl) T.m_tuple (by decide +kernel) (pa_cons (pe_fld (pv 0) rfl) pa_nil)) pa_nil)))
      (pss_cons (ps_expr (pe_bm PySem.F.plainAttrs_list PySem.F.slot_list_append PySem.F.type_list_append mt_append (pe_fld (pv 0) rfl) (pa_cons (pv 1) pa_nil)))
      (Evl.pss_cut (ps_if (pt_cmpR op_in_seq (pv 1) (pe_tup (pa_cons pe_str (pa_cons pe_str pa_nil))) (by rfl)) (pss_one (ps_dput (hu_of hr) (pe_fld (pv 0) rfl) (pe_bm0 PySem.F.plainAttrs_list PySem.F.slot_list_pop PySem.F.type_list_pop mt_pop (pe_fld (pv 0) rfl)) (pv 2) rfl)) pss_nil)
      (pss_one (ps_if (pt_cmpR op_in_seq (pv 1) (pe_tup (pa_cons pe_str (pa_cons pe_str (pa_cons pe_str (pa_cons pe_str pa_nil))))) (by rfl)) (pss_one (ps_expr (pe_bm PySem.F.plainAttrs_list PySem.F.slot_list_append PySem.F.type_list_append mt_append (pe_fld (pv 0) rfl) (pa_cons (pv 2) pa_nil)))) pss_nil))))))))), ?_⟩
    have hil := (List.getElem?_eq_some_iff.mp hk).1
    have bi := bi_pf i pf (by omega)
    have h7 := pf_le i pf (by omega)
    have dd : ∀ {P : Prop}, (OkS (bkAt KS i).S k → P) → (dueS (bkAt KS i).S k = .lg → P) → (dueS (bkAt KS i).S k = .ub → P) → P := fun a b c => by
      cases z : dueS (bkAt KS i).S k with
      | ok => exact a (due_ok z)
      | lg => exact b z
      | ub => exact c z
    have las : as.length = i + 1 := by rw [hb.arl.len, List.length_cons, bi.al]
    obtain ⟨S, hS⟩ : ∃ S, S = (bkAt KS i).S := ⟨_, rfl⟩
    obtain ⟨E0, hE0⟩ : ∃ E0, E0 = (bkAt KS i).E := ⟨_, rfl⟩
    have hsl : (bkAt KS (i + 1)).S = (if isOpn k then [(i + 1, k)] else []) ++ (if isClo k then S.tail else S) := by rw [bk_succ hk, hS]; rfl
    have hel : (bkAt KS (i + 1)).E = E0 ++ (if isClo k then endE S (i + 1) else []) := by rw [bk_succ hk, hS, hE0]; rfl
    have hal : (bkAt KS (i + 1)).A = (bkAt KS i).A ++ [opnL S] := by rw [bk_succ hk, hS]; rfl
    have htk : KS.take (i + 1) = KS.take i ++ [k] := by rw [List.take_add_one, hk]; rfl
    rw [← hS, ← hE0] at hb
    rw [← hS] at h7 dd q qlg qub
    refine ⟨_, rfl, x, _, dx, _, _, rfl, hb.ob, T.cl_Blocks, T.na_Blocks__around, rfl, ar, _, rfl, .inl (SqL.of hb.aro), ?_⟩
    rw [List.length_map, las]
    obtain ⟨J, hJ⟩ : ∃ J : Prop → L2.St → Hp → Prop, J = fun p σ' H' => σ' = [some (.ref x), some (.str (kS k)), some (.int ((i + 1 : Nat) : Int))] ∧ BlA A.Blocks H' x dx op kl ar en S (KS.take i) as ([0] :: (bkAt KS i).A) E0 ∧ Ex H H' ∧ p := ⟨_, rfl⟩
    -- too deep
    refine ⟨J (isDeep k = true → S.length ≤ 6), ?_, ?_⟩
    · refine ⟨_, rfl, sz_of (by show 3 ≤ 100000; decide), fun D hD => ⟨D, _, rfl, .inr (SqT.of upd_same), rfl, rfl, _, rfl, ?_⟩⟩
      have fr1 := Ex.new (o := .tup [.str "block", .str "if", .str "loop"]) hD
      have hb1 := hb.mono fr1
      generalize upd H D (.tup [.str "block", .str "if", .str "loop"]) = H1 at hb1 fr1 ⊢
      show if inV (.str (kS k)) [.str "block", .str "if", .str "loop"] = true then _ else _
      rw [in_deep, hJ]
      cases hd : isDeep k with
      | false => exact iteF (iteF ⟨rfl, hb1, fr1, fun z => by cases z⟩)
      | true =>
        refine iteT ⟨_, rfl, x, _, dx, _, _, rfl, hb1.ob, T.cl_Blocks, T.na_Blocks__opened, rfl, op, _, rfl, .inl (SqL.of hb1.opn), _, rfl, x, _, dx, _, _, rfl, hb1.ob, T.cl_Blocks, T.na_Blocks__most_depth, rfl, rfl, _, rfl, ite2 (fun z => ?_) (fun z => ⟨rfl, hb1, fr1, fun _ => ?_⟩)⟩
        · have z := V.int.inj (of_decide_eq_true z)
          rw [ni_len, opn_len] at z
          have dl : dueS S k = .lg := by
            have no : ¬ S.length ≤ 6 := by omega
            cases k <;> first | (cases hd; done) | exact if_neg no
          exact ⟨(by show 1 ≤ 1000; decide), raise_what T.ex_TooLarge rfl fun d H' e' hd' => qlg dl d H' (fr1.trans e') hd'⟩
        · have z : ¬ V.int (((ni (opnL S)).length : Nat) : Int) = V.int 8 := fun y => z (decide_eq_true y)
          rw [ni_len, opn_len] at z
          have z2 : S.length + 1 ≠ 8 := fun y => z (by rw [y]; rfl)
          omega
    rw [hJ]
    rintro σ1 H1 ⟨rfl, hb1, fr1, dp⟩
    refine ⟨J (k = .els → ∃ o r, S = (o, .iff) :: r), ?_, ?_⟩
    · rw [hJ]
      refine ⟨_, rfl, rfl, _, rfl, ?_⟩
      by_cases e : k = .els
      · refine ite2 (fun _ => ?_) (fun z => absurd (by rw [e]; decide +kernel) z)
        have bad : (∀ o r, S ≠ (o, .iff) :: r) → ∀ d H', Ex H H' → H' d = some (.xd [("what", .int ((i + 1 : Nat) : Int))]) → E (.ref A.Unbalanced) (some d) H' := fun no => qub (by
          rw [e]
          exact due_els no)
        have hS0 : S = [] ∨ ∃ p r, S = p :: r := by
          cases S with
          | nil => exact .inl rfl
          | cons p r => exact .inr ⟨p, r, rfl⟩
        rcases hS0 with hS0 | ⟨⟨o, okd⟩, r, hS0⟩
        · have hlo : atI (ni (opnL S)) (-1) = some (.int ((0 : Nat) : Int)) := by rw [hS0]; rfl
          refine ⟨_, rfl, x, _, dx, _, _, rfl, hb1.ob, T.cl_Blocks, T.na_Blocks__kinds, rfl, _, rfl, x, _, dx, _, _, rfl, hb1.ob, T.cl_Blocks, T.na_Blocks__opened, rfl, 1, rfl, op, _, -1, .int ((0 : Nat) : Int), rfl, rfl, SqL.of hb1.opn, hlo, kl, _, ((0 : Nat) : Int), .str "program", rfl, rfl, SqL.of hb1.kin, atI_nat (j := 0) rfl, rfl, _, rfl, ite2 (fun _ => ?_) (fun z => absurd (by decide +kernel) z)⟩
          exact ⟨_, rfl, (by show 1 ≤ 1000; decide), raise_what T.ex_Unbalanced rfl fun d H' e' hd' => bad (fun o r z => by rw [hS0] at z; cases z) d H' (fr1.trans e') hd'⟩
        · obtain ⟨o1, o2, o3, _⟩ := bi.sk o okd (by rw [← hS, hS0]; exact List.mem_cons_self)
          have hko : (klL (KS.take i))[o]? = some (.str (kS okd)) := by
            obtain ⟨o', rfl⟩ : ∃ o', o = o' + 1 := ⟨o - 1, by omega⟩
            show ((KS.take i).map fun k => V.str (kS k))[o']? = _
            rw [List.getElem?_map, List.getElem?_take_of_lt (by omega), show o' = o' + 1 - 1 by omega, o3]
            rfl
          have hlo : atI (ni (opnL S)) (-1) = some (.int (o : Int)) := by
            rw [hS0, opn_cons, ← ni_app]
            exact atI_last _ _
          refine ⟨_, rfl, x, _, dx, _, _, rfl, hb1.ob, T.cl_Blocks, T.na_Blocks__kinds, rfl, _, rfl, x, _, dx, _, _, rfl, hb1.ob, T.cl_Blocks, T.na_Blocks__opened, rfl, 1, rfl, op, _, -1, .int (o : Int), rfl, rfl, SqL.of hb1.opn, hlo, kl, _, (o : Int), .str (kS okd), rfl, rfl, SqL.of hb1.kin, atI_nat hko, rfl, _, rfl, ite2 (fun z => ?_) (fun z => ⟨rfl, hb1, fr1, fun _ => ⟨o, r, ?_⟩⟩)⟩
          · refine ⟨_, rfl, (by show 1 ≤ 1000; decide), raise_what T.ex_Unbalanced rfl fun d H' e' hd' => bad (fun o' r' y => ?_) d H' (fr1.trans e') hd'⟩
            rw [hS0] at y
            cases y
            exact absurd z (by decide +kernel)
          · have hi : okd = .iff := by
              by_cases q : okd = .iff
              · exact q
              · exact absurd (show (!decide (V.str (kS okd) = V.str (kS .iff))) = true by rw [decide_eq_false (fun y => q (kS_inj (V.str.inj y)))]; rfl) z
            rw [hi] at hS0
            exact hS0
      · exact ite2 (fun z => absurd (kS_inj (show kS k = kS .els from V.str.inj (of_decide_eq_true z))) e) (fun _ => iteF ⟨rfl, hb1, fr1, fun z => absurd z e⟩)
    rw [hJ]
    rintro σ2 H2 ⟨rfl, hb2, fr2, el⟩
    refine ⟨J (k = .fin → S ≠ []), ?_, ?_⟩
    · rw [hJ]
      refine ⟨_, rfl, rfl, _, rfl, ?_⟩
      by_cases e : k = .fin
      · refine ite2 (fun _ => ?_) (fun z => absurd (by rw [e]; decide +kernel) z)
        refine ⟨_, rfl, x, _, dx, _, _, rfl, hb2.ob, T.cl_Blocks, T.na_Blocks__opened, rfl, op, _, rfl, .inl (SqL.of hb2.opn), rfl, _, rfl, ite2 (fun z => ?_) (fun z => ⟨rfl, hb2, fr2, fun _ y => z (decide_eq_true (by rw [y]; rfl))⟩)⟩
        have z := V.int.inj (of_decide_eq_true z)
        rw [ni_len, opn_len] at z
        have hS0 : S = [] := List.length_eq_zero_iff.mp (by omega)
        exact ⟨_, rfl, (by show 1 ≤ 1000; decide), raise_what T.ex_Unbalanced rfl fun d H' e' hd' => qub (by rw [e, hS0]; rfl) d H' (fr2.trans e') hd'⟩
      · exact ite2 (fun z => absurd (kS_inj (show kS k = kS .fin from V.str.inj (of_decide_eq_true z))) e) (fun _ => iteF ⟨rfl, hb2, fr2, fun z => absurd z e⟩)
    rw [hJ]
    rintro σ3 H3 ⟨rfl, hb3, ex3, fn⟩
    have ok : OkS S k := ⟨dp, el, fn⟩
    have q := q ok
    have fr3 : Fr [op, kl, ar, en] H H3 := Fr.of ex3
    clear hJ J
    -- what is around
    refine ⟨_, rfl, x, _, dx, _, _, rfl, hb3.ob, T.cl_Blocks, T.na_Blocks__around, rfl, .inl ⟨rfl, _, SqL.of hb3.aro⟩, _, rfl, x, _, dx, _, _, rfl, hb3.ob, T.cl_Blocks, T.na_Blocks__opened, rfl, op, _, rfl, .inl ⟨SqL.of hb3.opn, fun tp htp => ?_⟩⟩
    have e4 := Ex.new (o := .tup (ni (opnL S))) htp
    have t4 : TupN (upd H3 tp (.tup (ni (opnL S)))) tp (opnL S) := upd_same
    have hb4 := hb3.mono e4
    have fr4 := fr3.trans (Fr.of (L := [op, kl, ar, en]) e4)
    generalize upd H3 tp (.tup (ni (opnL S))) = H4 at t4 hb4 fr4 ⊢
    refine ⟨ar, _, _, rfl, rfl, hb4.aro, sz_lt (by rw [List.length_map]; omega), ?_⟩
    have hb5 := hb4.put_ar t4
    have fr5 := fr4.trans (Fr.put (L := [op, kl, ar, en]) (o := .lst (as.map V.ref ++ [.ref tp])) (by simp : ar ∈ [op, kl, ar, en]))
    generalize upd H4 ar (.lst (as.map V.ref ++ [.ref tp])) = H5 at hb5 fr5 ⊢
    -- its kind
    refine ⟨_, rfl, x, _, dx, _, _, rfl, hb5.ob, T.cl_Blocks, T.na_Blocks__kinds, rfl, .inl ⟨rfl, _, SqL.of hb5.kin⟩, _, rfl, kl, _, _, rfl, rfl, hb5.kin, sz_lt (by unfold klL; rw [List.length_cons, List.length_map, List.length_take]; omega), ?_⟩
    rw [show klL (KS.take i) ++ [.str (kS k)] = klL (KS.take (i + 1)) by rw [htk]; unfold klL; rw [List.map_append]; rfl]
    have hb6 := hb5.put_kl (KS.take (i + 1))
    have fr6 := fr5.trans (Fr.put (L := [op, kl, ar, en]) (o := .lst (klL (KS.take (i + 1)))) (by simp : kl ∈ [op, kl, ar, en]))
    generalize upd H5 kl (.lst (klL (KS.take (i + 1)))) = H6 at hb6 fr6 ⊢
    have hA : [0] :: (bkAt KS i).A ++ [opnL S] = [0] :: (bkAt KS (i + 1)).A := by rw [hal]; rfl
    rw [hA] at hb6
    refine ⟨fun σ' H' => σ' = [some (.ref x), some (.str (kS k)), some (.int ((i + 1 : Nat) : Int))] ∧ BlA A.Blocks H' x dx op kl ar en (if isClo k then S.tail else S) (KS.take (i + 1)) (as ++ [tp]) ([0] :: (bkAt KS (i + 1)).A) (bkAt KS (i + 1)).E ∧ Fr [op, kl, ar, en] H H', ?_, ?_⟩
    · refine ⟨_, rfl, sz_of (by show 2 ≤ 100000; decide), fun D hD => ⟨D, _, rfl, .inr (SqT.of upd_same), rfl, rfl, _, rfl, ?_⟩⟩
      have e7 := Ex.new (o := .tup [.str "else", .str "end"]) hD
      have hb7 := hb6.mono e7
      have fr7 := fr6.trans (Fr.of (L := [op, kl, ar, en]) e7)
      generalize upd H6 D (.tup [.str "else", .str "end"]) = H7 at hb7 fr7 ⊢
      show if inV (.str (kS k)) [.str "else", .str "end"] = true then _ else _
      rw [in_clo, hel]
      cases hc : isClo k with
      | false => exact iteF ⟨rfl, by simpa using hb7, fr7⟩
      | true =>
        obtain ⟨o, okd, r, hSo, _⟩ := ok.clo hc
        have hno : ∀ e, (o, e) ∉ E0 := fun e => by rw [hE0]; exact bi.es o okd e (by rw [← hS, hSo]; exact List.mem_cons_self)
        have hE20 : E0.length ≤ 1000 := by
          have h1 : (E0.map (·.1)).Nodup := by rw [hE0]; exact bi.en
          have h2 : ∀ z ∈ E0.map (·.1), z ∈ List.range 60 := fun z hz => by
            obtain ⟨⟨a, b⟩, hm, rfl⟩ := List.mem_map.mp hz
            rw [hE0] at hm
            have := bi.ek a b hm
            exact List.mem_range.mpr (by show a < 60; omega)
          have h3 := List.Nodup.length_le_of_subset h1 h2
          rw [List.length_map, List.length_range] at h3
          omega
        have hx7 : (ni (opnL S))[(ni (opnL S)).length - 1]? = some (.int (o : Int)) := by
          rw [hSo, opn_cons, ← ni_app]
          simp [ni]
        have hdl : (ni (opnL S)).dropLast = ni (opnL r) := by
          rw [hSo, opn_cons, ← ni_app]
          simp [ni]
        refine iteT ⟨_, rfl, _, rfl, x, _, dx, _, _, rfl, hb7.ob, T.cl_Blocks, T.na_Blocks__enders, rfl, _, rfl, x, _, dx, _, _, rfl, hb7.ob, T.cl_Blocks, T.na_Blocks__opened, rfl, .inl ⟨rfl, _, SqL.of hb7.opn⟩, op, _, .int (o : Int), rfl, rfl, hb7.opn, hx7, en, upd (upd H7 op (.lst (ni (opnL r)))) en (.dK (enK (E0 ++ [(o, i + 1)]))), rfl, ?_, ?_⟩
        · rw [hdl, ← put_en hno]
          exact DPut.k (k := Sum.inl (o : Int)) (hb7.put_op r).end_ (sz_lt (by rw [en_len]; omega))
        · have h8 := (hb7.put_op r).put_en (E0 ++ [(o, i + 1)])
          have he : E0 ++ (if true = true then endE S (i + 1) else []) = E0 ++ [(o, i + 1)] := by rw [if_pos rfl, hSo]; rfl
          have hs : (if true = true then S.tail else S) = r := by rw [if_pos rfl, hSo]; rfl
          rw [he, hs]
          exact ⟨rfl, h8, (fr7.trans (Fr.put (by simp))).trans (Fr.put (by simp))⟩
    rintro σ4 H8 ⟨rfl, hb8, fr8⟩
    refine ⟨_, rfl, sz_of (by show 4 ≤ 100000; decide), fun D hD => ⟨D, _, rfl, .inr (SqT.of upd_same), rfl, rfl, _, rfl, ?_⟩⟩
    have e9 := Ex.new (o := .tup [.str "block", .str "if", .str "loop", .str "else"]) hD
    have hb9 := hb8.mono e9
    have fr9 := fr8.trans (Fr.of (L := [op, kl, ar, en]) e9)
    generalize upd H8 D (.tup [.str "block", .str "if", .str "loop", .str "else"]) = H9 at hb9 fr9 ⊢
    show if inV (.str (kS k)) [.str "block", .str "if", .str "loop", .str "else"] = true then _ else _
    rw [in_opn]
    unfold BlAt at q
    rw [hsl] at q
    cases ho : isOpn k with
    | false =>
      refine iteF (q H9 ⟨as ++ [tp], ?_⟩ fr9)
      rw [ho]
      exact hb9
    | true =>
      refine iteT ⟨_, rfl, x, _, dx, _, _, rfl, hb9.ob, T.cl_Blocks, T.na_Blocks__opened, rfl, .inl ⟨rfl, _, SqL.of hb9.opn⟩, _, rfl, op, _, _, rfl, rfl, hb9.opn, sz_lt ?_, q _ ⟨as ++ [tp], ?_⟩ (fr9.trans (Fr.put (by simp)))⟩
      · rw [ni_len, opn_len]
        have : (if isClo k = true then S.tail else S).length ≤ S.length := by
          split
          · rw [List.length_tail]; omega
          · exact Nat.le_refl _
        have h2 : S.length ≤ 60 := by
          have h1 : (S.map (·.1)).Nodup := by rw [hS]; exact bi.sn
          have h2 : ∀ z ∈ S.map (·.1), z ∈ List.range 60 := fun z hz => by
            obtain ⟨⟨a, b⟩, hm, rfl⟩ := List.mem_map.mp hz
            rw [hS] at hm
            have := bi.sk a b hm
            exact List.mem_range.mpr (by show a < 60; omega)
          have h3 := List.Nodup.length_le_of_subset h1 h2
          rw [List.length_map, List.length_range] at h3
          omega
        omega
      · rw [ho]
        have h10 := hb9.put_op ((i + 1, k) :: (if isClo k = true then S.tail else S))
        rw [opn_cons, ← ni_app] at h10
        exact h10
end
end K24

set_option Elab.async false
set_option linter.all false
set_option maxRecDepth 100000
namespace K24
open PySem PySem.Spec PyProof.Rows L2 Evl TL UL StX
section
variable {P : Program} {w : World} {K : PySem.W.Frag} {mg : Str → Option Value} {base : Heap} {A : Adr}
/-! ### the blocks of a whole program -/
def BlF (B : Addr) (H : Hp) (x dx op kl ar en : Addr) (KS : List Kd) : Prop := ∃ as, BlA B H x dx op kl ar en [] KS as ([0] :: (bkAt KS KS.length).A ++ [[0]]) ((bkAt KS KS.length).E ++ [(0, KS.length + 1)])
theorem BlF.mono {B : Addr} {H H' : Hp} {x dx op kl ar en : Addr} {KS : List Kd} (e : Ex H H') (h : BlF B H x dx op kl ar en KS) : BlF B H' x dx op kl ar en KS := by
  obtain ⟨as, h⟩ := h
  exact ⟨as, h.mono e⟩
theorem E_len {KS : List Kd} (bal : Bal KS) : (bkAt KS KS.length).E.length ≤ 1000 := by
  have bi := bi_at bal.ok KS.length (Nat.le_refl _)
  have l48 := bal.len
  have h2 : ∀ z ∈ (bkAt KS KS.length).E.map (·.1), z ∈ List.range 60 := fun z hz => by
    obtain ⟨⟨a, b⟩, hm, rfl⟩ := List.mem_map.mp hz
    have := bi.ek a b hm
    exact List.mem_range.mpr (by show a < 60; omega)
  have h3 := List.Nodup.length_le_of_subset bi.en h2
  rw [List.length_map, List.length_range] at h3
  omega
def spBlFin (B UB : Addr) : Sp := fun vs H Q E => ∃ x dx op kl ar en KS, vs = [.ref x] ∧ BlAt B H x dx op kl ar en KS KS.length ∧ Pf KS KS.length ∧ KS.length ≤ 48 ∧ ((bkAt KS KS.length).S = [] → ∀ H', BlF B H' x dx op kl ar en KS → Fr [op, kl, ar, en] H H' → Q .non H') ∧
  ((bkAt KS KS.length).S ≠ [] → ∀ d H', Ex H H' → H' d = some (.xd [("what", .int ((KS.length + 1 : Nat) : Int))]) → E (.ref UB) (some d) H')
theorem ok_bl_fin (T : Tx0 w K mg A) : FnOk P w K mg base (L2.CX P w) 4 A.bl_fin A.d_bl_fin p_bl_fin (spBlFin A.Blocks A.Unbalanced) := by
  refine T.F_bl_fin.okX sc_bl_fin (fun vs H Q E h => ?_) (fun cdv Ar outer s H vs Q E hr h => ?_)
  · obtain ⟨x, dx, op, kl, ar, en, KS, rfl, _⟩ := h
    rfl
  · obtain ⟨x, dx, op, kl, ar, en, KS, rfl, ⟨as, hb⟩, pf, l48, q, qe⟩ := h
    refine ⟨_, (pss_cons (ps_set (i := 1) sc_bl_fin.nd rfl (Or.inl rfl) (pe_callB call_len_seq (by rfl) T.m_len PySem.boot_len (pa_cons (pe_fld (pv 0) rfl) pa_nil)))
      (pss_cons (ps_if (pt_cmpR op_gt (pe_callB call_len_seq (by rfl) T.m_len PySem.boot_len (pa_cons (pe_fld (pv 0) rfl) pa_nil)) pe_int (nomark _)) (pss_one (ps_raise rfl (takes_of rfl rfl rfl rfl) (pmk_oex T.ex_Unbalanced.ox T.ex_Unbalanced.ii T.ti_lives_init (ok_lives_init T) (hr.mono (by decide)) T.b_lives_init .nil pass0 (by rfl) T.g_Unbalanced (pa_cons (pv 1) pa_nil)))) pss_nil)
      (pss_cons (ps_expr (pe_bm PySem.F.plainAttrs_list PySem.F.slot_list_append PySem.F.type_list_append mt_append (pe_fld (pv 0) rfl) (pa_cons (pe_tup (pa_cons pe_int pa_nil)) pa_nil)))
      (pss_one (ps_dput (hu_of hr) (pe_fld (pv 0) rfl) pe_int (pv 1) rfl))))), ?_⟩
    have bi := bi_pf KS.length pf (Nat.le_refl _)
    have las : as.length = KS.length + 1 := by rw [hb.arl.len, List.length_cons, bi.al]
    by_cases hS : (bkAt KS KS.length).S = []
    · have bal := pf_bal pf hS l48
      have q := q hS
      rw [hS, List.take_length] at hb
      refine ⟨_, rfl, x, _, dx, _, _, rfl, hb.ob, T.cl_Blocks, T.na_Blocks__around, rfl, ar, _, rfl, .inl (SqL.of hb.aro), ?_⟩
      rw [List.length_map, las]
      refine ⟨_, rfl, x, _, dx, _, _, rfl, hb.ob, T.cl_Blocks, T.na_Blocks__opened, rfl, op, _, rfl, .inl (SqL.of hb.opn), _, 1, rfl, rfl, _, rfl, ite2 (fun z => absurd (of_decide_eq_true z) (by rw [ni_len, opn_len]; show ¬ (1 : Int) < ((0 + 1 : Nat) : Int); omega)) (fun _ => ?_)⟩
      refine ⟨_, rfl, x, _, dx, _, _, rfl, hb.ob, T.cl_Blocks, T.na_Blocks__around, rfl, .inl ⟨rfl, _, SqL.of hb.aro⟩, sz_of (by show 1 ≤ 100000; decide), fun tp htp => ?_⟩
      have e4 := Ex.new (o := .tup [.int 0]) htp
      have t4 : TupN (upd H tp (.tup [.int 0])) tp [0] := upd_same
      have hb4 := hb.mono e4
      have fr4 := Fr.of (L := [op, kl, ar, en]) e4
      generalize upd H tp (.tup [.int 0]) = H4 at t4 hb4 fr4 ⊢
      refine ⟨ar, _, _, rfl, rfl, hb4.aro, sz_lt (by rw [List.length_map]; omega), ?_⟩
      have hb5 := hb4.put_ar t4
      have fr5 := fr4.trans (Fr.put (L := [op, kl, ar, en]) (o := .lst (as.map V.ref ++ [.ref tp])) (by simp : ar ∈ [op, kl, ar, en]))
      generalize upd H4 ar (.lst (as.map V.ref ++ [.ref tp])) = H5 at hb5 fr5 ⊢
      have hno : ∀ e, (0, e) ∉ (bkAt KS KS.length).E := fun e hm => by have := bi.ek 0 e hm; omega
      refine ⟨_, rfl, _, rfl, x, _, dx, _, _, rfl, hb5.ob, T.cl_Blocks, T.na_Blocks__enders, rfl, en, upd H5 en (.dK (enK ((bkAt KS KS.length).E ++ [(0, KS.length + 1)]))), rfl, ?_, ?_⟩
      · rw [← put_en hno]
        exact DPut.k (k := Sum.inl (0 : Int)) hb5.end_ (sz_lt (by rw [en_len]; have := E_len bal; omega))
      · exact q _ ⟨as ++ [tp], hb5.put_en _⟩ (fr5.trans (Fr.put (by simp)))
    · have hpos : 1 ≤ (bkAt KS KS.length).S.length := List.length_pos_iff.mpr hS
      refine ⟨_, rfl, x, _, dx, _, _, rfl, hb.ob, T.cl_Blocks, T.na_Blocks__around, rfl, ar, _, rfl, .inl (SqL.of hb.aro), ?_⟩
      rw [List.length_map, las]
      refine ⟨_, rfl, x, _, dx, _, _, rfl, hb.ob, T.cl_Blocks, T.na_Blocks__opened, rfl, op, _, rfl, .inl (SqL.of hb.opn), _, 1, rfl, rfl, _, rfl, ite2 (fun _ => ?_) (fun z => absurd (decide_eq_true (by rw [ni_len, opn_len]; omega)) z)⟩
      exact ⟨_, rfl, (by show 1 ≤ 1000; decide), raise_what T.ex_Unbalanced rfl fun d H' e' hd' => qe hS d H' e' hd'⟩
def inn (KS : List Kd) (k : Nat) : Nat := match (bkAt KS (k - 1)).S with
  | (o, _) :: _ => o
  | [] => 0
theorem opn_last (S : List (Nat × Kd)) : atI (ni (opnL S)) (-1) = some (V.int (((match S with | (o, _) :: _ => o | [] => 0 : Nat) : Nat) : Int)) := by
  cases S with
  | nil => exact atI_last [] (V.int 0)
  | cons p r =>
    obtain ⟨o, kd⟩ := p
    rw [opn_cons, ← ni_app]
    exact atI_last _ _
theorem ar_at {KS : List Kd} (bal : Bal KS) {k : Nat} {l : List Nat} (hk : k ≤ KS.length) (hl : ([0] :: (bkAt KS KS.length).A ++ [[0]])[k + 1]? = some l) : l = opnL (bkAt KS k).S := by
  have bi := bi_at bal.ok KS.length (Nat.le_refl _)
  by_cases e : k = KS.length
  · subst e
    rw [bal.fin]
    rw [List.getElem?_append_right (by rw [List.length_cons, bi.al]; exact Nat.le_refl _), List.length_cons, bi.al, Nat.sub_self] at hl
    exact (Option.some.inj hl).symm
  · rw [List.getElem?_append_left (by rw [List.length_cons, bi.al]; omega), List.getElem?_cons_succ, bi.aa k (by omega)] at hl
    exact (Option.some.inj hl).symm
/-- what is around each place up to m -/
def arD (KS : List Kd) (k : Nat) : List Nat := opnL (bkAt KS (k - 1)).S
structure BlR (B : Addr) (H : Hp) (x : Addr) (KS : List Kd) (m : Nat) : Prop where
  at_ : ∃ (dx op kl ar en : Addr) (as : List Addr), H x = some (.ins B dx (blF op kl ar en)) ∧ H ar = some (.lst (as.map V.ref)) ∧ m < as.length ∧ ∀ k, k ≤ m → ∀ a, as[k]? = some a → TupN H a (arD KS k)
theorem BlR.mono {B : Addr} {H H' : Hp} {x : Addr} {KS : List Kd} {m : Nat} (e : Ex H H') (h : BlR B H x KS m) : BlR B H' x KS m := by
  obtain ⟨dx, op, kl, ar, en, as, h1, h2, h3, h4⟩ := h
  exact ⟨dx, op, kl, ar, en, as, e _ _ h1, e _ _ h2, h3, fun k hk a ha => (h4 k hk a ha).mono e⟩
theorem BlAt.br {B : Addr} {H : Hp} {x dx op kl ar en : Addr} {KS : List Kd} {i : Nat} (h : BlAt B H x dx op kl ar en KS i) (bi : BI KS i (bkAt KS i)) : BlR B H x KS i := by
  obtain ⟨as, hb⟩ := h
  have las : as.length = i + 1 := by rw [hb.arl.len, List.length_cons, bi.al]
  refine ⟨dx, op, kl, ar, en, as, hb.ob, hb.aro, by omega, fun k hk a ha => ?_⟩
  obtain ⟨l, hl, hal⟩ := hb.arl.get k a ha
  have e : l = arD KS k := by
    unfold arD
    cases k with
    | zero => exact (Option.some.inj hl).symm
    | succ k =>
      rw [List.getElem?_cons_succ, bi.aa k (by omega)] at hl
      exact (Option.some.inj hl).symm
  rw [← e]
  exact hal
theorem BlF.br {B : Addr} {H : Hp} {x dx op kl ar en : Addr} {KS : List Kd} (h : BlF B H x dx op kl ar en KS) (bal : Bal KS) : BlR B H x KS (KS.length + 1) := by
  obtain ⟨as, hb⟩ := h
  have bi := bi_at bal.ok KS.length (Nat.le_refl _)
  have las : as.length = KS.length + 2 := by rw [hb.arl.len, List.length_append, List.length_cons, bi.al]; rfl
  refine ⟨dx, op, kl, ar, en, as, hb.ob, hb.aro, by omega, fun k hk a ha => ?_⟩
  obtain ⟨l, hl, hal⟩ := hb.arl.get k a ha
  have e : l = arD KS k := by
    unfold arD
    cases k with
    | zero => exact (Option.some.inj hl).symm
    | succ k => exact ar_at bal (by omega) hl
  rw [← e]
  exact hal
def spBlAround (B : Addr) : Sp := fun vs H Q _ => ∃ x KS m k, vs = [.ref x, .int ((k : Nat) : Int)] ∧ BlR B H x KS m ∧ k ≤ m ∧ ∀ a, H a = some (.tup (ni (arD KS k))) → Q (.ref a) H
theorem ok_bl_around (T : Tx0 w K mg A) : FnOk P w K mg base CX0 1 A.bl_around A.d_bl_around p_bl_around (spBlAround A.Blocks) := by
  refine T.F_bl_around.ok sc_bl_around (fun vs H Q E h => ?_) (fun cdv Ar outer s H vs Q E hr h => ?_)
  · obtain ⟨x, KS, m, k, rfl, _⟩ := h
    rfl
  · obtain ⟨x, KS, m, k, rfl, ⟨dx, op, kl, ar, en, as, h1, h2, h3, h4⟩, hk, q⟩ := h
    refine ⟨_, (pss_one (ps_ret (pe_ix ix_list (pe_fld (pv 0) rfl) (pv 1) (fun _ _ => rfl)))), ?_⟩
    have hka : k < as.length := by omega
    have ha := List.getElem?_eq_getElem hka
    exact ⟨_, rfl, x, _, dx, _, _, rfl, h1, T.cl_Blocks, T.na_Blocks__around, rfl, _, rfl, ar, _, ((k : Nat) : Int), .ref as[k], rfl, rfl, SqL.of h2, atI_nat (by rw [List.getElem?_map, ha]; rfl), q _ (h4 k hk _ ha)⟩
def spBlInner (B : Addr) : Sp := fun vs H Q _ => ∃ x KS m k, vs = [.ref x, .int ((k : Nat) : Int)] ∧ BlR B H x KS m ∧ k ≤ m ∧ Q (.int ((inn KS k : Nat) : Int)) H
theorem ok_bl_inner (T : Tx0 w K mg A) : FnOk P w K mg base CX0 1 A.bl_inner A.d_bl_inner p_bl_inner (spBlInner A.Blocks) := by
  refine T.F_bl_inner.ok sc_bl_inner (fun vs H Q E h => ?_) (fun cdv Ar outer s H vs Q E hr h => ?_)
  · obtain ⟨x, KS, m, k, rfl, _⟩ := h
    rfl
  · obtain ⟨x, KS, m, k, rfl, ⟨dx, op, kl, ar, en, as, h1, h2, h3, h4⟩, hk, q⟩ := h
    refine ⟨_, (pss_one (ps_ret (pe_ix ix_tup (pe_ix ix_list (pe_fld (pv 0) rfl) (pv 1) (fun _ _ => rfl)) (pe_un un_neg pe_int) (fun _ _ => rfl)))), ?_⟩
    have hka : k < as.length := by omega
    have ha := List.getElem?_eq_getElem hka
    exact ⟨_, rfl, x, _, dx, _, _, rfl, h1, T.cl_Blocks, T.na_Blocks__around, rfl, _, rfl, ar, _, ((k : Nat) : Int), .ref as[k], rfl, rfl, SqL.of h2, atI_nat (by rw [List.getElem?_map, ha]; rfl), 1, rfl, as[k], _, -1, _, rfl, rfl, SqT.of (h4 k hk _ ha), opn_last _, q⟩
/-! ### the names of a program -/
def prE (b o x r kd hm : Addr) : List (Str × V) := [("book", .ref b), ("outs", .ref o), ("blocks", .ref x), ("_rows", .ref r), ("_kinds", .ref kd), ("_homes", .ref hm)]
def txF : Option Str → List (Str × V)
  | some z => [("_text", .str z)]
  | none => []
/-- a name, what it is, its row -/
abbrev Nm := Str × Str × Nat
def kindsD (E : List Nm) : List (Key × V) := E.map fun e => (Sum.inr e.1, V.str e.2.1)
def homesD (E : List Nm) : List (Key × V) := E.map fun e => (Sum.inr e.1, V.int ((e.2.2 : Nat) : Int))
def declR (j : Nat) (r : Rwd) : List Nm := if r.k = .val ∨ r.k = .ref then [(r.nm, kS r.k, j)] else []
def envR : Nat → List Rwd → List Nm
  | _, [] => []
  | j, r :: t => declR j r ++ envR (j + 1) t
def envO (os : List Str) : List Nm := os.map fun o => (o, ("out" : Str), 0)
def envAt (os : List Str) (rs : List Rwd) (i : Nat) : List Nm := envO os ++ envR 1 (rs.take i)
theorem envR_snoc (r : Rwd) : ∀ (l : List Rwd) (j : Nat), envR j (l ++ [r]) = envR j l ++ declR (j + l.length) r
  | [], j => by show declR j r ++ [] = [] ++ declR (j + 0) r; rw [List.append_nil]; rfl
  | x :: t, j => by
    show declR j x ++ envR (j + 1) (t ++ [r]) = (declR j x ++ envR (j + 1) t) ++ declR (j + (t.length + 1)) r
    rw [envR_snoc r t (j + 1), List.append_assoc, show j + 1 + t.length = j + (t.length + 1) by omega]
theorem env_succ {os : List Str} {rs : List Rwd} {i : Nat} {r : Rwd} (h : rs[i]? = some r) : envAt os rs (i + 1) = envAt os rs i ++ declR (i + 1) r := by
  have hl := (List.getElem?_eq_some_iff.mp h).1
  unfold envAt
  rw [List.take_add_one, h]
  show _ ++ envR 1 (rs.take i ++ [r]) = _
  rw [envR_snoc, List.length_take, Nat.min_eq_left (by omega), List.append_assoc, Nat.add_comm 1 i]
/-- the entry of a name -/
def entOf (E : List Nm) (w : Str) : Option Nm := E.find? fun e => decide (e.1 = w)
def inSc (KS : List Kd) (E : List Nm) (w : Str) (k : Nat) : Bool := match entOf E w with
  | some e => decide (e.2.2 < k) && decide (inn KS e.2.2 ∈ arD KS k)
  | none => false
theorem find_map {α β γ : Type} [DecidableEq γ] (f : α → γ) (g : α → β) (h : γ → Key) (hi : ∀ a b, h a = h b → a = b) (w : γ) (v : β → V) (G : α → V) : ∀ E : List α, valV (E.map fun e => (h (f e), G e)) (h w) = (E.find? fun e => decide (f e = w)).map G
  | [] => rfl
  | e :: t => by
    rw [List.map_cons, List.find?_cons]
    by_cases q : f e = w
    · rw [decide_eq_true q]
      exact valV_pos (congrArg h q)
    · rw [decide_eq_false q, valV_neg (fun z => q (hi _ _ z))]
      exact find_map f g h hi w v G t
theorem kinds_get (E : List Nm) (w : Str) : valV (kindsD E) (Sum.inr w) = (entOf E w).map fun e => V.str e.2.1 :=
  find_map (β := V) (fun e : Nm => e.1) (fun _ => V.non) (fun z => (Sum.inr z : Key)) (fun a b z => Sum.inr.inj z) w id (fun e => V.str e.2.1) E
theorem homes_get (E : List Nm) (w : Str) : valV (homesD E) (Sum.inr w) = (entOf E w).map fun e => V.int ((e.2.2 : Nat) : Int) :=
  find_map (β := V) (fun e : Nm => e.1) (fun _ => V.non) (fun z => (Sum.inr z : Key)) (fun a b z => Sum.inr.inj z) w id (fun e => V.int ((e.2.2 : Nat) : Int)) E
theorem ent_none {E : List Nm} {w : Str} : entOf E w = none ↔ w ∉ E.map (·.1) := by
  unfold entOf
  rw [List.find?_eq_none]
  constructor
  · intro h m
    obtain ⟨e, he, z⟩ := List.mem_map.mp m
    exact h e he (decide_eq_true z)
  · intro h e he z
    exact h (List.mem_map.mpr ⟨e, he, of_decide_eq_true z⟩)
theorem ent_mem {E : List Nm} {w : Str} {e : Nm} (h : entOf E w = some e) : e ∈ E ∧ e.1 = w := by
  unfold entOf at h
  exact ⟨List.mem_of_find?_eq_some h, by simpa using List.find?_some h⟩
theorem kinds_put {E : List Nm} {w k : Str} {j : Nat} (h : w ∉ E.map (·.1)) : putK (kindsD E) (Sum.inr w) (.str k) = kindsD (E ++ [(w, k, j)]) := by
  rw [putK_new _ (by rw [kinds_get, ent_none.mpr h]; rfl)]
  unfold kindsD
  rw [List.map_append]
  rfl
theorem homes_put {E : List Nm} {w k : Str} {j : Nat} (h : w ∉ E.map (·.1)) : putK (homesD E) (Sum.inr w) (.int ((j : Nat) : Int)) = homesD (E ++ [(w, k, j)]) := by
  rw [putK_new _ (by rw [homes_get, ent_none.mpr h]; rfl)]
  unfold homesD
  rw [List.map_append]
  rfl
theorem kinds_len (E : List Nm) : (kindsD E).length = E.length := by unfold kindsD; rw [List.length_map]
theorem homes_len (E : List Nm) : (homesD E).length = E.length := by unfold homesD; rw [List.length_map]
/-- the two dicts -/
structure NmAt (H : Hp) (kd hm : Addr) (E : List Nm) : Prop where
  k : H kd = some (.dK (kindsD E))
  h : H hm = some (.dK (homesD E))
  ne : kd ≠ hm
theorem NmAt.mono {H H' : Hp} {kd hm : Addr} {E : List Nm} (e : Ex H H') (h : NmAt H kd hm E) : NmAt H' kd hm E := ⟨e _ _ h.k, e _ _ h.h, h.ne⟩
theorem in_ni (n : Nat) (l : List Nat) : inV (.int ((n : Nat) : Int)) (ni l) = decide (n ∈ l) := by
  unfold inV ni
  by_cases h : n ∈ l
  · rw [decide_eq_true h, List.any_eq_true]
    exact ⟨_, List.mem_map.mpr ⟨n, h, rfl⟩, decide_eq_true rfl⟩
  · rw [decide_eq_false h, List.any_eq_false]
    intro v hv
    obtain ⟨m, hm, rfl⟩ := List.mem_map.mp hv
    intro z
    have z : (m : Int) = (n : Int) := of_decide_eq_true z
    have z : m = n := by omega
    exact h (z ▸ hm)
theorem ni_flat (l : List Nat) : (ni l).all flatV = true := by
  unfold ni
  rw [List.all_map, List.all_eq_true]
  exact fun _ _ => rfl
def rtQ (Q : VK) (b : Bool) (H : Hp) : Prop := Q (.bl b) H
/-! is a name in scope -/
def spScope (P0 BL : Addr) : Sp := fun vs H Q _ => ∃ (p dx b o x r kd hm : Addr) (tz : Option Str) (k : Nat) (w : Str) (E : List Nm) (KS : List Kd) (m : Nat), vs = [.ref p, .int ((k : Nat) : Int), .str w] ∧ H p = some (.ins P0 dx (prE b o x r kd hm ++ txF tz)) ∧ H hm = some (.dK (homesD E)) ∧ BlR BL H x KS m ∧ k ≤ m ∧ (∀ e ∈ E, e.2.2 ≤ m) ∧ Q (.bl (inSc KS E w k)) H
theorem ok_pr_scope (T : Tx0 w K mg A) : FnOk P w K mg base CX0 3 A.pr_scope A.d_pr_scope p_pr_scope (spScope A.Program A.Blocks) := by
  refine T.F_pr_scope.ok sc_pr_scope (fun vs H Q E h => ?_) (fun cdv Ar outer s H vs Q E hr h => ?_)
  · obtain ⟨p, dx, b, o, x, r, kd, hm, tz, k, w, E, KS, m, rfl, _⟩ := h
    rfl
  · obtain ⟨p, dx, b, o, x, r, kd, hm, tz, k, w, E, KS, m, rfl, hp, hh, hb, hk, hE, q⟩ := h
    refine ⟨_, (pss_cons (ps_if (PW.pt (pw_or (pt_cmp (pc_dnotin (hu_of hr) (pv 2) (pe_fld (pv 0) rfl))) (pw_or1 (pt_cmpR op_ge (pe_dget (hu_of hr) (pe_fld (pv 0) rfl) (pv 2) (fun _ _ => rfl)) (pv 1) (nomark _))))) (pss_one (ps_ret pe_bl)) pss_nil)
      (pss_one (ps_ret (pe_cmpR op_in_seq (pe_meth (pe_fld (pv 0) rfl) T.cl_Blocks T.e_bl_inner (ok_bl_inner T) (hr.mono (by decide)) T.b_bl_inner .nil pass0 (pa_cons (pe_dget (hu_of hr) (pe_fld (pv 0) rfl) (pv 2) (fun _ _ => rfl)) pa_nil)) (pe_meth (pe_fld (pv 0) rfl) T.cl_Blocks T.e_bl_around (ok_bl_around T) (hr.mono (by decide)) T.b_bl_around .nil pass0 (pa_cons (pv 1) pa_nil)) (by rfl))))), ?_⟩
    refine ⟨_, rfl, _, rfl, p, _, dx, _, _, rfl, hp, T.cl_Program, T.na_Program__homes, rfl, hm, _, rfl, DGet.k (k := Sum.inr w) hh, ?_⟩
    rw [homes_get]
    cases he : entOf E w with
    | none =>
      have hq : inSc KS E w k = false := by unfold inSc; rw [he]
      rw [hq] at q
      exact ⟨true, rfl, iteT (iteT q)⟩
    | some e =>
      have hg : DGet H hm (.str w) (some (.int ((e.2.2 : Nat) : Int))) := by
        have := DGet.k (k := Sum.inr w) hh
        rw [homes_get, he] at this
        exact this
      have hem := hE e (ent_mem he).1
      have hq : inSc KS E w k = (decide (e.2.2 < k) && decide (inn KS e.2.2 ∈ arD KS k)) := by unfold inSc; rw [he]
      rw [hq] at q
      have hbx := hb
      obtain ⟨bdx, op, kl, ar, en, as, b1, _⟩ := hbx
      refine ⟨false, rfl, iteF ⟨_, rfl, p, _, dx, _, _, rfl, hp, T.cl_Program, T.na_Program__homes, rfl, _, rfl, hm, _, rfl, hg, _, rfl, _, _, rfl, rfl, _, rfl, ?_⟩⟩
      by_cases hlt : e.2.2 < k
      · rw [decide_eq_true hlt, Bool.true_and] at q
        refine ite2 (fun z => absurd (of_decide_eq_true z) (by omega)) (fun _ => ?_)
        refine ⟨_, rfl, p, _, dx, _, _, rfl, hp, T.cl_Program, T.na_Program_blocks, rfl, x, bdx, _, rfl, b1, rfl, _, rfl, p, _, dx, _, _, rfl, hp, T.cl_Program, T.na_Program__homes, rfl, _, rfl, hm, _, rfl, hg, x, KS, m, e.2.2, rfl, hb, hem, ?_⟩
        refine ⟨_, rfl, p, _, dx, _, _, rfl, hp, T.cl_Program, T.na_Program_blocks, rfl, x, bdx, _, rfl, b1, rfl, _, rfl, x, KS, m, k, rfl, hb, hk, fun a ha => ?_⟩
        refine ⟨a, _, rfl, .inr (SqT.of ha), rfl, ni_flat _, ?_⟩
        show rtQ Q (inV (.int ((inn KS e.2.2 : Nat) : Int)) (ni (arD KS k))) H
        rw [in_ni]
        exact q
      · rw [decide_eq_false hlt, Bool.false_and] at q
        exact ite2 (fun _ => q) (fun z => absurd (decide_eq_true (by omega)) z)
end
end K24

set_option Elab.async false
set_option linter.all false
set_option maxRecDepth 100000
namespace K24
open PySem PySem.Spec PyProof.Rows L2 Evl TL UL StX
section
variable {P : Program} {w : World} {K : PySem.W.Frag} {mg : Str → Option Value} {base : Heap} {A : Adr}
/-! ### what is due, as data -/
inductive Er
  | lg (z : Str) | dn (w : Str) | un (w : Str) | uf (w : Str) | wc (w : Str) | nr (w : Str) | ub (j : Nat)
deriving DecidableEq
def erV : Er → V
  | .lg z => .str z
  | .dn w => .str w
  | .un w => .str w
  | .uf w => .str w
  | .wc w => .str w
  | .nr w => .str w
  | .ub j => .int ((j : Nat) : Int)
def erA (A : Adr) : Er → Addr
  | .lg _ => A.TooLarge
  | .dn _ => A.DuplicateName
  | .un _ => A.UnknownName
  | .uf _ => A.UnknownFunction
  | .wc _ => A.WrongCount
  | .nr _ => A.NotReference
  | .ub _ => A.Unbalanced
def Rz (A : Adr) (E : XK) (H : Hp) (er : Er) : Prop := ∀ d H', Ex H H' → H' d = some (.xd [("what", erV er)]) → E (.ref (erA A er)) (some d) H'
theorem Rz.of {A : Adr} {E : XK} {H H' : Hp} {er : Er} (e : Ex H H') (h : Rz A E H er) : Rz A E H' er := fun d H2 e2 hd => h d H2 (e.trans e2) hd
/-- the first that is due in a list -/
theorem some_first {α β : Type} {f : α → Option β} : ∀ {l : List α} {i : Nat} {x : α} {y : β}, (∀ j z, j < i → l[j]? = some z → f z = none) → l[i]? = some x → f x = some y → l.findSome? f = some y
  | [], i, x, y, _, h, _ => by simp at h
  | a :: r, 0, x, y, _, h, hf => by
    cases h
    rw [List.findSome?_cons, hf]
  | a :: r, i + 1, x, y, h0, h, hf => by
    rw [List.findSome?_cons, h0 0 a (by omega) rfl]
    exact some_first (fun j z hj hz => h0 (j + 1) z (by omega) hz) h hf
theorem none_first {α β : Type} {f : α → Option β} {l : List α} (h : l.findSome? f = none) : ∀ {j : Nat} {z : α}, l[j]? = some z → f z = none := fun hz => List.findSome?_eq_none_iff.mp h _ (List.mem_of_getElem? hz)
theorem all_none {α β : Type} {f : α → Option β} {l : List α} (h : ∀ j z, j < l.length → l[j]? = some z → f z = none) : l.findSome? f = none := by
  rw [List.findSome?_eq_none_iff]
  intro x hx
  obtain ⟨j, hj⟩ := List.getElem?_of_mem hx
  exact h j x (List.getElem?_eq_some_iff.mp hj).1 hj
def ndD (bs : List Rw) (KS : List Kd) (E : List Nm) (k : Nat) : Nd → Option Er
  | .name w => if inSc KS E w k = true then none else some (.un w)
  | .call w os => (match bs.find? fun b => decide (b.1 = w) with
    | some b => if b.2.1 = (os.length : Int) then none else some (.wc w)
    | none => some (.uf w))
  | .op _ _ => none
def ndsD (bs : List Rw) (KS : List Kd) (E : List Nm) (k : Nat) (ns : List Nd) : Option Er := ns.findSome? (ndD bs KS E k)
def nmD (KS : List Kd) (E : List Nm) (k : Nat) (r : Rwd) : Option Er :=
  if r.k = .set then (if inSc KS E r.nm k = true then (match entOf E r.nm with
    | some e => if e.2.1 = "val" then some (.nr r.nm) else none
    | none => none) else some (.un r.nm))
  else if r.k = .val ∨ r.k = .ref then (if r.nm ∈ E.map (·.1) then some (.dn r.nm) else if E.length = 16 then some (.lg "names") else none)
  else none
def outD : List Str → List Str → Option Er
  | _, [] => none
  | seen, o :: r => if o ∈ seen then some (.dn o) else outD (seen ++ [o]) r
def outsD (os : List Str) : Option Er := match outD [] os with
  | some er => some er
  | none => if 16 < os.length then some (.lg "names") else none
def cntR (rs : List Rwd) (i : Nat) : Nat := ((rs.take i).map fun r => r.ns.length).sum
def rowD (bs : List Rw) (os : List Str) (rs : List Rwd) (i : Nat) : Option Er := match rs[i]? with
  | none => none
  | some r => (match dueS (bkAt (rs.map Rwd.k) i).S r.k with
    | .lg => some (.lg "depth")
    | .ub => some (.ub (i + 1))
    | .ok => if isX r.k = true then (if 100 < cntR rs (i + 1) then some (.lg "nodes") else (match ndsD bs (rs.map Rwd.k) (envAt os rs i) (i + 1) r.ns with
        | some er => some er
        | none => nmD (rs.map Rwd.k) (envAt os rs i) (i + 1) r)) else none)
def rowsD (bs : List Rw) (os : List Str) (rs : List Rwd) : Option Er := match (List.range rs.length).findSome? (rowD bs os rs) with
  | some er => some er
  | none => if (bkAt (rs.map Rwd.k) rs.length).S = [] then none else some (.ub (rs.length + 1))
def progD (bs : List Rw) (os : List Str) (rs : List Rwd) : Option Er :=
  if 48 < rs.length then some (.lg "rows") else (match outsD os with
    | some er => some er
    | none => rowsD bs os rs)
def spCheck (A : Adr) : Sp := fun vs H Q Er0 => ∃ (p dx b o x r kd hm : Addr) (tz : Option Str) (k : Nat) (w : Str) (E : List Nm) (KS : List Kd) (m : Nat), vs = [.ref p, .int ((k : Nat) : Int), .str w] ∧ H p = some (.ins A.Program dx (prE b o x r kd hm ++ txF tz)) ∧ H hm = some (.dK (homesD E)) ∧ BlR A.Blocks H x KS m ∧ k ≤ m ∧ (∀ e ∈ E, e.2.2 ≤ m) ∧ (inSc KS E w k = true → Q .non H) ∧ (inSc KS E w k = false → Rz A Er0 H (.un w))
theorem ok_pr_check (T : Tx0 w K mg A) : FnOk P w K mg base (L2.CX P w) 5 A.pr_check A.d_pr_check p_pr_check (spCheck A) := by
  refine T.F_pr_check.okX sc_pr_check (fun vs H Q E h => ?_) (fun cdv Ar outer s H vs Q E hr h => ?_)
  · obtain ⟨p, dx, b, o, x, r, kd, hm, tz, k, w, E, KS, m, rfl, _⟩ := h
    rfl
  · obtain ⟨p, dx, b, o, x, r, kd, hm, tz, k, w, E', KS, m, rfl, hp, hh, hb, hk, hE, q, qe⟩ := h
    refine ⟨_, (pss_one (ps_if (pt_not (pt_val (pe_meth (pv 0) T.cl_Program T.e_pr_scope (ok_pr_scope T) (hr.mono (by decide)) T.b_pr_scope .nil pass0 (pa_cons (pv 1) (pa_cons (pv 2) pa_nil))))) (pss_one (ps_raise rfl (takes_of rfl rfl rfl rfl) (pmk_oex T.ex_UnknownName.ox T.ex_UnknownName.ii T.ti_lives_init (ok_lives_init T) (hr.mono (by decide)) T.b_lives_init .nil pass0 (by rfl) T.g_UnknownName (pa_cons (pv 2) pa_nil)))) pss_nil)), ?_⟩
    refine ⟨_, rfl, p, dx, _, rfl, hp, (by cases tz <;> rfl), _, rfl, _, rfl, p, dx, b, o, x, r, kd, hm, tz, k, w, E', KS, m, rfl, hp, hh, hb, hk, hE, ?_⟩
    cases hi : inSc KS E' w k with
    | true => exact ⟨_, rfl, iteF (q hi)⟩
    | false => exact ⟨_, rfl, iteT ⟨_, rfl, (by show 1 ≤ 1000; decide), raise_what T.ex_UnknownName rfl fun d H' e' hd' => qe hi d H' e' hd'⟩⟩
theorem opw_neg {w : Str} {os : List Nat} (h : GoodNd okS (.op w os)) : w ≠ "name" ∧ w ≠ "call" := by
  have h : opsT.lookup w = some (os.length : Int) := h
  rcases ops_cases h with ⟨rfl, _⟩ | ⟨rfl, _⟩ | ⟨rfl, _⟩ <;> decide +kernel
/-! the nodes of a row -/
def NdOk (bs : List Rw) (KS : List Kd) (E : List Nm) (k : Nat) (nd : Nd) : Prop := match nd with
  | .name w => inSc KS E w k = true
  | .call w os => (∃ b ∈ bs, b.1 = w) ∧ ∀ b ∈ bs, b.1 = w → b.2.1 = (os.length : Int)
  | .op _ _ => True
theorem find_rw {bs : List Rw} (nd : (bs.map (·.1)).Nodup) {r : Rw} {w : Str} (h : r ∈ bs) (e : r.1 = w) : bs.find? (fun b => decide (b.1 = w)) = some r := by
  induction bs with
  | nil => cases h
  | cons b t ih =>
    rw [List.map_cons, List.nodup_cons] at nd
    rw [List.find?_cons]
    rcases List.mem_cons.mp h with rfl | h
    · rw [decide_eq_true e]
    · rw [decide_eq_false (fun z => nd.1 (List.mem_map.mpr ⟨r, h, e.trans z.symm⟩))]
      exact ih nd.2 h
theorem find_no {bs : List Rw} {w : Str} (h : hasB (.str w) bs = false) : bs.find? (fun b => decide (b.1 = w)) = none := by
  rw [List.find?_eq_none]
  intro b hb e
  have : hasB (.str w) bs = true := decide_eq_true (List.mem_map.mpr ⟨b, hb, of_decide_eq_true e⟩)
  rw [this] at h
  cases h
def spNodes (K : PySem.W.Frag) (A : Adr) : Sp := fun vs H Q Er0 => ∃ (p dx b o x r kd hm N : Addr) (tz : Option Str) (as ss : List Addr) (ns : List Nd) (bs : List Rw) (k : Nat) (E : List Nm) (KS : List Kd) (m : Nat), vs = [.ref p, .int ((k : Nat) : Int), .ref N] ∧ H p = some (.ins A.Program dx (prE b o x r kd hm ++ txF tz)) ∧ BookAt K A.Book A.Signature H b ss bs ∧ (bs.map (·.1)).Nodup ∧ H N = some (.lst (as.map V.ref)) ∧ Al2 (NdAt H) as ns ∧ H hm = some (.dK (homesD E)) ∧ BlR A.Blocks H x KS m ∧ k ≤ m ∧ (∀ e ∈ E, e.2.2 ≤ m) ∧ (∀ nd ∈ ns, GoodNd okS nd) ∧ (ndsD bs KS E k ns = none → Q .non H) ∧ (∀ er, ndsD bs KS E k ns = some er → Rz A Er0 H er)
theorem ok_pr_nodes (T : Tx0 w K mg A) : FnOk P w K mg base (L2.CX P w) 10 A.pr_nodes A.d_pr_nodes p_pr_nodes (spNodes K A) := by
  refine T.F_pr_nodes.okX sc_pr_nodes (fun vs H Q E h => ?_) (fun cdv Ar outer s H vs Q E hr h => ?_)
  · obtain ⟨p, dx, b, o, x, r, kd, hm, N, tz, as, ss, ns, bs, k, E, KS, m, rfl, _⟩ := h
    rfl
  · obtain ⟨p, dx, b, o, x, r, kd, hm, N, tz, as, ss, ns, bs, k, E', KS, m, rfl, hp, hbk, hnd, hN, hA, hh, hb, hk, hE, hok, q, qe⟩ := h
    refine ⟨_, (pss_one (ps_for PassesOwn.leaving rfl (pi_list (pv 2)) (pg_name (i := 3) sc_pr_nodes.nd rfl (Or.inl rfl)) (pss_one (ps_if (pt_cmpR op_eq (pe_ix ix_tup (pv 3) pe_int (fun _ _ => rfl)) pe_str (nomark _)) (pss_one (ps_expr (pe_meth (pv 0) T.cl_Program T.e_pr_check (ok_pr_check T) (hr.mono (by decide)) T.b_pr_check .nil (UL.passX (takes_of rfl rfl rfl rfl)) (pa_cons (pv 1) (pa_cons (pe_ix ix_tup (pv 3) pe_int (fun _ _ => rfl)) pa_nil))))) (pss_one (ps_if (PW.pt (pw_and (pt_cmpR op_eq (pe_ix ix_tup (pv 3) pe_int (fun _ _ => rfl)) pe_str (nomark _)) (pw_and1 (pt_cmpR op_ne (pe_callB call_len_seq (by rfl) T.m_len PySem.boot_len (pa_cons (pe_ix ix_tup (pv 3) pe_int (fun _ _ => rfl)) pa_nil)) (pe_fld (UL.pe_ixOwn (ok_book_get T) (hr.mono (by decide)) T.e_book_get.at_ T.fi_book_get T.e_book_get.fn T.b_book_get (UL.passX (takes_of rfl rfl rfl rfl)) (pe_fld (pv 0) rfl) (pe_ix ix_tup (pv 3) pe_int (fun _ _ => rfl))) rfl) (nomark _))))) (pss_one (ps_raise rfl (takes_of rfl rfl rfl rfl) (pmk_oex T.ex_WrongCount.ox T.ex_WrongCount.ii T.ti_lives_init (ok_lives_init T) (hr.mono (by decide)) T.b_lives_init .nil pass0 (by rfl) T.g_WrongCount (pa_cons (pe_ix ix_tup (pv 3) pe_int (fun _ _ => rfl)) pa_nil)))) pss_nil)))))), ?_⟩
    refine ⟨_, rfl, N, rfl, ⟨_, SqL.of hN⟩, ?_⟩
    refine for_it (walk_list (xs := as.map V.ref)) (fun i σ' H' => ∃ v3, σ' = [some (.ref p), some (.int ((k : Nat) : Int)), some (.ref N), v3] ∧ H' = H ∧ ∀ j z, j < i → ns[j]? = some z → ndD bs KS E' k z = none) ⟨_, rfl, rfl, fun j z hj => absurd hj (Nat.not_lt_zero _)⟩ (fun i σ' H' _ ⟨_, _, e, _⟩ => by rw [e]; exact SqL.of hN) ?_ ?_
    · rintro i y σ' H1 H2 hi ⟨v3, rfl, rfl, hall⟩ ⟨rfl, hy⟩
      rw [List.getElem?_map] at hy
      obtain ⟨a, ha, rfl⟩ := Option.map_eq_some_iff.mp hy
      obtain ⟨nd, hni, had⟩ := hA.get i a ha
      have hg := hok nd (List.mem_of_getElem? hni)
      have bad : ∀ er, ndD bs KS E' k nd = some er → Rz A E H2 er := fun er he => qe er (some_first hall hni he)
      have next : ndD bs KS E' k nd = none → ∀ j z, j < i + 1 → ns[j]? = some z → ndD bs KS E' k z = none := fun he j z hj hz => by
        by_cases e : j = i
        · subst e
          rw [hni] at hz
          cases hz
          exact he
        · exact hall j z (by omega) hz
      cases nd with
      | name w =>
        have had : H2 a = some (.tup [.str "name", .str w]) := had
        refine ⟨_, rfl, a, _, 0, .str "name", rfl, rfl, SqT.of had, atI_nat (j := 0) rfl, rfl, _, rfl, ite2 (fun _ => ?_) (fun z => absurd (by decide +kernel) z)⟩
        exact ⟨_, rfl, p, dx, _, rfl, hp, (by cases tz <;> rfl), _, rfl, _, rfl, a, _, 1, .str w, rfl, rfl, SqT.of had, atI_nat (j := 1) rfl, p, dx, b, o, x, r, kd, hm, tz, k, w, E', KS, m, rfl, hp, hh, hb, hk, hE, (fun hs => ⟨_, rfl, rfl, next (if_pos hs)⟩), fun hs => bad (.un w) (if_neg (by rw [hs]; decide))⟩
      | op w os =>
        have had : H2 a = some (.tup (.str w :: ni os)) := had
        have hw := opw_neg hg
        refine ⟨_, rfl, a, _, 0, .str w, rfl, rfl, SqT.of had, atI_nat (j := 0) rfl, rfl, _, rfl, ite2 (fun z => absurd (V.str.inj (of_decide_eq_true z)) hw.1) (fun _ => ?_)⟩
        exact ⟨_, rfl, a, _, 0, .str w, rfl, rfl, SqT.of had, atI_nat (j := 0) rfl, rfl, _, rfl, ite2 (fun z => absurd (V.str.inj (of_decide_eq_true z)) hw.2) (fun _ => iteF ⟨_, rfl, rfl, next rfl⟩)⟩
      | call w os =>
        obtain ⟨u, h, hu⟩ := had
        obtain ⟨bdx, g, e, bb, b1, _⟩ := hbk.ex
        have hss := hbk.sg
        refine ⟨_, rfl, a, _, 0, .str "call", rfl, rfl, SqT.of h, atI_nat (j := 0) rfl, rfl, _, rfl, ite2 (fun z => absurd z (by decide +kernel)) (fun _ => ?_)⟩
        refine ⟨_, rfl, a, _, 0, .str "call", rfl, rfl, SqT.of h, atI_nat (j := 0) rfl, rfl, _, rfl, ite2 (fun _ => ?_) (fun z => absurd (by decide +kernel) z)⟩
        refine ⟨_, rfl, a, _, 2, .ref u, rfl, rfl, SqT.of h, atI_nat (j := 2) rfl, u, _, rfl, .inr (SqT.of hu), _, rfl, p, _, dx, _, _, rfl, hp, T.cl_Program, T.na_Program_book, rfl, _, rfl, a, _, 1, .str w, rfl, rfl, SqT.of h, atI_nat (j := 1) rfl, b, bdx, _, rfl, b1, b, .str w, ss, bs, rfl, hbk, .inl ⟨w, rfl, Nat.le_trans (okS_len hg.1) (by decide)⟩, rfl, fun i' s' r2 z hz hi' hr2 e2 => ?_, fun hn => ?_⟩
        · cases hz
          obtain ⟨r3, hr3, dx3, t3, h3, _⟩ := hss.at' hi'
          rw [hr2] at hr3
          obtain rfl := Option.some.inj hr3
          have hf := find_rw hnd (List.mem_of_getElem? hr2) e2
          have hd : ndD bs KS E' k (.call w os) = if r2.2.1 = (os.length : Int) then none else some (.wc w) := by
            show (match bs.find? (fun b => decide (b.1 = w)) with
              | some b => if b.2.1 = (os.length : Int) then none else some (Er.wc w)
              | none => some (Er.uf w)) = _
            rw [hf]
          refine ⟨s', _, dx3, _, _, rfl, h3, T.cl_Signature, T.na_Signature_count, f_count _ _ _, rfl, _, rfl, ?_⟩
          rw [ni_len]
          by_cases hc : r2.2.1 = (os.length : Int)
          · rw [if_pos hc] at hd
            rw [hc, decide_eq_true rfl]
            exact iteF ⟨_, rfl, rfl, next hd⟩
          · rw [if_neg hc] at hd
            rw [decide_eq_false (fun z => hc (V.int.inj z).symm)]
            exact iteT ⟨_, rfl, a, _, 1, .str w, rfl, rfl, SqT.of h, atI_nat (j := 1) rfl, (by show 1 ≤ 1000; decide), raise_what T.ex_WrongCount rfl fun d H' e' hd' => bad _ hd d H' e' hd'⟩
        · have hd : ndD bs KS E' k (.call w os) = some (.uf w) := by
            show (match bs.find? (fun b => decide (b.1 = w)) with
              | some b => if b.2.1 = (os.length : Int) then none else some (Er.wc w)
              | none => some (Er.uf w)) = _
            rw [find_no hn]
          exact bad _ hd
    · rintro σ' H1 ⟨v3, rfl, rfl, hall⟩
      exact q (all_none fun j z hj hz => hall j z (by rw [List.length_map, hA.len]; exact hj) hz)
end
end K24

set_option Elab.async false
set_option linter.all false
set_option maxRecDepth 100000
namespace K24
open PySem PySem.Spec PyProof.Rows L2 Evl TL UL StX
section
variable {P : Program} {w : World} {K : PySem.W.Frag} {mg : Str → Option Value} {base : Heap} {A : Adr}
/-! ### a row declares a name; the outs, with errors -/
structure NmOk (KS : List Kd) (E : List Nm) (k : Nat) (r : Rwd) : Prop where
  set : r.k = .set → inSc KS E r.nm k = true ∧ ∀ e, entOf E r.nm = some e → e.2.1 ≠ "val"
  new : r.k = .val ∨ r.k = .ref → r.nm ∉ E.map (·.1) ∧ E.length < 16
theorem inSc_ent {KS : List Kd} {E : List Nm} {w : Str} {k : Nat} (h : inSc KS E w k = true) : ∃ e, entOf E w = some e := by
  unfold inSc at h
  cases he : entOf E w with
  | some e => exact ⟨e, rfl⟩
  | none => rw [he] at h; cases h
theorem p_off {P0 p dx kd hm : Addr} {fs : List (Str × V)} {H : Hp} {E : List Nm} (hp : H p = some (.ins P0 dx fs)) (n : NmAt H kd hm E) : p ∉ [kd, hm] := fun m => by
  simp only [List.mem_cons, List.not_mem_nil, or_false] at m
  rcases m with rfl | rfl
  · rw [n.k] at hp; cases hp
  · rw [n.h] at hp; cases hp
theorem env_dn {E : List Nm} {w : Str} (h : w ∈ E.map (·.1)) : ∃ e, entOf E w = some e := by
  cases he : entOf E w with
  | some e => exact ⟨e, rfl⟩
  | none => exact absurd h (ent_none.mp he)
def spPrName (A : Adr) : Sp := fun vs H Q Er0 => ∃ (p dx b o x r kd hm ra : Addr) (tz : Option Str) (k : Nat) (rd : Rwd) (E : List Nm) (KS : List Kd) (m : Nat), vs = [.ref p, .int ((k : Nat) : Int), .ref ra] ∧ H p = some (.ins A.Program dx (prE b o x r kd hm ++ txF tz)) ∧ RwAt A.Row A.Expression H ra rd ∧ isX rd.k = true ∧ NmAt H kd hm E ∧ BlR A.Blocks H x KS m ∧ k ≤ m ∧ (∀ e ∈ E, e.2.2 ≤ m) ∧ E.length ≤ 16 ∧ (nmD KS E k rd = none → ∀ H', NmAt H' kd hm (E ++ declR k rd) → Fr [kd, hm] H H' → Q .non H') ∧ (∀ er, nmD KS E k rd = some er → Rz A Er0 H er)
theorem ok_pr_name (T : Tx0 w K mg A) : FnOk P w K mg base (L2.CX P w) 7 A.pr_name A.d_pr_name p_pr_name (spPrName A) := by
  refine T.F_pr_name.okX sc_pr_name (fun vs H Q E h => ?_) (fun cdv Ar outer s H vs Q E hr h => ?_)
  · obtain ⟨p, dx, b, o, x, r, kd, hm, ra, tz, k, rd, E, KS, m, rfl, _⟩ := h
    rfl
  · obtain ⟨p, dx, b, o, x, r, kd, hm, ra, tz, k, rd, E', KS, m, rfl, hp, hr', hX, hn, hb, hk, hE, l16, q, qe⟩ := h
    refine ⟨_, (pss_one (ps_if (pt_cmpR op_eq (pe_fld (pv 2) rfl) pe_str (nomark _)) (pss_cons (ps_expr (pe_meth (pv 0) T.cl_Program T.e_pr_check (ok_pr_check T) (hr.mono (by decide)) T.b_pr_check .nil (UL.passX (takes_of rfl rfl rfl rfl)) (pa_cons (pv 1) (pa_cons (pe_fld (pv 2) rfl) pa_nil))))
        (pss_one (ps_if (pt_cmpR op_eq (pe_dget (hu_of hr) (pe_fld (pv 0) rfl) (pe_fld (pv 2) rfl) (fun _ _ => rfl)) pe_str (nomark _)) (pss_one (ps_raise rfl (takes_of rfl rfl rfl rfl) (pmk_oex T.ex_NotReference.ox T.ex_NotReference.ii T.ti_lives_init (ok_lives_init T) (hr.mono (by decide)) T.b_lives_init .nil pass0 (by rfl) T.g_NotReference (pa_cons (pe_fld (pv 2) rfl) pa_nil)))) pss_nil))) (pss_one (ps_if (pt_cmpR op_ne (pe_fld (pv 2) rfl) pe_str (nomark _)) (pss_cons (ps_if (pt_cmp (pc_din (hu_of hr) (pe_fld (pv 2) rfl) (pe_fld (pv 0) rfl))) (pss_one (ps_raise rfl (takes_of rfl rfl rfl rfl) (pmk_oex T.ex_DuplicateName.ox T.ex_DuplicateName.ii T.ti_lives_init (ok_lives_init T) (hr.mono (by decide)) T.b_lives_init .nil pass0 (by rfl) T.g_DuplicateName (pa_cons (pe_fld (pv 2) rfl) pa_nil)))) pss_nil)
          (pss_cons (ps_if (pt_cmpR op_eq (pe_callB call_lenD (by rfl) T.m_len PySem.boot_len (pa_cons (pe_fld (pv 0) rfl) pa_nil)) (pe_con (pv 0) rfl) (nomark _)) (pss_one (ps_raise rfl (takes_of rfl rfl rfl rfl) (pmk_oex T.ex_TooLarge.ox T.ex_TooLarge.ii T.ti_lives_init (ok_lives_init T) (hr.mono (by decide)) T.b_lives_init .nil pass0 (by rfl) T.g_TooLarge (pa_cons pe_str pa_nil)))) pss_nil)
          (pss_cons (ps_dput (hu_of hr) (pe_fld (pv 0) rfl) (pe_fld (pv 2) rfl) (pe_fld (pv 2) rfl) rfl)
          (pss_one (ps_dput (hu_of hr) (pe_fld (pv 0) rfl) (pe_fld (pv 2) rfl) (pv 1) rfl))))) pss_nil)))), ?_⟩
    obtain ⟨rdx, rv, h, _⟩ := hr'
    refine ⟨_, rfl, ra, _, rdx, _, _, rfl, h, T.cl_Row, T.na_Row_kind, f_kind _ _, rfl, _, rfl, ?_⟩
    by_cases e : rd.k = .set
    · have hd : declR k rd = [] := by unfold declR; rw [e]; rfl
      rw [hd, List.append_nil] at q
      have hnm : nmD KS E' k rd = if inSc KS E' rd.nm k = true then (match entOf E' rd.nm with
        | some e => if e.2.1 = "val" then some (.nr rd.nm) else none
        | none => none) else some (.un rd.nm) := if_pos e
      refine ite2 (fun _ => ?_) (fun z => absurd (by rw [e]; decide +kernel) z)
      refine ⟨_, rfl, p, dx, _, rfl, hp, (by cases tz <;> rfl), _, rfl, _, rfl, ra, _, rdx, _, _, rfl, h, T.cl_Row, T.na_Row_name, f_rname _ _, p, dx, b, o, x, r, kd, hm, tz, k, rd.nm, E', KS, m, rfl, hp, hn.h, hb, hk, hE, (fun hs => ?_), fun hs => qe _ (by rw [hnm, if_neg (by rw [hs]; decide)])⟩
      obtain ⟨en, hen⟩ := inSc_ent hs
      rw [if_pos hs, hen] at hnm
      have hg : DGet H kd (.str rd.nm) (some (.str en.2.1)) := by
        have := DGet.k (k := Sum.inr rd.nm) hn.k
        rw [kinds_get, hen] at this
        exact this
      refine ⟨_, rfl, p, _, dx, _, _, rfl, hp, T.cl_Program, T.na_Program__kinds, rfl, _, rfl, ra, _, rdx, _, _, rfl, h, T.cl_Row, T.na_Row_name, f_rname _ _, kd, _, rfl, hg, rfl, _, rfl, ite2 (fun z => ?_) (fun z => ?_)⟩
      · have hv : en.2.1 = "val" := V.str.inj (of_decide_eq_true z)
        have hnm : nmD KS E' k rd = some (.nr rd.nm) := by rw [hnm]; exact if_pos hv
        exact ⟨_, rfl, ra, _, rdx, _, _, rfl, h, T.cl_Row, T.na_Row_name, f_rname _ _, (by show 1 ≤ 1000; decide), raise_what T.ex_NotReference rfl fun d H' e' hd' => qe _ hnm d H' e' hd'⟩
      · have hnm : nmD KS E' k rd = none := by rw [hnm]; exact if_neg fun y => z (decide_eq_true (congrArg V.str y))
        exact q hnm H hn (Fr.of (Ex.refl H))
    · refine ite2 (fun z => absurd (kS_inj (k' := .set) (V.str.inj (of_decide_eq_true z))) e) (fun _ => ?_)
      refine ⟨_, rfl, ra, _, rdx, _, _, rfl, h, T.cl_Row, T.na_Row_kind, f_kind _ _, rfl, _, rfl, ?_⟩
      by_cases e2 : rd.k = .use
      · have hd : declR k rd = [] := by unfold declR; rw [e2]; rfl
        rw [hd, List.append_nil] at q
        have hnm : nmD KS E' k rd = none := by
          unfold nmD
          rw [if_neg e, if_neg (by rw [e2]; decide)]
        exact ite2 (fun z => absurd z (by rw [e2, decide_eq_true (show V.str (kS .use) = V.str "use" from rfl)]; exact Bool.noConfusion)) (fun _ => q hnm H hn (Fr.of (Ex.refl H)))
      · have hvr : rd.k = .val ∨ rd.k = .ref := by
          revert hX e e2
          cases rd.k <;> decide
        have hd : declR k rd = [(rd.nm, kS rd.k, k)] := by unfold declR; rw [if_pos hvr]
        rw [hd] at q
        have hnm : nmD KS E' k rd = if rd.nm ∈ E'.map (·.1) then some (.dn rd.nm) else if E'.length = 16 then some (.lg "names") else none := by
          unfold nmD
          rw [if_neg e, if_pos hvr]
        refine ite2 (fun _ => ?_) (fun z => absurd (show (!decide (V.str (kS rd.k) = V.str (kS .use))) = true by rw [decide_eq_false (fun y => e2 (kS_inj (V.str.inj y)))]; rfl) z)
        obtain ⟨u, hu⟩ := T.co_Program_MOST_NAMES
        have hg := DGet.k (k := Sum.inr rd.nm) hn.k
        rw [kinds_get] at hg
        by_cases n1 : rd.nm ∈ E'.map (·.1)
        · obtain ⟨en, hen⟩ := env_dn n1
          rw [hen] at hg
          rw [if_pos n1] at hnm
          refine ⟨_, rfl, ra, _, rdx, _, _, rfl, h, T.cl_Row, T.na_Row_name, f_rname _ _, _, rfl, p, _, dx, _, _, rfl, hp, T.cl_Program, T.na_Program__kinds, rfl, kd, _, rfl, hg, true, rfl, iteT ?_⟩
          exact ⟨_, rfl, ra, _, rdx, _, _, rfl, h, T.cl_Row, T.na_Row_name, f_rname _ _, (by show 1 ≤ 1000; decide), raise_what T.ex_DuplicateName rfl fun d H' e' hd' => qe _ hnm d H' e' hd'⟩
        rw [ent_none.mpr n1] at hg
        rw [if_neg n1] at hnm
        refine ⟨_, rfl, ra, _, rdx, _, _, rfl, h, T.cl_Row, T.na_Row_name, f_rname _ _, _, rfl, p, _, dx, _, _, rfl, hp, T.cl_Program, T.na_Program__kinds, rfl, kd, _, rfl, hg, false, rfl, iteF ?_⟩
        refine ⟨_, rfl, p, _, dx, _, _, rfl, hp, T.cl_Program, T.na_Program__kinds, rfl, kd, _, rfl, hn.k, _, rfl, p, _, dx, _, _, u, rfl, hp, T.cl_Program, hu, (by cases tz <;> rfl), rfl, _, rfl, ?_⟩
        rw [kinds_len]
        by_cases n2 : E'.length = 16
        · rw [if_pos n2] at hnm
          refine ite2 (fun _ => ?_) (fun z => absurd (decide_eq_true (by rw [n2]; rfl)) z)
          exact ⟨(by show 1 ≤ 1000; decide), raise_what T.ex_TooLarge rfl fun d H' e' hd' => qe _ hnm d H' e' hd'⟩
        rw [if_neg n2] at hnm
        have q := q hnm
        refine ite2 (fun z => absurd (V.int.inj (of_decide_eq_true z)) (by omega)) (fun _ => ?_)
        have hk1 := kinds_put (k := kS rd.k) (j := k) n1
        have hh1 := homes_put (k := kS rd.k) (j := k) n1
        have dp := DPut.k (k := Sum.inr rd.nm) (v := .str (kS rd.k)) hn.k (sz_lt (by rw [kinds_len]; omega))
        rw [hk1] at dp
        refine ⟨_, rfl, ra, _, rdx, _, _, rfl, h, T.cl_Row, T.na_Row_kind, f_kind _ _, _, rfl, p, _, dx, _, _, rfl, hp, T.cl_Program, T.na_Program__kinds, rfl, _, rfl, ra, _, rdx, _, _, rfl, h, T.cl_Row, T.na_Row_name, f_rname _ _, kd, _, rfl, dp, ?_⟩
        have po := p_off hp hn
        have pk : p ≠ kd := fun z => po (by rw [z]; exact List.mem_cons_self)
        have rk : ra ≠ kd := fun z => by rw [z, hn.k] at h; cases h
        have hp2 : upd H kd (.dK (kindsD (E' ++ [(rd.nm, kS rd.k, k)]))) p = _ := (upd_ne pk).trans hp
        have hr2 : upd H kd (.dK (kindsD (E' ++ [(rd.nm, kS rd.k, k)]))) ra = _ := (upd_ne rk).trans h
        have hh2 : upd H kd (.dK (kindsD (E' ++ [(rd.nm, kS rd.k, k)]))) hm = some (.dK (homesD E')) := (upd_ne hn.ne.symm).trans hn.h
        have dp2 := DPut.k (k := Sum.inr rd.nm) (v := .int ((k : Nat) : Int)) hh2 (sz_lt (by rw [homes_len]; omega))
        rw [hh1] at dp2
        refine ⟨_, rfl, _, rfl, p, _, dx, _, _, rfl, hp2, T.cl_Program, T.na_Program__homes, rfl, _, rfl, ra, _, rdx, _, _, rfl, hr2, T.cl_Row, T.na_Row_name, f_rname _ _, hm, _, rfl, dp2, ?_⟩
        exact q _ ⟨by rw [upd_ne hn.ne]; exact upd_same, upd_same, hn.ne⟩ ((Fr.put (L := [kd, hm]) (by simp)).trans (Fr.put (by simp)))
theorem outD_at : ∀ {seen os : List Str} {i : Nat} {o : Str}, (∀ j w, j < i → os[j]? = some w → w ∉ seen ++ os.take j) → os[i]? = some o → o ∈ seen ++ os.take i → outD seen os = some (.dn o)
  | _, [], i, o, _, h, _ => by simp at h
  | seen, a :: r, 0, o, _, h, hm => by
    cases h
    rw [List.take_zero, List.append_nil] at hm
    exact if_pos hm
  | seen, a :: r, i + 1, o, h0, h, hm => by
    have ha := h0 0 a (by omega) rfl
    rw [List.take_zero, List.append_nil] at ha
    show (if a ∈ seen then _ else _) = _
    rw [if_neg ha]
    refine outD_at (seen := seen ++ [a]) (os := r) (i := i) (fun j w hj hw => ?_) h ?_
    · have := h0 (j + 1) w (by omega) hw
      rw [List.take_succ_cons] at this
      rw [List.append_assoc]
      exact this
    · rw [List.take_succ_cons] at hm
      rw [List.append_assoc]
      exact hm
theorem outD_none : ∀ {seen os : List Str}, (∀ j w, os[j]? = some w → w ∉ seen ++ os.take j) → outD seen os = none
  | _, [], _ => rfl
  | seen, a :: r, h => by
    have ha := h 0 a rfl
    rw [List.take_zero, List.append_nil] at ha
    show (if a ∈ seen then _ else _) = _
    rw [if_neg ha]
    refine outD_none (seen := seen ++ [a]) (os := r) fun j w hw => ?_
    have := h (j + 1) w hw
    rw [List.take_succ_cons] at this
    rw [List.append_assoc]
    exact this
theorem envO_names (os : List Str) : (envO os).map (·.1) = os := by
  unfold envO
  rw [List.map_map]
  exact List.map_id os
def spOuts (A : Adr) : Sp := fun vs H Q Er0 => ∃ (p dx b o x r kd hm : Addr) (os : List Str), vs = [.ref p] ∧ H p = some (.ins A.Program dx (prE b o x r kd hm)) ∧ H o = some (.tup (os.map V.str)) ∧ NmAt H kd hm [] ∧ os.length ≤ 64 ∧ (outsD os = none → ∀ H', NmAt H' kd hm (envO os) → Fr [kd, hm] H H' → Q .non H') ∧ ∀ er, outsD os = some er → ∀ d H', Fr [kd, hm] H H' → H' d = some (.xd [("what", erV er)]) → Er0 (.ref (erA A er)) (some d) H'
theorem ok_pr_outs (T : Tx0 w K mg A) : FnOk P w K mg base (L2.CX P w) 4 A.pr_outs A.d_pr_outs p_pr_outs (spOuts A) := by
  refine T.F_pr_outs.okX sc_pr_outs (fun vs H Q E h => ?_) (fun cdv Ar outer s H vs Q E hr h => ?_)
  · obtain ⟨p, dx, b, o, x, r, kd, hm, os, rfl, _⟩ := h
    rfl
  · obtain ⟨p, dx, b, o, x, r, kd, hm, os, rfl, hp, ho, hn, l64, q, qe⟩ := h
    refine ⟨_, (pss_cons (ps_for PassesOwn.leaving rfl (pi_tup (pe_fld (pv 0) rfl)) (pg_name (i := 1) sc_pr_outs.nd rfl (Or.inl rfl)) (pss_cons (ps_if (pt_cmp (pc_din (hu_of hr) (pv 1) (pe_fld (pv 0) rfl))) (pss_one (ps_raise rfl (takes_of rfl rfl rfl rfl) (pmk_oex T.ex_DuplicateName.ox T.ex_DuplicateName.ii T.ti_lives_init (ok_lives_init T) (hr.mono (by decide)) T.b_lives_init .nil pass0 (by rfl) T.g_DuplicateName (pa_cons (pv 1) pa_nil)))) pss_nil)
        (pss_cons (ps_dput (hu_of hr) (pe_fld (pv 0) rfl) (pv 1) pe_str rfl)
        (pss_one (ps_dput (hu_of hr) (pe_fld (pv 0) rfl) (pv 1) pe_int rfl)))))
      (pss_one (ps_if (pt_cmpR op_gt (pe_callB call_len_seq (by rfl) T.m_len PySem.boot_len (pa_cons (pe_fld (pv 0) rfl) pa_nil)) (pe_con (pv 0) rfl) (nomark _)) (pss_one (ps_raise rfl (takes_of rfl rfl rfl rfl) (pmk_oex T.ex_TooLarge.ox T.ex_TooLarge.ii T.ti_lives_init (ok_lives_init T) (hr.mono (by decide)) T.b_lives_init .nil pass0 (by rfl) T.g_TooLarge (pa_cons pe_str pa_nil)))) pss_nil))), ?_⟩
    have po := p_off hp hn
    have oo : o ∉ [kd, hm] := fun m => by
      simp only [List.mem_cons, List.not_mem_nil, or_false] at m
      rcases m with rfl | rfl
      · rw [hn.k] at ho; cases ho
      · rw [hn.h] at ho; cases ho
    refine ⟨_, rfl, p, _, dx, _, _, rfl, hp, T.cl_Program, T.na_Program_outs, rfl, o, rfl, ⟨_, SqT.of ho⟩, ?_⟩
    refine for_it (walk_tup (xs := os.map V.str)) (fun i σ' H' => ∃ v1, σ' = [some (.ref p), v1] ∧ NmAt H' kd hm (envO (os.take i)) ∧ Fr [kd, hm] H H' ∧ ∀ j w, j < i → os[j]? = some w → w ∉ os.take j) ⟨_, rfl, hn, Fr.of (Ex.refl H), fun j w hj => absurd hj (Nat.not_lt_zero _)⟩ (fun i σ' H' _ ⟨_, _, _, f, _⟩ => SqT.of (f _ _ ho oo)) ?_ ?_
    · rintro i y σ' H1 H2 hi ⟨v1, rfl, hn1, f1, hall⟩ ⟨rfl, hy⟩
      rw [List.getElem?_map] at hy
      obtain ⟨w, hw, rfl⟩ := Option.map_eq_some_iff.mp hy
      rw [List.length_map] at hi
      have hp1 := f1 _ _ hp po
      have hg := DGet.k (k := Sum.inr w) hn1.k
      rw [kinds_get] at hg
      by_cases hnew : w ∈ (envO (os.take i)).map (·.1)
      · obtain ⟨en, hen⟩ := env_dn hnew
        rw [hen] at hg
        rw [envO_names] at hnew
        have hd : outsD os = some (.dn w) := by
          unfold outsD
          rw [outD_at (seen := []) (fun j w hj hw => by rw [List.nil_append]; exact hall j w hj hw) hw (by rw [List.nil_append]; exact hnew)]
        refine ⟨_, rfl, _, rfl, p, _, dx, _, _, rfl, hp1, T.cl_Program, T.na_Program__kinds, rfl, kd, _, rfl, hg, true, rfl, iteT ?_⟩
        exact ⟨_, rfl, (by show 1 ≤ 1000; decide), raise_what T.ex_DuplicateName rfl fun d H' e' hd' => qe _ hd d H' (f1.trans (Fr.of e')) hd'⟩
      rw [ent_none.mpr hnew] at hg
      have hnew' := hnew
      rw [envO_names] at hnew'
      have htk : envO (os.take (i + 1)) = envO (os.take i) ++ [(w, ("out" : Str), 0)] := by
        unfold envO
        rw [List.take_add_one, hw, List.map_append]
        rfl
      refine ⟨_, rfl, _, rfl, p, _, dx, _, _, rfl, hp1, T.cl_Program, T.na_Program__kinds, rfl, kd, _, rfl, hg, false, rfl, iteF ?_⟩
      have hl : (envO (os.take i)).length ≤ 64 := by unfold envO; rw [List.length_map, List.length_take]; omega
      have dp := DPut.k (k := Sum.inr w) (v := .str "out") hn1.k (sz_lt (by rw [kinds_len]; omega))
      rw [kinds_put (k := "out") (j := 0) hnew, ← htk] at dp
      refine ⟨_, rfl, p, _, dx, _, _, rfl, hp1, T.cl_Program, T.na_Program__kinds, rfl, _, rfl, kd, _, rfl, dp, ?_⟩
      have pk : p ≠ kd := fun z => po (by rw [z]; exact List.mem_cons_self)
      have hp2 : upd H2 kd (.dK (kindsD (envO (os.take (i + 1))))) p = _ := (upd_ne pk).trans hp1
      have hh2 : upd H2 kd (.dK (kindsD (envO (os.take (i + 1))))) hm = some (.dK (homesD (envO (os.take i)))) := (upd_ne hn1.ne.symm).trans hn1.h
      have dp2 := DPut.k (k := Sum.inr w) (v := .int ((0 : Nat) : Int)) hh2 (sz_lt (by rw [homes_len]; omega))
      rw [homes_put (k := "out") (j := 0) hnew, ← htk] at dp2
      refine ⟨_, rfl, p, _, dx, _, _, rfl, hp2, T.cl_Program, T.na_Program__homes, rfl, _, rfl, hm, _, rfl, dp2, ?_⟩
      refine ⟨_, rfl, ⟨by rw [upd_ne hn1.ne]; exact upd_same, upd_same, hn1.ne⟩, (f1.trans (Fr.put (L := [kd, hm]) (by simp))).trans (Fr.put (by simp)), fun j w' hj hw' => ?_⟩
      by_cases e : j = i
      · subst e
        rw [hw] at hw'
        cases hw'
        exact hnew'
      · exact hall j w' (by omega) hw'
    · rintro σ' H1 ⟨v1, rfl, hn1, f1, hall⟩
      rw [List.length_map, List.take_length] at hn1
      have hp1 := f1 _ _ hp po
      have hod : outD [] os = none := outD_none fun j w hw => by
        rw [List.nil_append]
        exact hall j w (by rw [List.length_map]; exact (List.getElem?_eq_some_iff.mp hw).1) hw
      have hd : outsD os = if 16 < os.length then some (.lg "names") else none := by
        unfold outsD
        rw [hod]
      obtain ⟨u, hu⟩ := T.co_Program_MOST_NAMES
      refine ⟨_, rfl, p, _, dx, _, _, rfl, hp1, T.cl_Program, T.na_Program_outs, rfl, o, _, rfl, .inr (SqT.of (f1 _ _ ho oo)), _, rfl, p, _, dx, _, _, u, rfl, hp1, T.cl_Program, hu, rfl, _, _, rfl, rfl, _, rfl, ite2 (fun z => ?_) (fun z => ?_)⟩
      · have z := of_decide_eq_true z
        rw [List.length_map] at z
        rw [if_pos (by omega)] at hd
        exact ⟨(by show 1 ≤ 1000; decide), raise_what T.ex_TooLarge rfl fun d H' e' hd' => qe _ hd d H' (f1.trans (Fr.of e')) hd'⟩
      · have z : ¬ (16 : Int) < (((os.map V.str).length : Nat) : Int) := fun y => z (decide_eq_true y)
        rw [List.length_map] at z
        rw [if_neg (by omega)] at hd
        exact q hd H1 hn1 f1
end
end K24

set_option Elab.async false
set_option linter.all false
set_option maxRecDepth 100000
namespace K24
open PySem PySem.Spec PyProof.Rows L2 Evl TL UL StX
section
variable {P : Program} {w : World} {K : PySem.W.Frag} {mg : Str → Option Value} {base : Heap} {A : Adr}
/-! ### a program that keeps the rules -/
def kdsOf (rs : List Rwd) : List Kd := rs.map Rwd.k
structure PgOk (bs : List Rw) (os : List Str) (rs : List Rwd) : Prop where
  on : ∀ o ∈ os, okS o = true
  ond : os.Nodup
  ol : os.length ≤ 16
  bal : Bal (kdsOf rs)
  wf : ∀ r ∈ rs, WfRw r
  cnt : (rs.map fun r => r.ns.length).sum ≤ 100
  nd : ∀ i r, rs[i]? = some r → ∀ nd ∈ r.ns, NdOk (newR :: copyR :: bs) (kdsOf rs) (envAt os rs i) (i + 1) nd
  nm : ∀ i r, rs[i]? = some r → isX r.k = true → NmOk (kdsOf rs) (envAt os rs i) (i + 1) r
theorem kds_len (rs : List Rwd) : (kdsOf rs).length = rs.length := by unfold kdsOf; rw [List.length_map]
theorem kds_at {rs : List Rwd} {i : Nat} {r : Rwd} (h : rs[i]? = some r) : (kdsOf rs)[i]? = some r.k := by unfold kdsOf; rw [List.getElem?_map, h]; rfl
theorem PgOk.l48 {bs : List Rw} {os : List Str} {rs : List Rwd} (h : PgOk bs os rs) : rs.length ≤ 48 := by have := h.bal.len; rw [kds_len] at this; exact this
theorem env_le {os : List Str} {rs : List Rwd} : ∀ i, i ≤ rs.length → ∀ e ∈ envAt os rs i, e.2.2 ≤ i
  | 0, _, e, he => by
    unfold envAt envO at he
    rw [List.take_zero] at he
    rcases List.mem_append.mp he with h | h
    · obtain ⟨o, _, rfl⟩ := List.mem_map.mp h
      exact Nat.le_refl _
    · cases h
  | i + 1, hi, e, he => by
    have h : rs[i]? = some rs[i] := List.getElem?_eq_getElem (by omega)
    rw [env_succ h] at he
    rcases List.mem_append.mp he with h | h
    · have := env_le i (by omega) e h; omega
    · unfold declR at h
      split at h
      · rw [List.mem_singleton.mp h]; exact Nat.le_refl _
      · cases h
theorem env_zero (os : List Str) (rs : List Rwd) : envAt os rs 0 = envO os := by unfold envAt; rw [List.take_zero]; exact List.append_nil _
theorem ex_fr {L : List Addr} {H0 H H' : Hp} (e : Ex H0 H) (h : ∀ a ∈ L, H0 a = none) (f : Fr L H H') : Ex H0 H' := fun b o hb => f b o (e b o hb) fun m => by rw [h b m] at hb; cases hb
theorem Fr.sub {L M : List Addr} {H H' : Hp} (h : Fr L H H') (s : ∀ a ∈ L, a ∈ M) : Fr M H H' := fun b o e n => h b o e fun m => n (s b m)
theorem bl_fr {B x dx op kl ar en kd hm : Addr} {H H' : Hp} {KS : List Kd} {i : Nat} {E : List Nm} (h : BlAt B H x dx op kl ar en KS i) (n : NmAt H kd hm E) (n1 : en ≠ kd) (n2 : en ≠ hm) (f : Fr [kd, hm] H H') : BlAt B H' x dx op kl ar en KS i := by
  obtain ⟨as, h⟩ := h
  have kp : ∀ {a : Addr} {o : HO}, H a = some o → (∀ d, o ≠ .dK d) → H' a = some o := fun {a o} ha no => f a o ha fun m => by
    simp only [List.mem_cons, List.not_mem_nil, or_false] at m
    rcases m with rfl | rfl
    · rw [n.k] at ha; exact no _ (Option.some.inj ha).symm
    · rw [n.h] at ha; exact no _ (Option.some.inj ha).symm
  refine ⟨as, kp h.ob (fun _ e => by cases e), kp h.opn (fun _ e => by cases e), kp h.kin (fun _ e => by cases e), kp h.aro (fun _ e => by cases e), h.arl.imp fun a l z => (kp (show H a = _ from z) (fun _ e => by cases e)), f _ _ h.end_ fun m => ?_⟩
  simp only [List.mem_cons, List.not_mem_nil, or_false] at m
  exact m.elim n1 n2
theorem nm_fr {B x dx op kl ar en kd hm : Addr} {H H' : Hp} {KS : List Kd} {i : Nat} {E : List Nm} (h : BlAt B H x dx op kl ar en KS i) (n : NmAt H kd hm E) (n1 : en ≠ kd) (n2 : en ≠ hm) (f : Fr [op, kl, ar, en] H H') : NmAt H' kd hm E := by
  obtain ⟨as, h⟩ := h
  have off : ∀ {a : Addr} {d : List (Key × V)}, H a = some (.dK d) → en ≠ a → a ∉ [op, kl, ar, en] := fun {a d} ha ne m => by
    simp only [List.mem_cons, List.not_mem_nil, or_false] at m
    rcases m with rfl | rfl | rfl | rfl
    · rw [h.opn] at ha; cases ha
    · rw [h.kin] at ha; cases ha
    · rw [h.aro] at ha; cases ha
    · exact ne rfl
  exact ⟨f _ _ n.k (off n.k n1), f _ _ n.h (off n.h n2), n.ne⟩
theorem bl_off {B x dx op kl ar en p pdx P0 : Addr} {H : Hp} {KS : List Kd} {i : Nat} {fs : List (Str × V)} (h : BlAt B H x dx op kl ar en KS i) (hp : H p = some (.ins P0 pdx fs)) : p ∉ [op, kl, ar, en] := fun m => by
  obtain ⟨_, h⟩ := h
  simp only [List.mem_cons, List.not_mem_nil, or_false] at m
  rcases m with rfl | rfl | rfl | rfl
  · rw [h.opn] at hp; cases hp
  · rw [h.kin] at hp; cases hp
  · rw [h.aro] at hp; cases hp
  · rw [h.end_] at hp; cases hp
theorem rows_some {bs : List Rw} {os : List Str} {rs : List Rwd} {i : Nat} {er : Er} (h0 : ∀ j, j < i → rowD bs os rs j = none) (hi : i < rs.length) (h : rowD bs os rs i = some er) : rowsD bs os rs = some er := by
  unfold rowsD
  rw [some_first (l := List.range rs.length) (i := i) (x := i) (fun j z hj hz => by rw [List.getElem?_range (by omega)] at hz; cases hz; exact h0 j hj) (List.getElem?_range hi) h]
theorem rows_none {bs : List Rw} {os : List Str} {rs : List Rwd} (h0 : ∀ j, j < rs.length → rowD bs os rs j = none) : rowsD bs os rs = if (bkAt (kdsOf rs) rs.length).S = [] then none else some (.ub (rs.length + 1)) := by
  unfold rowsD
  rw [all_none (l := List.range rs.length) (fun j z hj hz => by rw [List.length_range] at hj; rw [List.getElem?_range hj] at hz; cases hz; exact h0 j hj)]
  rfl
theorem row_due {bs : List Rw} {os : List Str} {rs : List Rwd} {i : Nat} {r : Rwd} (h : rs[i]? = some r) : rowD bs os rs i = (match dueS (bkAt (kdsOf rs) i).S r.k with
    | .lg => some (.lg "depth")
    | .ub => some (.ub (i + 1))
    | .ok => if isX r.k = true then (if 100 < cntR rs (i + 1) then some (.lg "nodes") else (match ndsD bs (kdsOf rs) (envAt os rs i) (i + 1) r.ns with
        | some er => some er
        | none => nmD (kdsOf rs) (envAt os rs i) (i + 1) r)) else none) := by
  unfold rowD
  rw [h]
  rfl
theorem row_pf {bs : List Rw} {os : List Str} {rs : List Rwd} {i : Nat} (h0 : ∀ j, j < i → rowD bs os rs j = none) : Pf (kdsOf rs) i := fun j k hj hk => by
  unfold kdsOf at hk
  rw [List.getElem?_map] at hk
  obtain ⟨r, hr, rfl⟩ := Option.map_eq_some_iff.mp hk
  have h := h0 j hj
  rw [row_due hr] at h
  cases hd : dueS (bkAt (kdsOf rs) j).S r.k with
  | ok => exact due_ok hd
  | lg => rw [hd] at h; cases h
  | ub => rw [hd] at h; cases h
theorem decl_len {j : Nat} {r : Rwd} : (declR j r).length ≤ 1 := by
  unfold declR
  split
  · exact Nat.le_refl _
  · exact Nat.zero_le _
def spRows (K : PySem.W.Frag) (A : Adr) : Sp := fun vs H Q Er0 => ∃ (p dx b o x r kd hm : Addr) (ss as : List Addr) (bs : List Rw) (os : List Str) (rs : List Rwd) (xdx op kl ar en : Addr) (H0 : Hp), vs = [.ref p] ∧ Ex H0 H ∧ (∀ a ∈ [op, kl, ar, en, kd, hm], H0 a = none) ∧ H p = some (.ins A.Program dx (prE b o x r kd hm)) ∧ BookAt K A.Book A.Signature H0 b ss bs ∧ H0 r = some (.tup (as.map V.ref)) ∧ Al2 (RwAt A.Row A.Expression H0) as rs ∧ BlAt A.Blocks H x xdx op kl ar en (kdsOf rs) 0 ∧ NmAt H kd hm (envO os) ∧ en ≠ kd ∧ en ≠ hm ∧ (∀ r ∈ rs, WfRw r) ∧ rs.length ≤ 48 ∧ os.length ≤ 16 ∧ (bs.map (·.1)).Nodup ∧
  (rowsD bs os rs = none → ∀ H', BlF A.Blocks H' x xdx op kl ar en (kdsOf rs) → NmAt H' kd hm (envAt os rs rs.length) → Ex H0 H' → H' p = some (.ins A.Program dx (prE b o x r kd hm)) → Q .non H') ∧ (∀ er, rowsD bs os rs = some er → Rz A Er0 H0 er)
theorem ok_pr_rows (T : Tx0 w K mg A) : FnOk P w K mg base (L2.CX P w) 13 A.pr_rows A.d_pr_rows p_pr_rows (spRows K A) := by
  refine T.F_pr_rows.okX sc_pr_rows (fun vs H Q E h => ?_) (fun cdv Ar outer s H vs Q E hr h => ?_)
  · obtain ⟨p, dx, b, o, x, r, kd, hm, ss, as, bs, os, rs, xdx, op, kl, ar, en, H0, rfl, _⟩ := h
    rfl
  · obtain ⟨p, dx, b, o, x, r, kd, hm, ss, as, bs, os, rs, xdx, op, kl, ar, en, H0, rfl, e0, hfr, hp, hb, hr', hal, hbl, hnm, ne1, ne2, hwf, l48, l16, hnd, k, kq⟩ := h
    refine ⟨_, (pss_cons (ps_set (i := 1) sc_pr_rows.nd rfl (Or.inl rfl) pe_int)
      (pss_cons (ps_for PassesOwn.leaving rfl (UL.pi_enumK (by rfl) T.m_enumerate (pa_cons (pe_fld (pv 0) rfl) pa_nil) (pk_cons pe_int pk_nil)) (pg_tup (n := 2) rfl (pgs_cons (pg_name (i := 2) sc_pr_rows.nd rfl (Or.inl rfl)) (pgs_cons (pg_name (i := 3) sc_pr_rows.nd rfl (Or.inl rfl)) pgs_nil))) (pss_cons (ps_expr (pe_meth (pe_fld (pv 0) rfl) T.cl_Blocks T.e_bl_take (ok_bl_take T) (hr.mono (by decide)) T.b_bl_take .nil (UL.passX (takes_of rfl rfl rfl rfl)) (pa_cons (pe_fld (pv 3) rfl) pa_nil)))
        (pss_one (ps_if (pt_cmpR op_notN (pe_fld (pv 3) rfl) pe_non (nomark _)) (pss_cons (ps_aug (i := 1) sc_pr_rows.nd rfl (Or.inl rfl) (pe_callB (UL.call_lenOwn (ok_ex_len T) (hr.mono (by decide)) T.e_ex_len.at_ T.e_ex_len.fn T.b_ex_len pass0) (by rfl) T.m_len PySem.boot_len (pa_cons (pe_fld (pv 3) rfl) pa_nil)) ip_add)
          (pss_cons (ps_if (pt_cmpR op_gt (pv 1) (pe_con (pv 0) rfl) (nomark _)) (pss_one (ps_raise rfl (takes_of rfl rfl rfl rfl) (pmk_oex T.ex_TooLarge.ox T.ex_TooLarge.ii T.ti_lives_init (ok_lives_init T) (hr.mono (by decide)) T.b_lives_init .nil pass0 (by rfl) T.g_TooLarge (pa_cons pe_str pa_nil)))) pss_nil)
          (pss_cons (ps_expr (pe_meth (pv 0) T.cl_Program T.e_pr_nodes (ok_pr_nodes T) (hr.mono (by decide)) T.b_pr_nodes .nil (UL.passX (takes_of rfl rfl rfl rfl)) (pa_cons (pv 2) (pa_cons (pe_prop (pe_fld (pv 3) rfl) T.cl_Expression T.r_ex_nodes (ok_ex_nodes T) (hr.mono (by decide)) T.b_ex_nodes .nil pass0 (by rfl)) pa_nil))))
          (pss_one (ps_expr (pe_meth (pv 0) T.cl_Program T.e_pr_name (ok_pr_name T) (hr.mono (by decide)) T.b_pr_name .nil (UL.passX (takes_of rfl rfl rfl rfl)) (pa_cons (pv 2) (pa_cons (pv 3) pa_nil)))))))) pss_nil))))
      (pss_one (ps_expr (pe_meth0 (pe_fld (pv 0) rfl) T.cl_Blocks T.e_bl_fin (ok_bl_fin T) (hr.mono (by decide)) T.b_bl_fin .nil (UL.passX (takes_of rfl rfl rfl rfl))))))), ?_⟩
    have las : as.length = rs.length := hal.len
    have kl48 : (kdsOf rs).length ≤ 48 := by rw [kds_len]; exact l48
    have h4 : ∀ a ∈ [op, kl, ar, en], H0 a = none := fun a m => hfr a (by simp only [List.mem_cons, List.not_mem_nil, or_false] at m ⊢; rcases m with h | h | h | h <;> simp [h])
    have h2 : ∀ a ∈ [kd, hm], H0 a = none := fun a m => hfr a (by simp only [List.mem_cons, List.not_mem_nil, or_false] at m ⊢; rcases m with h | h <;> simp [h])
    refine ⟨_, rfl, p, _, dx, _, _, rfl, hp, T.cl_Program, T.na_Program__rows, rfl, r, _, true, 1, rfl, rfl, by decide, by decide, SqT.of (e0 _ _ hr'), ?_⟩
    refine for_it (UL.walk_enumK (xs := as.map V.ref)) (fun i σ' H' => ∃ (v2 v3 : Option V), σ' = [some (.ref p), some (.int ((cntR rs i : Nat) : Int)), v2, v3] ∧ Ex H0 H' ∧ H' p = some (.ins A.Program dx (prE b o x r kd hm)) ∧ BlAt A.Blocks H' x xdx op kl ar en (kdsOf rs) i ∧ NmAt H' kd hm (envAt os rs i) ∧ (∀ j, j < i → rowD bs os rs j = none) ∧ (envAt os rs i).length ≤ 16 ∧ cntR rs i ≤ 100) ⟨_, _, rfl, e0, hp, hbl, by rw [env_zero]; exact hnm, (fun j hj => absurd hj (Nat.not_lt_zero _)), by rw [env_zero]; unfold envO; rw [List.length_map]; exact l16, Nat.zero_le _⟩ (fun i σ' H' _ ⟨_, _, _, e, _⟩ => SqT.of (e _ _ hr')) ?_ ?_
    · rintro i y σ' H5 H6 hi ⟨v2, v3, rfl, e5, hp5, hb5, hn5, hno, h16, hct⟩ ⟨T', xx, rfl, hT, rfl, hx⟩
      rw [List.length_map] at hi
      rw [List.getElem?_map] at hx
      obtain ⟨a, ha, rfl⟩ := Option.map_eq_some_iff.mp hx
      obtain ⟨rd, hk, hrw⟩ := hal.get i a ha
      have hmem := List.mem_of_getElem? hk
      have wf := hwf rd hmem
      have hil : i < rs.length := by omega
      have hrow := row_due (bs := bs) (os := os) hk
      have bad : ∀ er, rowD bs os rs i = some er → Rz A E H0 er := fun er h => kq er (rows_some hno hil h)
      have pf5 := row_pf hno
      have next : rowD bs os rs i = none → ∀ j, j < i + 1 → rowD bs os rs j = none := fun h j hj => by
        by_cases e : j = i
        · rw [e]; exact h
        · exact hno j (by omega)
      have eT := Ex.new (o := .tup [.int (1 + (i : Nat)), .ref a]) hT
      refine ⟨T', _, rfl, SqT.of upd_same, rfl, _, _, rfl, _, _, rfl, rfl, ?_⟩
      have e6 := e5.trans eT
      have hp6 := eT _ _ hp5
      have hb6 : BlAt A.Blocks (upd H5 T' (.tup [.int (1 + (i : Nat)), .ref a])) x xdx op kl ar en (kdsOf rs) i := by obtain ⟨q, h⟩ := hb5; exact ⟨q, h.mono eT⟩
      have hn6 := hn5.mono eT
      generalize upd H5 T' (.tup [.int (1 + (i : Nat)), .ref a]) = H6 at e6 hp6 hb6 hn6 ⊢
      obtain ⟨rdx, rv, hra, hev⟩ := id hrw
      have hx6 : H6 x = some (.ins A.Blocks xdx (blF op kl ar en)) := by obtain ⟨_, h⟩ := hb6; exact h.ob
      refine ⟨_, rfl, p, _, dx, _, _, rfl, hp6, T.cl_Program, T.na_Program_blocks, rfl, x, xdx, _, rfl, hx6, rfl, _, rfl, a, _, rdx, _, _, rfl, e6 _ _ hra, T.cl_Row, T.na_Row_kind, rfl, x, xdx, op, kl, ar, en, kdsOf rs, i, rd.k, rfl, hb6, kds_at hk, pf5, kl48, fun okb H7 hb7 fr7 => ?_, fun dl d H' e' hd' => bad (.lg "depth") (by rw [hrow, dl]) d H' (e6.trans e') hd', fun dl d H' e' hd' => bad (.ub (i + 1)) (by rw [hrow, dl]) d H' (e6.trans e') hd'⟩
      rw [due_of okb] at hrow
      have hrow : rowD bs os rs i = if isX rd.k = true then (if 100 < cntR rs (i + 1) then some (.lg "nodes") else (match ndsD bs (kdsOf rs) (envAt os rs i) (i + 1) rd.ns with
        | some er => some er
        | none => nmD (kdsOf rs) (envAt os rs i) (i + 1) rd)) else none := hrow
      have e7 := ex_fr e6 h4 fr7
      have hp7 := fr7 _ _ hp6 (bl_off hb6 hp6)
      have hn7 := nm_fr hb6 hn6 ne1 ne2 fr7
      have htk : cntR rs (i + 1) = cntR rs i + rd.ns.length := by
        unfold cntR
        rw [List.take_add_one, hk, List.map_append, List.sum_append]
        show _ + (rd.ns.length + 0) = _
        omega
      cases hX : isX rd.k with
      | false =>
        rw [hX] at hrow
        have hv : rv = .non := by
          unfold ExpV at hev
          rw [hX] at hev
          exact hev
        subst hv
        have hd : declR (i + 1) rd = [] := by
          unfold declR
          rw [if_neg (fun z => by rcases z with z | z <;> rw [z] at hX <;> cases hX)]
        have hl0 : rd.ns.length = 0 := by rw [wf.nx hX]; rfl
        refine ⟨_, rfl, a, _, rdx, _, _, rfl, e7 _ _ hra, T.cl_Row, T.na_Row_expression, f_rexp _ _, rfl, _, rfl, ite2 (fun z => absurd z (by decide)) (fun _ => ⟨some (.int (1 + (i : Nat))), some (.ref a), ?_, e7, hp7, hb7, ?_, next hrow, ?_, by omega⟩)⟩
        · rw [htk, hl0]; rfl
        · rw [env_succ hk, hd, List.append_nil]; exact hn7
        · rw [env_succ hk, hd, List.append_nil]; exact h16
      | true =>
        rw [hX, if_pos rfl] at hrow
        obtain ⟨xe, rfl, hxe⟩ : ∃ xe, rv = .ref xe ∧ ExAt A.Expression H0 xe rd.ns := by
          unfold ExpV at hev
          rw [if_pos hX] at hev
          exact hev
        obtain ⟨xedx, t0, f0, as0, hxe0, _⟩ := id hxe
        have hN := wf.x hX
        refine ⟨_, rfl, a, _, rdx, _, _, rfl, e7 _ _ hra, T.cl_Row, T.na_Row_expression, f_rexp _ _, rfl, _, rfl, ?_⟩
        rw [show (!decide (V.ref xe = V.non)) = true by rw [decide_eq_false (fun z => by cases z)]; rfl]
        refine iteT ?_
        obtain ⟨u, hu⟩ := T.co_Program_MOST_NODES
        refine ⟨_, rfl, _, rfl, a, _, rdx, _, _, rfl, e7 _ _ hra, T.cl_Row, T.na_Row_expression, f_rexp _ _, xe, xedx, _, rfl, e7 _ _ hxe0, xe, rd.ns, rfl, hxe.mono e7, ?_⟩
        have zc : ((cntR rs i : Nat) : Int) + ((rd.ns.length : Nat) : Int) = ((cntR rs (i + 1) : Nat) : Int) := by rw [htk]; omega
        have hnl := hN.le
        refine ⟨_, rfl, by omega, by omega, _, _, rfl, rfl, ?_⟩
        refine ⟨_, rfl, _, rfl, p, _, dx, _, _, u, rfl, hp7, T.cl_Program, hu, rfl, _, _, rfl, rfl, _, rfl, ite2 (fun z => ?_) (fun z => ?_)⟩
        · have z : (100 : Int) < ((cntR rs i : Nat) : Int) + ((rd.ns.length : Nat) : Int) := of_decide_eq_true z
          rw [if_pos (by omega)] at hrow
          exact ⟨(by show 1 ≤ 1000; decide), raise_what T.ex_TooLarge rfl fun d H' e' hd' => bad _ hrow d H' (e7.trans e') hd'⟩
        have z : ¬ (100 : Int) < ((cntR rs i : Nat) : Int) + ((rd.ns.length : Nat) : Int) := fun y => z (decide_eq_true y)
        have hle : cntR rs (i + 1) ≤ 100 := by omega
        rw [if_neg (by omega)] at hrow
        refine ⟨_, rfl, p, dx, _, rfl, hp7, rfl, _, rfl, _, rfl, a, _, rdx, _, _, rfl, e7 _ _ hra, T.cl_Row, T.na_Row_expression, f_rexp _ _, xe, xedx, _, rfl, e7 _ _ hxe0, xe, rd.ns, rfl, hxe.mono e7, fun N as' hN' hA' => ?_⟩
        have eN := Ex.new (o := .lst (as'.map V.ref)) hN'
        have e8 := e7.trans eN
        have hb8 : BlAt A.Blocks (upd H7 N (.lst (as'.map V.ref))) x xdx op kl ar en (kdsOf rs) (i + 1) := by obtain ⟨q, h⟩ := hb7; exact ⟨q, h.mono eN⟩
        have hn8 := hn7.mono eN
        have hp8 := eN _ _ hp7
        have hA8 := hA'.imp fun _ _ z => NdAt.mono eN z
        have hN8 : upd H7 N (.lst (as'.map V.ref)) N = some (.lst (as'.map V.ref)) := upd_same
        generalize upd H7 N (.lst (as'.map V.ref)) = H8 at e8 hb8 hn8 hp8 hA8 hN8 ⊢
        have pf8 := pf_succ pf5 (kds_at hk) okb
        have bi := bi_pf (i + 1) pf8 (by rw [kds_len]; omega)
        have br := hb8.br bi
        have hle8 : ∀ e ∈ envAt os rs i, e.2.2 ≤ i + 1 := fun e he => by have := env_le (os := os) (rs := rs) i (by omega) e he; omega
        have z1 : (1 : Int) + (i : Int) = ((i + 1 : Nat) : Int) := by omega
        rw [z1]
        refine ⟨p, dx, b, o, x, r, kd, hm, N, none, as', ss, rd.ns, bs, i + 1, envAt os rs i, kdsOf rs, i + 1, rfl, hp8, hb.mono e8, hnd, hN8, hA8, hn8.h, br, Nat.le_refl _, hle8, hN.g, fun hns => ?_, fun er hns => Rz.of e8 (bad er (by rw [hrow, hns]))⟩
        rw [hns] at hrow
        have hrow : rowD bs os rs i = nmD (kdsOf rs) (envAt os rs i) (i + 1) rd := hrow
        refine ⟨_, rfl, p, dx, _, rfl, hp8, rfl, _, rfl, _, rfl, p, dx, b, o, x, r, kd, hm, a, none, i + 1, rd, envAt os rs i, kdsOf rs, i + 1, rfl, hp8, RwAt.mono e8 hrw, hX, hn8, br, Nat.le_refl _, hle8, h16, fun hnn H9 hn9 fr9 => ?_, fun er hnn => Rz.of e8 (bad er (by rw [hrow, hnn]))⟩
        rw [hnn] at hrow
        have e9 := ex_fr e8 h2 fr9
        have hp9 := fr9 _ _ hp8 (p_off hp8 hn8)
        rw [← env_succ hk] at hn9
        refine ⟨some (.int ((i + 1 : Nat) : Int)), some (.ref a), congrArg (fun z => [some (V.ref p), some (V.int z), some (V.int ((i + 1 : Nat) : Int)), some (V.ref a)]) zc, e9, hp9, bl_fr hb8 hn8 ne1 ne2 fr9, hn9, next hrow, ?_, hle⟩
        rw [env_succ hk, List.length_append]
        unfold nmD at hnn
        unfold declR
        split
        · rename_i hvr
          rw [if_neg (fun e => by rcases hvr with e' | e' <;> rw [e'] at e <;> cases e), if_pos hvr] at hnn
          by_cases n1 : rd.nm ∈ (envAt os rs i).map (·.1)
          · rw [if_pos n1] at hnn; cases hnn
          · rw [if_neg n1] at hnn
            by_cases n2 : (envAt os rs i).length = 16
            · rw [if_pos n2] at hnn; cases hnn
            · show _ + 1 ≤ 16
              omega
        · exact h16
    · rintro σ' H5 ⟨v2, v3, rfl, e5, hp5, hb5, hn5, hno, h16, hct⟩
      rw [List.length_map, las] at hb5 hn5 hno
      have pf5 := row_pf hno
      have hrs := rows_none hno
      have hx5 : H5 x = some (.ins A.Blocks xdx (blF op kl ar en)) := by obtain ⟨_, h⟩ := hb5; exact h.ob
      refine ⟨_, rfl, p, _, dx, _, _, rfl, hp5, T.cl_Program, T.na_Program_blocks, rfl, x, xdx, _, rfl, hx5, rfl, x, xdx, op, kl, ar, en, kdsOf rs, rfl, by rw [kds_len]; exact hb5, by rw [kds_len]; exact pf5, kl48, fun hS H6 hb6 fr6 => ?_, fun hS d H' e' hd' => ?_⟩
      · rw [kds_len] at hS
        rw [if_pos hS] at hrs
        exact k hrs H6 hb6 (nm_fr hb5 hn5 ne1 ne2 fr6) (ex_fr e5 h4 fr6) (fr6 _ _ hp5 (bl_off hb5 hp5))
      · rw [kds_len] at hS hd'
        rw [if_neg hS] at hrs
        exact kq _ hrs d H' (e5.trans e') hd'
end
end K24

set_option Elab.async false
set_option linter.all false
set_option maxRecDepth 100000
namespace K24
open PySem PySem.Spec PyProof.Rows L2 Evl TL UL StX
section
variable {P : Program} {w : World} {K : PySem.W.Frag} {mg : Str → Option Value} {base : Heap} {A : Adr}
/-! ### texts of signatures -/
theorem th_str {H : Hp} {z : Str} (h : z.length ≤ 2000) : Th H (.str z) := .inl ⟨z, rfl, h⟩
def strI (n : Int) : Str := Str.ofString (toString n)
def partsOf (z : Str) (n : Int) (ns : List Int) : List Str := "fun" :: z :: strI n :: ns.map strI
def textOf (z : Str) (n : Int) (ns : List Int) : Str := Txt.join " " (partsOf z n ns)
theorem lgI {k : Int} (k0 : 0 ≤ k) (k1 : k < 100) : k.natAbs.log2 < 1920 := by
  have h1 : k.natAbs < 2 ^ 1920 := Nat.lt_of_lt_of_le (show k.natAbs < 128 by omega) (by decide +kernel)
  by_cases hz : k.natAbs = 0
  · rw [hz]
    decide
  · exact (Nat.log2_lt hz).mpr h1
theorem lenI {k : Int} (k0 : 0 ≤ k) (k1 : k < 100) : (strI k).length ≤ 2 := by
  have := (num_ok k0 k1).2.2
  rw [len_tl]
  exact this
theorem sum_le0 (zs : List Str) (b : Nat) (h : ∀ z ∈ zs, z.length ≤ b) : (zs.map (·.length)).sum ≤ zs.length * b := by
  induction zs with
  | nil => exact Nat.zero_le _
  | cons z r ih =>
    have h1 := h z List.mem_cons_self
    have h2 := ih fun y hy => h y (List.mem_cons_of_mem _ hy)
    rw [List.map_cons, List.sum_cons, List.length_cons, Nat.add_mul]
    omega
def spSgText (K : PySem.W.Frag) (C : Addr) : Sp := fun vs H Q _ => ∃ a z n ns, vs = [.ref a] ∧ Sig K C H a z n ns ∧ z.length ≤ 2000 ∧ 0 ≤ n ∧ n < 100 ∧ (∀ m ∈ ns, 0 ≤ m ∧ m < 100) ∧ ns.length ≤ 1000 ∧ ∀ H', Ex H H' → Q (.str (textOf z n ns)) H'
theorem ok_sig_text (T : Tx0 w K mg A) : FnOk P w K mg base CX0 2 A.sig_text A.d_sig_text p_sig_text (spSgText K A.Signature) := by
  refine T.F_sig_text.ok sc_sig_text (fun vs H Q E h => ?_) (fun cdv Ar outer s H vs Q E hr h => ?_)
  · obtain ⟨a, z, n, ns, rfl, _⟩ := h
    rfl
  · obtain ⟨a, z, n, ns, rfl, ⟨dx, t, ha, ht⟩, hz, n0, n1, hns, hl, k⟩ := h
    refine ⟨_, (pss_cons (ps_setLc (i := 1) (own := [("source", 2)]) (g := gName 2) (tt := tYes) rfl sc_sig_text.nd rfl rfl (sw_true rfl rfl rfl (by decide +kernel)) (pi_tup (pe_fld (pv 0) rfl)) (blkOk_by (N := n_sig_text) (sc := defScope s_sig_text) (by decide +kernel)) (fun _ _ _ _ _ => pg_name (i := 2) sc_sig_text.nd rfl (Or.inl rfl)) (fun _ _ _ _ _ => pts_nil) (fun _ _ _ _ _ => (pe_callTy call_str_int (by rfl) T.m_str (by decide +kernel) (pa_cons (pv 2) pa_nil))))
      (pss_one (ps_ret (pe_bm PySem.F.plainAttrs_str PySem.F.slot_str_join PySem.F.type_str_join mt_join pe_str (pa_cons (pe_lst (pa_cons pe_str (pa_cons (pe_fld (pv 0) rfl) (pa_cons (pe_callTy call_str_int (by rfl) T.m_str (by decide +kernel) (pa_cons (pe_fld (pv 0) rfl) pa_nil)) (pa_star (pv 1) pa_nil))))) pa_nil))))), ?_⟩
    refine ⟨_, rfl, a, _, dx, _, _, rfl, ha, T.cl_Signature, T.na_Signature_sources, f_sources _ _ _, t, rfl, ⟨_, ht⟩, fun D hD => ?_⟩
    refine lc_map (K := K) (xs := ns.map V.int) (f := fun v => match v with | .int m => .str (strI m) | _ => .non) walk_tup (by rw [List.length_map]; omega) hD (fun H' e => ex_t e ht) (fun _ => rfl) (fun x H' hx e Q' q => ?_) ?_
    · obtain ⟨m, hm, rfl⟩ := List.mem_map.mp hx
      exact ⟨_, rfl, m, rfl, lgI (hns m hm).1 (hns m hm).2, q⟩
    rw [List.map_map, show (List.map ((fun v => match v with | .int m => .str (strI m) | _ => .non) ∘ V.int) ns : List V) = (ns.map strI).map V.str by rw [List.map_map]; rfl]
    have e1 := Ex.new (o := .lst ((ns.map strI).map V.str)) hD
    have ha1 := e1 _ _ ha
    refine ⟨rfl, _, rfl, a, _, dx, _, _, rfl, ha1, T.cl_Signature, T.na_Signature_name, f_name _ _ _, _, rfl, a, _, dx, _, _, rfl, ha1, T.cl_Signature, T.na_Signature_count, f_count _ _ _, n, rfl, lgI n0 n1, _, rfl, D, _, rfl, .inr (SqL.of upd_same), ?_⟩
    refine ⟨sz_of (by rw [List.append_nil]; show (ns.map strI |>.map V.str).length + 1 + 1 + 1 ≤ 100000; rw [List.length_map, List.length_map]; omega), fun p hp => ?_⟩
    refine ⟨" ", p, partsOf z n ns, rfl, rfl, .inl (SqL.of (by rw [upd_same, List.append_nil]; rfl)), ?_, k _ (e1.trans (Ex.new hp))⟩
    have h1 : ((partsOf z n ns).map (·.length)).sum ≤ (partsOf z n ns).length * 2000 := sum_le0 _ _ fun w hw => by
      rcases List.mem_cons.mp hw with rfl | hw
      · decide
      · rcases List.mem_cons.mp hw with rfl | hw
        · exact hz
        · rcases List.mem_cons.mp hw with rfl | hw
          · exact Nat.le_trans (lenI n0 n1) (by decide)
          · obtain ⟨m, hm, rfl⟩ := List.mem_map.mp hw
            exact Nat.le_trans (lenI (hns m hm).1 (hns m hm).2) (by decide)
    have h2 : (partsOf z n ns).length ≤ 1003 := by
      show (ns.map strI).length + 1 + 1 + 1 ≤ 1003
      rw [List.length_map]
      omega
    have h3 : (partsOf z n ns).length * 2000 ≤ 1003 * 2000 := Nat.mul_le_mul_right _ h2
    show ((partsOf z n ns).map (·.length)).sum + (partsOf z n ns).length * 1 ≤ 16777216
    omega
/-! ### reading -/
def numS : List Str := ["0", "1", "2", "3", "4"]
def valS (w : Str) : Int := (((tl w).headD 48 - 48 : Nat) : Int)
theorem numS_int : ∀ w ∈ numS, PySem.intText? w = some (valS w) ∧ w.length = 1 ∧ 0 ≤ valS w ∧ valS w ≤ 4 ∧ strI (valS w) = w := by
  intro w hw
  simp only [numS, List.mem_cons, List.not_mem_nil, or_false] at hw
  rcases hw with rfl | rfl | rfl | rfl | rfl <;> exact ⟨by decide +kernel, by decide +kernel, by decide +kernel, by decide +kernel, by decide +kernel⟩
theorem numV : k_NUMERALS = numS.map V.str := rfl
open Classical in
/-- the parts of a line's words, where they are those of a signature -/
noncomputable def rdP : List Str → Option (Str × Int × List Int)
  | w0 :: w1 :: w2 :: r => if w0 = "fun" ∧ (∀ w ∈ w2 :: r, w ∈ numS) ∧ sigOk (.str w1) (.int (valS w2)) (some ((r.map valS).map V.int)) = true then some (w1, valS w2, r.map valS) else none
  | _ => none
theorem rdP_no {w0 w1 w2 : Str} {r : List Str} (h : ¬ (w0 = "fun" ∧ (∀ w ∈ w2 :: r, w ∈ numS) ∧ sigOk (.str w1) (.int (valS w2)) (some ((r.map valS).map V.int)) = true)) : rdP (w0 :: w1 :: w2 :: r) = none := if_neg h
theorem rdP_yes {w0 w1 w2 : Str} {r : List Str} (h : w0 = "fun" ∧ (∀ w ∈ w2 :: r, w ∈ numS) ∧ sigOk (.str w1) (.int (valS w2)) (some ((r.map valS).map V.int)) = true) : rdP (w0 :: w1 :: w2 :: r) = some (w1, valS w2, r.map valS) := if_pos h
theorem part_len (y : Str) : ∀ parts : List Str, (∀ w ∈ parts, w.length ≤ (Str.join y parts).length) ∧ parts.length ≤ (Str.join y parts).length * 1 + (if y.length = 0 then parts.length else 1)
  | [] => ⟨fun _ h => (nomatch h), Nat.zero_le _⟩
  | [p] => ⟨fun w hw => by rw [List.mem_singleton.mp hw]; exact Nat.le_refl _, by
    show 1 ≤ _
    split
    · show 1 ≤ _ + 1
      omega
    · omega⟩
  | p :: q :: r => by
    obtain ⟨h1, h2⟩ := part_len y (q :: r)
    have e : (Str.join y (p :: q :: r)).length = p.length + y.length + (Str.join y (q :: r)).length := by
      show (p ++ y ++ Str.join y (q :: r)).length = _
      rw [len_app, len_app]
    refine ⟨fun w hw => ?_, ?_⟩
    · rcases List.mem_cons.mp hw with rfl | hw
      · omega
      · have := h1 w hw
        omega
    · rw [e, List.length_cons]
      split at h2
      · rename_i hy
        rw [if_pos hy, List.length_cons]
        omega
      · rename_i hy
        rw [if_neg hy]
        omega
theorem words_ok (line : Str) : (∀ w ∈ Txt.split line " ", w.length ≤ line.length) ∧ (Txt.split line " ").length ≤ line.length + 1 := by
  obtain ⟨h1, h2⟩ := part_len " " (Txt.split line " ")
  rw [StrLaws.join_split] at h1 h2
  exact ⟨h1, by have : ¬ (" " : Str).length = 0 := by decide
                rw [if_neg this] at h2
                omega⟩
def spSgRead (K : PySem.W.Frag) (C : Addr) : Sp := fun vs H Q _ => ∃ line z n ns, vs = [.str line] ∧ line.length ≤ 2000 ∧ rdP (Txt.split line " ") = some (z, n, ns) ∧ ∀ a H', Ex H H' → Sig K C H' a z n ns → Q (.ref a) H'
theorem ok_sig_read (T : Tx0 w K mg A) : FnOk P w K mg base CX0 7 A.sig_read A.d_sig_read p_sig_read (spSgRead K A.Signature) := by
  refine T.F_sig_read.ok sc_sig_read (fun vs H Q E h => ?_) (fun cdv Ar outer s H vs Q E hr h => ?_)
  · obtain ⟨line, z, n, ns, rfl, _⟩ := h
    rfl
  · obtain ⟨line, z0, n0, ns0, rfl, hlen, hrd, k0⟩ := h
    have k1 : ∀ z n ns, rdP (Txt.split line " ") = some (z, n, ns) → ∀ a H', Ex H H' → Sig K A.Signature H' a z n ns → Q (.ref a) H' := fun z n ns h => by
      rw [hrd] at h
      cases h
      exact k0
    obtain ⟨mv, kb_sig_init_2⟩ := T.F_sig_init.kbinds0 (ps := p_sig_init) 3 ["sources"] [] (fun us _ ws => us ++ ws) (by simp) (fun q h => (nomatch h)) (fun a _ c => a.append c) (fun D doc pm an cdv ct us mv ws h1 h2 h3 => by
      match us, h1, mv, h2, ws, h3 with
      | [_, _, _], _, [], _, [_], _ => exact rfl)
    refine ⟨_, (pss_cons (ps_set (i := 1) sc_sig_read.nd rfl (Or.inl rfl) (pe_bm PySem.F.plainAttrs_str PySem.F.slot_str_split PySem.F.type_str_split mt_split (pv 0) (pa_cons pe_str pa_nil)))
      (pss_cons (ps_setLc (i := 2) (own := [("word", 3)]) (g := gName 3) rfl sc_sig_read.nd rfl rfl (sw_true rfl rfl rfl (by decide +kernel)) (pi_list (pe_slice sl_list (pv 1) (po_some pe_int) po_none)) (blkOk_by (N := n_sig_read) (sc := defScope s_sig_read) (by decide +kernel)) (fun _ _ _ _ _ => pg_name (i := 3) sc_sig_read.nd rfl (Or.inl rfl)) (fun _ _ _ _ _ => pts_one (pt_cmpR (show OpR _ _ (rIn K false) from op_in_seq) (pv 3) (pe_glob (v := .ref A.NUMERALS) (by rfl) T.c_NUMERALS rfl) (by rfl))) (fun _ _ _ _ _ => (pe_callTy call_int_str (by rfl) T.m_int (by decide +kernel) (pa_cons (pv 3) pa_nil))))
      (pss_cons (ps_if (PW.pt (pw_or (pt_cmpR op_lt (pe_callB call_len_seq (by rfl) T.m_len PySem.boot_len (pa_cons (pv 1) pa_nil)) pe_int (nomark _)) (pw_or (pt_cmpR op_ne (pe_ix ix_list (pv 1) pe_int (fun _ _ => rfl)) pe_str (nomark _)) (pw_or1 (pt_cmpR op_lt (pe_callB call_len_seq (by rfl) T.m_len PySem.boot_len (pa_cons (pv 2) pa_nil)) (pe_op op_sub (pe_callB call_len_seq (by rfl) T.m_len PySem.boot_len (pa_cons (pv 1) pa_nil)) pe_int) (nomark _)))))) (pss_one ps_never) pss_nil)
      (pss_cons (ps_if (pt_not (pt_val (pe_call (ok_is_signature T) (hr.mono (by decide)) (by rfl) T.g_is_signature T.F_is_signature.kp T.b_is_signature .nil pass0 (pa_cons (pe_ix ix_list (pv 1) pe_int (fun _ _ => rfl)) (pa_cons (pe_ix ix_list (pv 2) pe_int (fun _ _ => rfl)) (pa_cons (pe_slice sl_list (pv 2) (po_some pe_int) po_none) pa_nil)))))) (pss_one ps_never) pss_nil)
      (pss_one (ps_ret (pe_makeK (n := 2) T.mk_Signature (ok_sig_init T) (hr.mono (by decide)) (by rfl) T.g_Signature kb_sig_init_2 passL (pa_cons (pe_ix ix_list (pv 1) pe_int (fun _ _ => rfl)) (pa_cons (pe_ix ix_list (pv 2) pe_int (fun _ _ => rfl)) pa_nil)) (pk_cons (pe_slice sl_list (pv 2) (po_some pe_int) po_none) pk_nil)))))))), ?_⟩
    obtain ⟨wl, wn⟩ := words_ok line
    refine ⟨_, rfl, rfl, _, _, rfl, rfl, by decide, sz_of (by omega), fun p hp => ?_⟩
    generalize Txt.split line " " = ws at *
    have e1 := Ex.new (o := .lst (ws.map V.str)) hp
    refine ⟨_, rfl, 2, rfl, p, _, rfl, SqL.of upd_same, fun q hq => ?_⟩
    have hcut : cutV (ws.map V.str) (some 2) none = (ws.drop 2).map V.str := by
      rw [show (some 2 : Option Int) = some ((2 : Nat) : Int) from rfl, cut_from, List.map_drop]
    rw [hcut]
    have e2 := Ex.new (o := .lst ((ws.drop 2).map V.str)) hq
    refine ⟨q, rfl, ⟨_, SqL.of upd_same⟩, fun D hD => ?_⟩
    refine lc_filter (K := K) (xs := (ws.drop 2).map V.str) (p := fun v => match v with | .str w => decide (w ∈ numS) | _ => false) (f := fun v => match v with | .str w => .int (valS w) | _ => .non) walk_list
      (by rw [List.length_map, List.length_drop]; omega) hD (fun H' e => SqL.of (e _ _ upd_same)) (fun _ => rfl) (fun x H' hx e Q' k => ?_) (fun x H' hx hpx e Q' k => ?_) ?_
    · obtain ⟨w, hw, rfl⟩ := List.mem_map.mp hx
      refine ⟨_, rfl, A.NUMERALS, k_NUMERALS, rfl, .inr (T.q_NUMERALS _), rfl, by decide, _, rfl, ?_⟩
      show Q' (inV (.str w) k_NUMERALS) H'
      rw [numV, inV_strs]
      exact k
    · obtain ⟨w, hw, rfl⟩ := List.mem_map.mp hx
      have hm : w ∈ numS := of_decide_eq_true hpx
      obtain ⟨i1, i2, _⟩ := numS_int w hm
      exact ⟨_, rfl, w, valS w, rfl, i1, by omega, k⟩
    have hlist : ((((ws.drop 2).map V.str).filter fun v => match v with | .str w => decide (w ∈ numS) | _ => false).map fun v => match v with | .str w => V.int (valS w) | _ => .non) = (((ws.drop 2).filter fun w => decide (w ∈ numS)).map valS).map V.int := by
      rw [List.filter_map, List.map_map, List.map_map]
      rfl
    rw [hlist]
    generalize hns : ((ws.drop 2).filter fun w => decide (w ∈ numS)).map valS = ns0
    have e3 := Ex.new (o := .lst (ns0.map V.int)) hD
    have hp3 := e3 _ _ (e2 _ _ (upd_same (H := H) (a := p) (o := .lst (ws.map V.str))))
    have hD3 : upd (upd (upd H p (.lst (ws.map V.str))) q (.lst ((ws.drop 2).map V.str))) D (.lst (ns0.map V.int)) D = some (.lst (ns0.map V.int)) := upd_same
    have e03 := (e1.trans e2).trans e3
    revert hp3 hD3 e03
    generalize upd (upd (upd H p (.lst (ws.map V.str))) q (.lst ((ws.drop 2).map V.str))) D (.lst (ns0.map V.int)) = H1
    intro hp3 hD3 e03
    have fail : ∀ (H' : Hp), Ex H H' → rdP ws = none → False := fun H' e hn => by
      rw [hn] at hrd
      cases hrd
    refine ⟨_, rfl, p, _, rfl, .inl (SqL.of hp3), _, 3, rfl, rfl, _, rfl, ite2 (fun h => ?_) (fun h => ?_)⟩
    · refine iteT (fail _ e03 ?_)
      have h1 : (((ws.map V.str).length : Nat) : Int) < 3 := of_decide_eq_true h
      rw [List.length_map] at h1
      match ws, h1 with
      | [], _ => rfl
      | [_], _ => rfl
      | [_, _], _ => rfl
      | _ :: _ :: _ :: r, h1 =>
        rw [List.length_cons, List.length_cons, List.length_cons] at h1
        omega
    have h1 : ¬ (((ws.map V.str).length : Nat) : Int) < 3 := fun q => h (decide_eq_true q)
    rw [List.length_map] at h1
    obtain ⟨w0, wa, wb, r, rfl⟩ : ∃ w0 wa wb r, ws = w0 :: wa :: wb :: r := by
      match ws, h1 with
      | [], h1 => exact absurd (show ((0 : Nat) : Int) < 3 by decide) h1
      | [_], h1 => exact absurd (show ((1 : Nat) : Int) < 3 by decide) h1
      | [_, _], h1 => exact absurd (show ((2 : Nat) : Int) < 3 by decide) h1
      | w0 :: wa :: wb :: r, _ => exact ⟨w0, wa, wb, r, rfl⟩
    refine ⟨_, rfl, p, _, 0, .str w0, rfl, rfl, SqL.of hp3, atI_nat (j := 0) rfl, rfl, _, rfl, ?_⟩
    by_cases hf : w0 = "fun"
    case neg =>
      rw [decide_eq_false (show ¬ V.str w0 = V.str "fun" from fun q => hf (V.str.inj q))]
      exact iteT (iteT (fail _ e03 (rdP_no fun q => hf q.1)))
    rw [decide_eq_true (show V.str w0 = V.str "fun" by rw [hf])]
    refine iteF ?_
    refine ⟨_, rfl, D, _, rfl, .inl (SqL.of hD3), _, rfl, p, _, rfl, .inl (SqL.of hp3), _, 2, rfl, rfl, _, _, rfl, rfl, _, rfl, ?_⟩
    by_cases hall : ∀ w ∈ wb :: r, w ∈ numS
    case neg =>
      have hlt : ((ns0.map V.int).length : Int) < (((w0 :: wa :: wb :: r).map V.str).length : Int) - 2 := by
        rw [List.length_map, List.length_map, ← hns, List.length_map]
        have h2 : ((wb :: r).filter fun w => decide (w ∈ numS)).length < (wb :: r).length := by
          refine Nat.lt_of_le_of_ne (List.length_filter_le _ _) fun q => hall fun w hw => ?_
          have := (List.length_filter_eq_length_iff.mp q) w hw
          exact of_decide_eq_true this
        show ((((wb :: r).filter fun w => decide (w ∈ numS)).length : Nat) : Int) < (((wb :: r).length + 1 + 1 : Nat) : Int) - 2
        omega
      rw [decide_eq_true hlt]
      exact iteT (fail _ e03 (rdP_no fun q => hall q.2.1))
    have hns2 : ns0 = valS wb :: r.map valS := by
      rw [← hns]
      show ((wb :: r).filter fun w => decide (w ∈ numS)).map valS = _
      rw [List.filter_eq_self.mpr (fun w hw => decide_eq_true (hall w hw))]
      rfl
    subst hns2
    have hge : ¬ (((valS wb :: r.map valS).map V.int).length : Int) < (((w0 :: wa :: wb :: r).map V.str).length : Int) - 2 := by
      rw [List.length_map, List.length_map, List.length_cons, List.length_map, List.length_cons, List.length_cons, List.length_cons]
      omega
    rw [decide_eq_false hge]
    refine iteF ?_
    have hwa : wa.length ≤ 2000 := Nat.le_trans (wl wa (by simp)) hlen
    have hrl : r.length ≤ 50 ∨ 50 < r.length := by omega
    have cutn : cutV ((valS wb :: r.map valS).map V.int) (some 1) none = (r.map valS).map V.int := by
      rw [cut_one]
      rfl
    have th : ∀ {H' : Hp} {ms : List Int}, ∀ x ∈ ms.map V.int, Th H' x := fun x hx => by
      obtain ⟨m, _, rfl⟩ := List.mem_map.mp hx
      exact .inr (.inr (.inr (.inl ⟨m, rfl⟩)))
    have thn : ∀ {n : Int} {H' : Hp}, Th H' (.int n) := .inr (.inr (.inr (.inl ⟨_, rfl⟩)))
    refine ⟨_, rfl, p, _, 1, .str wa, rfl, rfl, SqL.of hp3, atI_nat (j := 1) rfl, _, rfl, D, _, 0, .int (valS wb), rfl, rfl, SqL.of hD3, atI_nat (j := 0) rfl, _, rfl, 1, rfl, D, _, rfl, SqL.of hD3, fun u hu => ?_⟩
    rw [cutn]
    have e4 := Ex.new (o := .lst ((r.map valS).map V.int)) hu
    refine ⟨.str wa, .int (valS wb), .ref u, some ((r.map valS).map V.int), rfl, th_str hwa, thn, ⟨⟨u, rfl, .inl upd_same⟩, th, ?_⟩, fun H2 e5 => ⟨_, rfl, ?_⟩⟩
    · rw [List.length_map, List.length_map]
      rw [List.length_cons, List.length_cons, List.length_cons] at wn
      omega
    have e45 := e4.trans e5
    cases hb : sigOk (.str wa) (.int (valS wb)) (some ((r.map valS).map V.int)) with
    | false =>
      exact iteT (fail _ (e03.trans e45) (rdP_no fun q => by rw [hb] at q; cases q.2.2))
    | true =>
      refine iteF ?_
      have hp6 := e45 _ _ hp3
      have hD6 := e45 _ _ hD3
      refine ⟨_, rfl, p, _, 1, .str wa, rfl, rfl, SqL.of hp6, atI_nat (j := 1) rfl, _, rfl, D, _, 0, .int (valS wb), rfl, rfl, SqL.of hD6, atI_nat (j := 0) rfl, _, rfl, 1, rfl, D, _, rfl, SqL.of hD6, fun v hv => ?_⟩
      rw [cutn]
      have e7 := Ex.new (o := .lst ((r.map valS).map V.int)) hv
      refine ⟨rfl, rfl, fun x dx hx hdx ne => ?_⟩
      have e8 := made_in (C := A.Signature) hx hdx
      refine ⟨x, dx, .str wa, .int (valS wb), .ref v, some ((r.map valS).map V.int), rfl, upd_same, rfl, th_str hwa, thn, ⟨⟨v, rfl, .inl (e8 _ _ upd_same)⟩, th, ?_⟩, fun _ H7 t e9 h7 ht7 => ⟨rfl, ?_⟩, fun h => by rw [hb] at h; cases h⟩
      · rw [List.length_map, List.length_map]
        rw [List.length_cons, List.length_cons, List.length_cons] at wn
        omega
      have e10 := made_ex hx hdx e9
      exact k1 wa (valS wb) (r.map valS) (rdP_yes ⟨hf, hall, hb⟩) x H7 (((e03.trans e45).trans e7).trans e10) ⟨dx, t, h7, ht7⟩
/-! ### the lines of a program -/
theorem starts_pre (x y : Str) (hy : tl y ≠ []) : Txt.startswith x y = pre (tl y) (tl x) := by
  have h := at_iff (x := x) hy 0
  rw [List.drop_zero] at h
  unfold Txt.startswith
  by_cases hp : pre (tl y) (tl x) = true
  · have ha := h.mpr hp
    rw [hp, ha.2, Bool.and_true]
    exact decide_eq_true ha.1
  · have hn : ¬ (0 + y.length ≤ x.length ∧ PySem.Builtin.Str.subAt x y 0 = true) := fun z => hp (h.mp z)
    have hf : pre (tl y) (tl x) = false := by
      cases e : pre (tl y) (tl x) with
      | false => rfl
      | true => exact absurd e hp
    rw [hf]
    cases e : PySem.Builtin.Str.subAt x y 0 with
    | false => exact Bool.and_false _
    | true => rw [Bool.and_true]; exact decide_eq_false fun z => hn ⟨z, e⟩
theorem tx_free {ns : List Nd} (h : OkN ns) (c : Nat) (hc : alnum c = false) (h40 : c ≠ 40) (h41 : c ≠ 41) (h44 : c ≠ 44) : ∀ i, i < ns.length → c ∉ tx ns i := by
  have hwf := (good_wf (okN_good h).1).1
  have word : ∀ w : Str, okS w = true → c ∉ tl w := fun w hw m => by
    have := List.all_eq_true.mp (okS_all hw).1 _ m
    rw [hc] at this
    cases this
  have opw : ∀ (w : Str) (n : Int), opsT.lookup w = some n → c ∉ tl w := fun w n hw m => by
    have key : ∀ z : Str, (tl z).all alnum = true → c ∉ tl z := fun z hz m => by
      have := List.all_eq_true.mp hz _ m
      rw [hc] at this
      cases this
    rcases ops_cases hw with ⟨rfl, _⟩ | ⟨rfl, _⟩ | ⟨rfl, _⟩ <;> exact key _ (by decide +kernel) m
  have join : ∀ ts : List (List Nat), (∀ t ∈ ts, c ∉ t) → c ∉ joinC ts := by
    intro ts
    induction ts with
    | nil => exact fun _ m => nomatch m
    | cons t r ih =>
      intro h m
      cases r with
      | nil => exact h t List.mem_cons_self m
      | cons u v =>
        rw [joinC] at m
        rcases List.mem_append.mp m with m | m
        · exact h t List.mem_cons_self m
        · rcases List.mem_cons.mp m with m | m
          · exact h44 m
          · exact ih (fun t ht => h t (List.mem_cons_of_mem _ ht)) m
  intro i
  induction i using Nat.strongRecOn with
  | ind i ih =>
    intro hi
    have hnd : ns[i]? = some ns[i] := List.getElem?_eq_getElem hi
    have hops := (hwf i ns[i] hnd).2
    rw [tx_at hnd hops]
    have hg := h.g ns[i] (List.getElem_mem hi)
    have args : ∀ os : List Nat, (∀ o ∈ os, o < i) → c ∉ joinC (os.map (tx ns)) := fun os ho => join _ fun t ht => by
      obtain ⟨o, hm, rfl⟩ := List.mem_map.mp ht
      exact ih o (ho o hm) (by have := ho o hm; omega)
    revert hg hops
    cases ns[i] with
    | name w => exact fun _ hg => word w hg
    | call w os =>
      intro hops hg m
      rcases List.mem_append.mp (show c ∈ (tl w ++ 40 :: joinC (os.map (tx ns))) ++ [41] from m) with m | m
      · rcases List.mem_append.mp m with m | m
        · exact word w hg.1 m
        · rcases List.mem_cons.mp m with m | m
          · exact h40 m
          · exact args os hops m
      · exact h41 (List.mem_singleton.mp m)
    | op w os =>
      intro hops hg m
      rcases List.mem_append.mp (show c ∈ (tl w ++ 40 :: joinC (os.map (tx ns))) ++ [41] from m) with m | m
      · rcases List.mem_append.mp m with m | m
        · exact opw w _ hg m
        · rcases List.mem_cons.mp m with m | m
          · exact h40 m
          · exact args os hops m
      · exact h41 (List.mem_singleton.mp m)
theorem exT_line {ns : List Nd} (h : OkN ns) : 10 ∉ tl (exT ns) := by
  unfold exT
  rw [tl_ofL]
  exact tx_free h 10 (by decide +kernel) (by decide) (by decide) (by decide) _ (by have := List.length_pos_iff.mpr h.ne; omega)
/-- a row's line: its first sign, no line feed in it -/
theorem rT_facts {r : Rwd} (wf : WfRw r) : 10 ∉ tl (rT r) ∧ ∃ t, tl (rT r) = (tl (kS r.k)) ++ t := by
  have e1 : tl (" " : Str) = [32] := by decide +kernel
  have e3 : tl (" = " : Str) = [32, 61, 32] := by decide +kernel
  have hk := (kS_plain r.k).2
  unfold rT
  cases hB : isB r.k with
  | true =>
    have hx := exT_line (wf.x (isB_X hB))
    have hn := (okS_sp (wf.b hB)).2
    rw [if_pos rfl, tl_append, tl_append, tl_append, tl_append, e1, e3]
    refine ⟨fun m => ?_, _, List.append_assoc _ _ _⟩
    simp only [List.mem_append, List.mem_cons, List.not_mem_nil, or_false] at m
    rcases m with (m | m) | (m | m) | m
    · exact hk m
    · exact absurd m (by decide)
    · exact hn m
    · exact absurd m (by decide)
    · exact hx m
  | false =>
    rw [if_neg (by decide)]
    cases hX : isX r.k with
    | true =>
      have hx := exT_line (wf.x hX)
      rw [if_pos rfl, tl_append, tl_append, e1]
      refine ⟨fun m => ?_, _, List.append_assoc _ _ _⟩
      simp only [List.mem_append, List.mem_cons, List.not_mem_nil, or_false] at m
      rcases m with (m | m) | m
      · exact hk m
      · exact absurd m (by decide)
      · exact hx m
    | false =>
      rw [if_neg (by decide)]
      exact ⟨hk, [], (List.append_nil _).symm⟩
theorem kS_head (k : Kd) : ∃ c t, tl (kS k) = c :: t ∧ c ≠ 102 ∧ c ≠ 111 := by
  cases k <;> exact ⟨_, _, rfl, by decide, by decide⟩
theorem rT_head {r : Rwd} (wf : WfRw r) : Txt.startswith (rT r) "fun " = false ∧ Txt.startswith (rT r) "out " = false := by
  obtain ⟨_, t, ht⟩ := rT_facts wf
  obtain ⟨c, u, hu, h1, h2⟩ := kS_head r.k
  rw [hu] at ht
  rw [starts_pre _ _ (by decide +kernel), starts_pre _ _ (by decide +kernel), ht, show tl ("fun " : Str) = [102, 117, 110, 32] by decide +kernel, show tl ("out " : Str) = [111, 117, 116, 32] by decide +kernel]
  exact ⟨pre_of_head _ _ h1, pre_of_head _ _ h2⟩
theorem rT_ne {r : Rwd} (wf : WfRw r) : tl (rT r) ≠ [] := by
  obtain ⟨_, t, ht⟩ := rT_facts wf
  obtain ⟨c, u, hu, _⟩ := kS_head r.k
  rw [ht, hu]
  intro z
  cases z
/-- the line of a function, the line of the outs -/
def sgT (b : Rw) : Str := textOf b.1 b.2.1 b.2.2
def outT (os : List Str) : Str := Txt.join " " ("out" :: os)
def prL (bs : List Rw) (os : List Str) (rs : List Rwd) : List Str := bs.map sgT ++ ((if os = [] then [] else [outT os]) ++ rs.map rT)
def pT (bs : List Rw) (os : List Str) (rs : List Rwd) : Str := Txt.join "\n" (prL bs os rs)
theorem join_cons (y a : Str) (r : List Str) (h : r ≠ []) : tl (Txt.join y (a :: r)) = tl a ++ (tl y ++ tl (Txt.join y r)) := by
  rw [join_eq, join_eq, tl_join, tl_join]
  cases r with
  | nil => exact absurd rfl h
  | cons b t => rfl
theorem join_one (y a : Str) : Txt.join y [a] = a := by rw [join_eq]; rfl
/-- words put together by one sign that stands in none of them -/
theorem join_free (y : Str) (s c : Nat) (hy : tl y = [s]) (hs : c ≠ s) : ∀ ws : List Str, (∀ w ∈ ws, c ∉ tl w) → c ∉ tl (Txt.join y ws)
  | [], _ => by rw [show Txt.join y [] = Str.join y [] from join_eq _ _]; show c ∉ tl Str.empty; rw [show tl Str.empty = [] by decide +kernel]; exact fun m => nomatch m
  | [w], h => by rw [join_one]; exact h w List.mem_cons_self
  | w :: v :: r, h => by
    rw [join_cons y w (v :: r) (by simp), hy]
    intro m
    rcases List.mem_append.mp m with m | m
    · exact h w List.mem_cons_self m
    · rcases List.mem_cons.mp m with m | m
      · exact hs m
      · exact join_free y s c hy hs (v :: r) (fun w hw => h w (List.mem_cons_of_mem _ hw)) m
theorem join_len (y : Str) : ∀ (ws : List Str) (n : Nat), (∀ w ∈ ws, w.length ≤ n) → (Txt.join y ws).length ≤ (n + y.length) * ws.length
  | [], n, _ => by rw [show Txt.join y [] = Str.join y [] from join_eq _ _]; show (Str.empty).length ≤ _; rw [show (Str.empty).length = 0 by decide +kernel]; exact Nat.zero_le _
  | [w], n, h => by
    rw [join_one]
    have := h w List.mem_cons_self
    show _ ≤ (n + y.length) * 1
    omega
  | w :: v :: r, n, h => by
    have h1 := h w List.mem_cons_self
    have h2 := join_len y (v :: r) n fun w hw => h w (List.mem_cons_of_mem _ hw)
    rw [len_tl, join_cons y w (v :: r) (by simp), List.length_append, List.length_append, ← len_tl, ← len_tl, ← len_tl]
    rw [show (w :: v :: r).length = (v :: r).length + 1 from rfl, Nat.mul_add, Nat.mul_one]
    omega
end
end K24

set_option Elab.async false
set_option linter.all false
set_option maxRecDepth 100000
namespace K24
open PySem PySem.Spec PyProof.Rows L2 Evl TL UL StX
section
variable {P : Program} {w : World} {K : PySem.W.Frag} {mg : Str → Option Value} {base : Heap} {A : Adr}
/-! ### the text of a program -/
theorem strI_free {n : Int} (h0 : 0 ≤ n) (h1 : n < 100) : 32 ∉ tl (strI n) ∧ 10 ∉ tl (strI n) := by
  have hd := (num_ok h0 h1).1
  exact ⟨fun m => absurd (hd _ m) (by decide +kernel), fun m => absurd (hd _ m) (by decide +kernel)⟩
theorem good_num {b : Rw} (h : good b) : ∀ m ∈ b.2.2, 0 ≤ m ∧ m < 100 := fun m hm => by
  have := h.2.2.2 m hm
  have := h.2.1
  omega
theorem sg_parts {b : Rw} (h : good b) : ∀ w ∈ partsOf b.1 b.2.1 b.2.2, 32 ∉ tl w ∧ 10 ∉ tl w ∧ w.length ≤ 8 := by
  intro w hw
  have hn := h.2.1
  rcases List.mem_cons.mp hw with rfl | hw
  · exact ⟨by decide +kernel, by decide +kernel, by decide +kernel⟩
  rcases List.mem_cons.mp hw with rfl | hw
  · exact ⟨(okS_sp h.1).1, (okS_sp h.1).2, okS_len h.1⟩
  rcases List.mem_cons.mp hw with rfl | hw
  · exact ⟨(strI_free (by omega) (by omega)).1, (strI_free (by omega) (by omega)).2, Nat.le_trans (lenI (by omega) (by omega)) (by decide)⟩
  · obtain ⟨m, hm, rfl⟩ := List.mem_map.mp hw
    have := good_num h m hm
    exact ⟨(strI_free this.1 this.2).1, (strI_free this.1 this.2).2, Nat.le_trans (lenI this.1 this.2) (by decide)⟩
theorem sg_count {b : Rw} (h : good b) : (partsOf b.1 b.2.1 b.2.2).length ≤ 7 := by
  have := asc_len h.2.1.2 b.2.2 h.2.2
  show (b.2.2.map strI).length + 1 + 1 + 1 ≤ 7
  rw [List.length_map]
  omega
theorem sg_facts {b : Rw} (h : good b) : 10 ∉ tl (sgT b) ∧ (sgT b).length ≤ 63 ∧ Txt.startswith (sgT b) "fun " = true ∧ tl (sgT b) ≠ [] ∧ Txt.split (sgT b) " " = partsOf b.1 b.2.1 b.2.2 := by
  have hp := sg_parts h
  have hc := sg_count h
  have e1 : tl (" " : Str) = [32] := by decide +kernel
  have hh : tl (sgT b) = [102, 117, 110] ++ ([32] ++ tl (Txt.join " " (b.1 :: strI b.2.1 :: b.2.2.map strI))) := by
    have := join_cons " " "fun" (b.1 :: strI b.2.1 :: b.2.2.map strI) (by simp)
    rw [e1, show tl ("fun" : Str) = [102, 117, 110] by decide +kernel] at this
    exact this
  refine ⟨join_free " " 32 10 e1 (by decide) _ fun w hw => (hp w hw).2.1, ?_, ?_, ?_, ?_⟩
  · have := join_len " " (partsOf b.1 b.2.1 b.2.2) 8 fun w hw => (hp w hw).2.2
    rw [show (" " : Str).length = 1 by decide +kernel] at this
    show (Txt.join " " (partsOf b.1 b.2.1 b.2.2)).length ≤ 63
    omega
  · rw [starts_pre _ _ (by decide +kernel), hh, show tl ("fun " : Str) = [102, 117, 110, 32] by decide +kernel]
    rfl
  · rw [hh]
    exact fun z => nomatch z
  · show Txt.split (Txt.join " " (partsOf b.1 b.2.1 b.2.2)) " " = _
    exact split_join (s := 32) (S := []) e1 (by decide +kernel) (by unfold partsOf; simp) fun w hw => (hp w hw).1
theorem out_facts {os : List Str} (ho : ∀ o ∈ os, okS o = true) (hne : os ≠ []) (hl : os.length ≤ 18) : 10 ∉ tl (outT os) ∧ (outT os).length ≤ 175 ∧ Txt.startswith (outT os) "fun " = false ∧ Txt.startswith (outT os) "out " = true ∧ tl (outT os) ≠ [] ∧ Txt.split (outT os) " " = ("out" : Str) :: os := by
  have hp : ∀ w ∈ ("out" : Str) :: os, 32 ∉ tl w ∧ 10 ∉ tl w ∧ w.length ≤ 8 := fun w hw => by
    rcases List.mem_cons.mp hw with rfl | hw
    · exact ⟨by decide +kernel, by decide +kernel, by decide +kernel⟩
    · exact ⟨(okS_sp (ho w hw)).1, (okS_sp (ho w hw)).2, okS_len (ho w hw)⟩
  have e1 : tl (" " : Str) = [32] := by decide +kernel
  have hh : tl (outT os) = [111, 117, 116] ++ ([32] ++ tl (Txt.join " " os)) := by
    have := join_cons " " ("out" : Str) os hne
    rw [e1, show tl ("out" : Str) = [111, 117, 116] by decide +kernel] at this
    exact this
  refine ⟨join_free " " 32 10 e1 (by decide) _ fun w hw => (hp w hw).2.1, ?_, ?_, ?_, ?_, ?_⟩
  · have := join_len " " (("out" : Str) :: os) 8 fun w hw => (hp w hw).2.2
    rw [show (" " : Str).length = 1 by decide +kernel, List.length_cons] at this
    show (Txt.join " " ("out" :: os)).length ≤ 175
    omega
  · rw [starts_pre _ _ (by decide +kernel), hh, show tl ("fun " : Str) = [102, 117, 110, 32] by decide +kernel]
    exact pre_of_head _ _ (by decide)
  · rw [starts_pre _ _ (by decide +kernel), hh, show tl ("out " : Str) = [111, 117, 116, 32] by decide +kernel]
    rfl
  · rw [hh]
    exact fun z => nomatch z
  · show Txt.split (Txt.join " " ("out" :: os)) " " = _
    exact split_join (s := 32) (S := []) e1 (by decide +kernel) (by simp) fun w hw => (hp w hw).1
theorem in_own (r : Rw) (h : r = newR ∨ r = copyR) : inV (.str r.1) [.str "new", .str "copy"] = true := by
  rcases h with rfl | rfl <;> decide +kernel
theorem in_own2 {z : Str} (h1 : z ≠ "new") (h2 : z ≠ "copy") : inV (.str z) [.str "new", .str "copy"] = false := by
  have := inV_strs z ["new", "copy"]
  rw [show ([("new" : Str), "copy"].map V.str) = [.str "new", .str "copy"] from rfl] at this
  rw [this]
  exact decide_eq_false fun m => by
    simp only [List.mem_cons, List.not_mem_nil, or_false] at m
    exact m.elim h1 h2
def spTextOf (K : PySem.W.Frag) : Sp := fun vs H Q _ => ∃ (b o r : Addr) (ss as : List Addr) (bs : List Rw) (os : List Str) (rs : List Rwd), vs = [.ref b, .ref o, .ref r] ∧ BookAt K A.Book A.Signature H b ss (newR :: copyR :: bs) ∧ (∀ b ∈ bs, good b ∧ b.1 ≠ "new" ∧ b.1 ≠ "copy") ∧ bs.length ≤ 12 ∧ H o = some (.tup (os.map V.str)) ∧ (∀ o ∈ os, okS o = true) ∧ os.length ≤ 16 ∧ H r = some (.tup (as.map V.ref)) ∧ Al2 (RwAt A.Row A.Expression H) as rs ∧ (∀ r ∈ rs, WfRw r) ∧ rs.length ≤ 48 ∧ ∀ H', Ex H H' → Q (.str (pT bs os rs)) H'
theorem ok_text_of (T : Tx0 w K mg A) : FnOk P w K mg base CX0 13 A.text_of A.d_text_of p_text_of (spTextOf (A := A) K) := by
  refine T.F_text_of.ok sc_text_of (fun vs H Q E h => ?_) (fun cdv Ar outer s H vs Q E hr h => ?_)
  · obtain ⟨b, o, r, ss, as, bs, os, rs, rfl, _⟩ := h
    rfl
  · obtain ⟨b, o, r, ss, as, bs, os, rs, rfl, hB, hbs, l10, ho, hos, l16, hr', hal, hwf, l48, q⟩ := h
    refine ⟨_, (pss_cons (UL.ps_setLcE (i := 3) (own := [("signature", 4)]) (g := gName 4) rfl rfl rfl sc_text_of.nd rfl rfl (sw_true rfl rfl rfl (by decide +kernel)) (UL.pi_ownT (EI := E0) T.e_book_iter.at_ T.e_book_iter.fn (ok_book_iter T) T.b_book_iter (hr.mono (by decide)) (pv 0)) (blkOk_by (N := n_text_of) (sc := defScope s_text_of) (by decide +kernel)) (fun _ _ _ _ _ => pg_name (i := 4) sc_text_of.nd rfl (Or.inl rfl)) (fun _ _ _ _ _ => pts_one (pt_cmpR (show OpR _ _ (rIn K true) from op_notIn_seq) (show PE _ _ (tFld K _ _) from (pe_fld (pv 4) rfl)) (pe_tup (pa_cons pe_str (pa_cons pe_str pa_nil))) (by rfl))) (fun _ _ _ _ _ _ hx => (pe_meth0 (pv 4) T.cl_Signature T.e_sig_text (ok_sig_text T) (hr.mono (by decide)) T.b_sig_text .nil pass0)))
      (Evl.pss_cut (ps_if (pt_truth (pv 1) (fun _ => rfl)) (pss_one (ps_expr (pe_bm PySem.F.plainAttrs_list PySem.F.slot_list_append PySem.F.type_list_append mt_append (pv 3) (pa_cons (pe_bm PySem.F.plainAttrs_str PySem.F.slot_str_join PySem.F.type_str_join mt_join pe_str (pa_cons (pe_lst (pa_cons pe_str (pa_star (pv 1) pa_nil))) pa_nil)) pa_nil)))) pss_nil)
      (pss_cons (ps_expr (pe_bm PySem.F.plainAttrs_list PySem.F.slot_list_extend PySem.F.type_list_extend mt_extend (pv 3) (pa_cons (pe_lc (own := [("row", 5)]) (g := gName 5) (tt := tYes) rfl sc_text_of.nd (pi_tup (pv 2)) (blkOk_by (N := n_text_of) (sc := defScope s_text_of) (by decide +kernel)) (fun _ _ _ _ _ => pg_name (i := 5) sc_text_of.nd rfl (Or.inl rfl)) (fun _ _ _ _ _ => pts_nil) (fun _ _ _ _ _ => (pe_meth0 (pv 5) T.cl_Row T.e_row_text (ok_row_text T) (hr.mono (by decide)) T.b_row_text .nil pass0))) pa_nil)))
      (pss_one (ps_ret (pe_bm PySem.F.plainAttrs_str PySem.F.slot_str_join PySem.F.type_str_join mt_join pe_str (pa_cons (pv 3) pa_nil))))))), ?_⟩
    obtain ⟨bdx, g, e, bb, b1, b2, b3, b4⟩ := hB.ex
    have hss := hB.sg
    have lss : ss.length = bs.length + 2 := hss.len
    have las : as.length = rs.length := hal.len
    refine ⟨_, rfl, b, bdx, _, rfl, b1, b, bdx, g, e, bb, _, rfl, b1, b3, fun it hit => ⟨it, e, ss.map V.ref, rfl, upd_same, SqT.of (Ex.new hit _ _ b3), ne_of_none b3 hit, fun D hD => ?_⟩⟩
    have lz : (ss.map V.ref).length = bs.length + 2 := by rw [List.length_map, lss]
    rw [lz] at hD ⊢
    rw [upd_upd] at hD ⊢
    have nDi : D ≠ it := fun z => by rw [z, upd_same] at hD; cases hD
    have eI := Ex.new (o := UL.ItTO e it 0 (bs.length + 2)) hit
    have hDn : H D = none := eI.free' hD
    refine UL.lc_at (J := UL.ItO K e it (ss.map V.ref)) (n := bs.length + 2) (fun i H' => H' it = some (UL.ItTO e it i (bs.length + 2)) ∧ SqT K H' e (ss.map V.ref)) (fun i H' lt z => ?_) (fun H' z => ?_) (fun i H' => Ex H H' ∧ H' it = some (UL.ItTO e it i (bs.length + 2)) ∧ H' D = some (.lst (((bs.take (i - 2)).map sgT).map V.str))) ⟨eI.trans (Ex.new hD), by rw [upd_ne nDi.symm]; exact upd_same, upd_same⟩ (fun i H' _ z => ⟨z.2.1, SqT.of (z.1 _ _ b3)⟩) ?_ ?_
    · exact ⟨by rw [lz]; exact z.1, z.2, by rw [lz]; exact lt⟩
    · exact ⟨by rw [lz]; exact z.1, z.2, lz.symm⟩
    · rintro i x Hc H' hi ⟨e5, hit5, hD5⟩ ⟨hx, rfl⟩
      rw [List.getElem?_map] at hx
      obtain ⟨s, hs, rfl⟩ := Option.map_eq_some_iff.mp hx
      obtain ⟨r', hr2, hsr⟩ := hss.at' hs
      obtain ⟨dx', t', h1, ht'⟩ := id hsr
      rw [lz]
      have e6 : Ex H (upd Hc it (UL.ItTO e it (i + 1) (bs.length + 2))) := e5.mut hit
      have hD6 : upd Hc it (UL.ItTO e it (i + 1) (bs.length + 2)) D = some (.lst (((bs.take (i - 2)).map sgT).map V.str)) := by rw [upd_ne nDi]; exact hD5
      have hit6 : upd Hc it (UL.ItTO e it (i + 1) (bs.length + 2)) it = some (UL.ItTO e it (i + 1) (bs.length + 2)) := upd_same
      generalize upd Hc it (UL.ItTO e it (i + 1) (bs.length + 2)) = H6 at e6 hD6 hit6 ⊢
      refine ⟨rfl, _, rfl, s, _, dx', _, _, rfl, e6 _ _ h1, T.cl_Signature, T.na_Signature_name, f_name _ _ _, sz_of (by show 2 ≤ 100000; decide), fun t ht => ⟨t, _, rfl, .inr (SqT.of upd_same), rfl, rfl, _, rfl, ?_⟩⟩
      have et := Ex.new (o := .tup [.str "new", .str "copy"]) ht
      have e7 := e6.trans et
      have hD7 := et _ _ hD6
      have hit7 := et _ _ hit6
      generalize upd H6 t (.tup [.str "new", .str "copy"]) = H7 at e7 hD7 hit7 ⊢
      by_cases hown : r' = newR ∨ r' = copyR
      · refine ite2 (fun z => absurd z (by rw [if_pos rfl, in_own r' hown]; decide)) (fun _ => ?_)
        have hi2 : i < 2 := by
          have nd := hB.nd
          by_cases h : i < 2
          · exact h
          · exfalso
            obtain ⟨j, rfl⟩ : ∃ j, i = j + 2 := ⟨i - 2, by omega⟩
            have hm : r' ∈ bs := List.mem_of_getElem? (show bs[j]? = some r' from hr2)
            rcases hown with rfl | rfl
            · exact (hbs _ hm).2.1 rfl
            · exact (hbs _ hm).2.2 rfl
        have hz : bs.take (i + 1 - 2) = bs.take (i - 2) := by rw [show i + 1 - 2 = 0 by omega, show i - 2 = 0 by omega]
        rw [hz]
        exact ⟨e7, hit7, hD7⟩
      · have hj : ∃ j, i = j + 2 ∧ bs[j]? = some r' := by
          match i, hr2 with
          | 0, h => exact absurd (.inl (Option.some.inj h).symm) hown
          | 1, h => exact absurd (.inr (Option.some.inj h).symm) hown
          | j + 2, h => exact ⟨j, rfl, h⟩
        obtain ⟨j, rfl, hbj⟩ := hj
        have hg := hbs _ (List.mem_of_getElem? hbj)
        have hz : bs.take (j + 2 + 1 - 2) = bs.take (j + 2 - 2) ++ [r'] := by
          rw [show j + 2 + 1 - 2 = j + 1 by omega, show j + 2 - 2 = j by omega, List.take_add_one, hbj]; rfl
        have hin := in_own2 hg.2.1 hg.2.2
        refine ite2 (fun _ => ?_) (fun z => absurd (by rw [if_pos rfl, hin]; rfl) z)
        have hn := hg.1.2.1
        have h17 := e7 _ _ h1
        refine ⟨_, rfl, s, dx', _, rfl, h17, rfl, s, r'.1, r'.2.1, r'.2.2, rfl, hsr.mono e7, by have := okS_len hg.1.1; omega, by omega, by omega, good_num hg.1, by have := asc_len hn.2 _ hg.1.2.2; omega, fun H8 e8 => ?_⟩
        refine ⟨_, e8 _ _ hD7, sz_lt (by rw [List.length_map, List.length_map, List.length_take]; omega), (e7.trans e8).mut hDn, by rw [upd_ne nDi.symm]; exact e8 _ _ hit7, ?_⟩
        rw [upd_same, hz, List.map_append, List.map_append]
        rfl
    rintro H5 ⟨e5, hit5, hD5⟩
    rw [show bs.length + 2 - 2 = bs.length by omega, List.take_length] at hD5
    refine ⟨fun σ' H' => σ' = [some (.ref b), some (.ref o), some (.ref r), some (.ref D), none, none] ∧ Ex H H' ∧ H' D = some (.lst ((bs.map sgT ++ (if os = [] then [] else [outT os])).map V.str)), ?_, ?_⟩
    · by_cases hos0 : os = []
      · subst hos0
        refine ⟨_, rfl, false, .inr (.inl ⟨_, SqT.of (e5 _ _ ho), rfl⟩), iteF ⟨rfl, e5, ?_⟩⟩
        rw [if_pos rfl, List.append_nil]
        exact hD5
      · obtain ⟨o1, or, rfl⟩ : ∃ a r, os = a :: r := by
          cases os with
          | nil => exact absurd rfl hos0
          | cons a r => exact ⟨a, r, rfl⟩
        rw [if_neg hos0]
        refine ⟨_, rfl, true, .inr (.inl ⟨_, SqT.of (e5 _ _ ho), rfl⟩), iteT ?_⟩
        refine ⟨_, rfl, .inl ⟨rfl, _, SqL.of hD5⟩, rfl, _, rfl, o, _, rfl, .inl (SqT.of (e5 _ _ ho)), ?_⟩
        have l17 : ((o1 :: or).map V.str).length ≤ 16 := by rw [List.length_map]; exact l16
        refine ⟨sz_of (by rw [List.append_nil]; show ((o1 :: or).map V.str).length + 1 ≤ 100000; omega), fun p hp => ?_⟩
        have ep := Ex.new (o := .lst (.str "out" :: ((o1 :: or).map V.str ++ []))) hp
        have hp1 : upd H5 p (.lst (.str "out" :: ((o1 :: or).map V.str ++ []))) p = some (.lst ((("out" : Str) :: o1 :: or).map V.str)) := by rw [upd_same, List.append_nil]; rfl
        have hD6 := ep _ _ hD5
        have e6 := e5.trans ep
        generalize upd H5 p (.lst (.str "out" :: ((o1 :: or).map V.str ++ []))) = H6 at hp1 hD6 e6 ⊢
        refine ⟨" ", p, ("out" : Str) :: o1 :: or, rfl, rfl, .inl (SqL.of hp1), ?_, D, _, _, rfl, rfl, hD6, sz_lt (by rw [List.length_map, List.length_map]; omega), rfl, e6.mut hDn, ?_⟩
        · have := sum_le0 (("out" : Str) :: o1 :: or) 8 fun w hw => by
            rcases List.mem_cons.mp hw with rfl | hw
            · decide +kernel
            · exact okS_len (hos w hw)
          have h1 : (" " : Str).length = 1 := by decide +kernel
          have h2 : (("out" : Str) :: o1 :: or).length ≤ 17 := by rw [List.length_cons]; omega
          rw [h1]
          omega
        · rw [upd_same, List.map_append (l₁ := bs.map sgT)]
          rfl
    rintro σ6 H6 ⟨rfl, e6, hD6⟩
    clear hit5 hD5 e5 H5
    refine ⟨_, rfl, .inl ⟨rfl, _, SqL.of hD6⟩, _, rfl, r, rfl, ⟨_, SqT.of (e6 _ _ hr')⟩, fun D2 hD2 => ?_⟩
    refine lc_it (walk_tup (xs := as.map V.ref)) (fun i H' => Ex H6 H' ∧ H' D2 = some (.lst (((rs.take i).map rT).map V.str))) ⟨Ex.new hD2, upd_same⟩ (fun i H' _ z => SqT.of (z.1 _ _ (e6 _ _ hr'))) ?_ ?_
    · rintro i y Hc H' hi ⟨e7, hD7⟩ ⟨e0, hy⟩
      subst e0
      rw [List.getElem?_map] at hy
      obtain ⟨a, ha, rfl⟩ := Option.map_eq_some_iff.mp hy
      obtain ⟨rd, hk, hrw⟩ := hal.get i a ha
      have hrw7 := RwAt.mono (e6.trans e7) hrw
      obtain ⟨rdx, rv, hra, _⟩ := id hrw7
      have htk : rs.take (i + 1) = rs.take i ++ [rd] := by rw [List.take_add_one, hk]; rfl
      refine ⟨rfl, _, rfl, a, rdx, _, rfl, hra, rfl, a, rd, rfl, hrw7, hwf rd (List.mem_of_getElem? hk), fun H8 e8 => ⟨_, e8 _ _ hD7, sz_lt (by rw [List.length_map, List.length_map, List.length_take]; omega), (e7.trans e8).mut hD2, ?_⟩⟩
      rw [upd_same, htk, List.map_append, List.map_append]
      rfl
    rintro H7 ⟨e7, hD7⟩
    rw [List.length_map, las, List.take_length] at hD7
    have hD6' := e7 _ _ hD6
    have nDD : D ≠ D2 := ne_of_none hD6 hD2
    have lO : (if os = [] then ([] : List Str) else [outT os]).length ≤ 1 := by
      split
      · exact Nat.zero_le 1
      · exact Nat.le_refl 1
    refine ⟨D, D2, _, _, rfl, rfl, hD6', hD7, sz_of (by rw [List.length_map, List.length_map, List.length_map, List.length_append, List.length_map]; show bs.length + (if os = [] then ([] : List Str) else [outT os]).length + rs.length ≤ 100000; omega), ?_⟩
    have eqL : (bs.map sgT ++ (if os = [] then ([] : List Str) else [outT os])).map V.str ++ (rs.map rT).map V.str = (prL bs os rs).map V.str := by
      unfold prL
      rw [← List.map_append, List.append_assoc]
    rw [eqL]
    have hD8 : upd H7 D (.lst ((prL bs os rs).map V.str)) D = some (.lst ((prL bs os rs).map V.str)) := upd_same
    have e8 : Ex H (upd H7 D (.lst ((prL bs os rs).map V.str))) := (e6.trans e7).mut hDn
    generalize upd H7 D (.lst ((prL bs os rs).map V.str)) = H8 at hD8 e8 ⊢
    refine ⟨rfl, _, rfl, "\n", D, prL bs os rs, rfl, rfl, .inl (SqL.of hD8), ?_, q H8 e8⟩
    have h7 : ("\n" : Str).length = 1 := by decide +kernel
    have hlen : (prL bs os rs).length ≤ 61 := by
      unfold prL
      rw [List.length_append, List.length_append, List.length_map, List.length_map]
      omega
    have := sum_le0 (prL bs os rs) 300 fun w hw => by
      unfold prL at hw
      rcases List.mem_append.mp hw with hw | hw
      · obtain ⟨b, hb, rfl⟩ := List.mem_map.mp hw
        have := (sg_facts (hbs b hb).1).2.1
        omega
      · rcases List.mem_append.mp hw with hw | hw
        · split at hw
          · cases hw
          · rename_i hne
            rw [List.mem_singleton.mp hw]
            have := (out_facts hos hne (Nat.le_trans l16 (by decide))).2.1
            omega
        · obtain ⟨r, hr, rfl⟩ := List.mem_map.mp hw
          exact rT_len (hwf r hr)
    rw [h7]
    omega
end
end K24

set_option Elab.async false
set_option linter.all false
set_option maxRecDepth 100000
namespace K24
open PySem PySem.Spec PyProof.Rows L2 Evl TL UL StX
section
variable {P : Program} {w : World} {K : PySem.W.Frag} {mg : Str → Option Value} {base : Heap} {A : Adr}
/-! ### reading the lines -/
theorem ws_int : ∀ n : Int, 0 ≤ n → n ≤ 4 → strI n ∈ numS ∧ valS (strI n) = n := by
  intro n h0 h4
  have : n = 0 ∨ n = 1 ∨ n = 2 ∨ n = 3 ∨ n = 4 := by omega
  rcases this with rfl | rfl | rfl | rfl | rfl <;> exact ⟨by decide +kernel, by decide +kernel⟩
theorem sg_rd {b : Rw} (h : good b) : rdP (Txt.split (sgT b) " ") = some (b.1, b.2.1, b.2.2) := by
  have hn := h.2.1
  have hns : ∀ m ∈ b.2.2, 0 ≤ m ∧ m ≤ 4 := fun m hm => by have := h.2.2.2 m hm; omega
  have hv : (b.2.2.map strI).map valS = b.2.2 := by
    rw [List.map_map]
    conv => rhs; rw [← List.map_id b.2.2]
    exact List.map_congr_left fun m hm => (ws_int m (hns m hm).1 (hns m hm).2).2
  have hn2 := ws_int b.2.1 hn.1 hn.2
  rw [(sg_facts h).2.2.2.2]
  have := rdP_yes (w0 := "fun") (w1 := b.1) (w2 := strI b.2.1) (r := b.2.2.map strI) ⟨rfl, fun w hw => ?_, ?_⟩
  · rw [hv, hn2.2] at this
    exact this
  · rcases List.mem_cons.mp hw with rfl | hw
    · exact hn2.1
    · obtain ⟨m, hm, rfl⟩ := List.mem_map.mp hw
      exact (ws_int m (hns m hm).1 (hns m hm).2).1
  · rw [hv, hn2.2]
    exact sigOk_asc h.1 hn.1 hn.2 h.2.2
def spReadSig (K : PySem.W.Frag) (C : Addr) : Sp := fun vs H Q _ => ∃ b j, vs = [.str (sgT b), .int j] ∧ good b ∧ ∀ a H', Ex H H' → SigR K C H' a b → Q (.ref a) H'
theorem ok_read_signature (T : Tx0 w K mg A) : FnOk P w K mg base CX0 9 A.read_signature A.d_read_signature p_read_signature (spReadSig K A.Signature) := by
  refine T.F_read_signature.ok sc_read_signature (fun vs H Q E h => ?_) (fun cdv Ar outer s H vs Q E hr h => ?_)
  · obtain ⟨b, j, rfl, _⟩ := h
    rfl
  · obtain ⟨b, j, rfl, hg, q⟩ := h
    refine ⟨_, (pss_one (ps_try_thru0 (pss_one (ps_ret (UL.pe_smS (E := fun _ => E0) (pe_glob (v := .ref A.Signature) (by rfl) T.g_Signature rfl) T.sm_sig_read (ok_sig_read T) (hr.mono (by decide)) T.b_sig_read (fun σ pins H s e s' I c => pass0 pins σ H s e s' I c) (pa_cons (pv 0) pa_nil)))))), ?_⟩
    have hl := (sg_facts hg).2.1
    exact ⟨rfl, _, rfl, sgT b, b.1, b.2.1, b.2.2, rfl, by omega, sg_rd hg, q⟩
def spReadOuts : Sp := fun vs H Q _ => ∃ os j, vs = [.str (outT os), .int j] ∧ os ≠ [] ∧ (∀ o ∈ os, okS o = true) ∧ os.length ≤ 18 ∧ ∀ a H', H a = none → Ex H H' → H' a = some (.lst (os.map V.str)) → Q (.ref a) H'
theorem ok_read_outs (T : Tx0 w K mg A) : FnOk P w K mg base CX0 4 A.read_outs A.d_read_outs p_read_outs spReadOuts := by
  refine T.F_read_outs.ok sc_read_outs (fun vs H Q E h => ?_) (fun cdv Ar outer s H vs Q E hr h => ?_)
  · obtain ⟨os, j, rfl, _⟩ := h
    rfl
  · obtain ⟨os, j, rfl, hne, hos, l16, q⟩ := h
    refine ⟨_, (pss_cons (ps_set (i := 2) sc_read_outs.nd rfl (Or.inl rfl) (pe_slice sl_list (pe_bm PySem.F.plainAttrs_str PySem.F.slot_str_split PySem.F.type_str_split mt_split (pv 0) (pa_cons pe_str pa_nil)) (po_some pe_int) po_none))
      (pss_cons (ps_if (pt_not (pt_val (pe_callB (cr_all rfl) (by rfl) T.m_all (by decide +kernel) (pa_cons (pe_lc (own := [("name", 3)]) (g := gName 3) (tt := tYes) rfl sc_read_outs.nd (pi_list (pv 2)) (blkOk_by (N := n_read_outs) (sc := defScope s_read_outs) (by decide +kernel)) (fun _ _ _ _ _ => pg_name (i := 3) sc_read_outs.nd rfl (Or.inl rfl)) (fun _ _ _ _ _ => pts_nil) (fun _ _ _ _ _ => (pe_call (ok_is_name T) (hr.mono (by decide)) (by rfl) T.g_is_name T.F_is_name.kp T.b_is_name .nil pass0 (pa_cons (pv 3) pa_nil)))) pa_nil)))) (pss_one ps_never) pss_nil)
      (pss_one (ps_ret (pv 2))))), ?_⟩
    obtain ⟨_, hl, _, _, _, hsp⟩ := out_facts hos hne l16
    refine ⟨_, rfl, rfl, _, _, rfl, rfl, by decide, sz_of (by omega), fun p hp => ?_⟩
    rw [hsp]
    have e1 := Ex.new (o := .lst ((("out" : Str) :: os).map V.str)) hp
    have hp1 : upd H p (.lst ((("out" : Str) :: os).map V.str)) p = some (.lst ((("out" : Str) :: os).map V.str)) := upd_same
    generalize upd H p (.lst ((("out" : Str) :: os).map V.str)) = H1 at e1 hp1 ⊢
    refine ⟨1, rfl, p, _, rfl, SqL.of hp1, fun a ha => ?_⟩
    have hcut : cutV ((("out" : Str) :: os).map V.str) (some 1) none = os.map V.str := by
      rw [show (some 1 : Option Int) = some ((1 : Nat) : Int) from rfl, cut_from]
      rfl
    rw [hcut]
    have e2 := Ex.new (o := .lst (os.map V.str)) ha
    have ha2 : upd H1 a (.lst (os.map V.str)) a = some (.lst (os.map V.str)) := upd_same
    have han := e1.free' ha
    generalize upd H1 a (.lst (os.map V.str)) = H2 at e2 ha2 ⊢
    refine ⟨_, rfl, a, rfl, ⟨_, SqL.of ha2⟩, fun D hD => ?_⟩
    refine lc_list (xs := os.map V.str) (fun i H' => Ex H2 H' ∧ H' D = some (.lst ((List.replicate i true).map V.bl))) ⟨Ex.new hD, upd_same⟩ (fun i H' _ h => SqL.of (h.1 _ _ ha2)) ?_ ?_
    · rintro i x H3 hx ⟨e3, h3⟩
      rw [List.getElem?_map] at hx
      obtain ⟨w, hw, rfl⟩ := Option.map_eq_some_iff.mp hx
      have hi := (List.getElem?_eq_some_iff.mp hw).1
      have hok := hos w (List.mem_of_getElem? hw)
      refine ⟨rfl, _, rfl, .str w, rfl, .inl ⟨_, rfl, Nat.le_trans (okS_len hok) (by decide)⟩, fun H4 e4 => ?_⟩
      rw [show nm (.str w) = true from hok]
      refine ⟨_, e4 _ _ h3, sz_lt (by rw [List.length_map, List.length_replicate]; omega), (e3.trans e4).mut hD, ?_⟩
      rw [upd_same, List.replicate_succ', List.map_append]
      rfl
    rintro H3 ⟨e3, h3⟩
    rw [List.length_map] at h3
    refine ⟨D, List.replicate os.length true, rfl, SqL.of h3, ?_⟩
    have hall : (List.replicate os.length true).all id = true := by
      rw [List.all_eq_true]
      intro x hx
      rw [(List.mem_replicate.mp hx).2]
      rfl
    rw [hall]
    exact ⟨true, rfl, iteF ⟨_, rfl, q a H3 han ((e1.trans e2).trans e3) (e3 _ _ ha2)⟩⟩
def spReadRow (R C : Addr) : Sp := fun vs H Q _ => ∃ r j, vs = [.str (rT r), .int j] ∧ WfRw r ∧ ∀ a H', H a = none → Ex H H' → RwAt R C H' a r → Q (.ref a) H'
theorem ok_read_row (T : Tx0 w K mg A) : FnOk P w K mg base CX0 10 A.read_row A.d_read_row p_read_row (spReadRow A.Row A.Expression) := by
  refine T.F_read_row.ok sc_read_row (fun vs H Q E h => ?_) (fun cdv Ar outer s H vs Q E hr h => ?_)
  · obtain ⟨r, j, rfl, _⟩ := h
    rfl
  · obtain ⟨r, j, rfl, wf, q⟩ := h
    refine ⟨_, (pss_one (ps_try_thru0 (pss_one (ps_ret (UL.pe_smS (E := fun _ => E0) (pe_glob (v := .ref A.Row) (by rfl) T.g_Row rfl) T.sm_row_read (ok_row_read T) (hr.mono (by decide)) T.b_row_read (fun σ pins H s e s' I c => pass0 pins σ H s e s' I c) (pa_cons (pv 0) pa_nil)))))), ?_⟩
    exact ⟨rfl, _, rfl, r, rfl, wf, q⟩
theorem nd_put {H : Hp} {r a : Addr} {xs ys : List V} {nd : Nd} (hr : H r = some (.lst xs)) (h : NdAt H a nd) : NdAt (upd H r (.lst ys)) a nd := by
  have ne : ∀ {b : Addr} {zs : List V}, H b = some (.tup zs) → upd H r (.lst ys) b = some (.tup zs) := fun {b zs} hb => by
    rw [upd_ne (fun e => by rw [e, hr] at hb; cases hb)]
    exact hb
  cases nd with
  | name w => exact ne (show H a = _ from h)
  | op w os => exact ne (show H a = _ from h)
  | call w os =>
    obtain ⟨t, h1, h2⟩ := h
    exact ⟨t, ne h1, ne h2⟩
theorem ex_put {C : Addr} {H : Hp} {x r : Addr} {as : List Addr} {ys : List V} {ns : List Nd} (hne : ns ≠ []) (hr : H r = some (.lst (as.map V.ref))) (h : ExAt C H x ns) : ExAt C (upd H r (.lst ys)) x ns := by
  obtain ⟨dx, t, f, bs, h1, h2, h3, h4⟩ := h
  have n1 : x ≠ r := fun e => by rw [e, hr] at h1; cases h1
  have n2 : t ≠ r := fun e => by rw [e, hr] at h2; cases h2
  have n4 : f ≠ r := fun e => by
    rw [e, hr] at h4
    have hl := congrArg List.length (HO.lst.inj (Option.some.inj h4))
    rw [ni_len, firstsL_len, List.length_map] at hl
    cases as with
    | nil => exact hne (List.length_eq_zero_iff.mp hl.symm)
    | cons a l =>
      obtain ⟨f0, fr, hf⟩ : ∃ f0 fr, firstsL ns = f0 :: fr := by
        cases e : firstsL ns with
        | nil => rw [e] at h4; cases h4
        | cons a b => exact ⟨a, b, rfl⟩
      rw [hf] at h4
      cases h4
  exact ⟨dx, t, f, bs, by rw [upd_ne n1]; exact h1, by rw [upd_ne n2]; exact h2, h3.imp fun _ _ z => nd_put hr z, by rw [upd_ne n4]; exact h4⟩
theorem RwAt.put {R C : Addr} {H : Hp} {a r : Addr} {rd : Rwd} {as : List Addr} {ys : List V} (wf : WfRw rd) (hr : H r = some (.lst (as.map V.ref))) (h : RwAt R C H a rd) : RwAt R C (upd H r (.lst ys)) a rd := by
  obtain ⟨dx, v, h1, h2⟩ := h
  refine ⟨dx, v, by rw [upd_ne (fun e => by rw [e, hr] at h1; cases h1)]; exact h1, ?_⟩
  unfold ExpV at h2 ⊢
  split
  · rename_i hX
    rw [if_pos hX] at h2
    obtain ⟨x, rfl, hx⟩ := h2
    exact ⟨x, rfl, ex_put (wf.x hX).ne hr hx⟩
  · rename_i hX
    rw [if_neg hX] at h2
    exact h2
/-- a list is written: signatures stay -/
theorem SigR.putL {K : PySem.W.Frag} {C a l : Addr} {H : Hp} {b : Rw} {xs ys : List V} (hl : H l = some (.lst xs)) (h : SigR K C H a b) : SigR K C (upd H l (.lst ys)) a b := by
  obtain ⟨dx, t, h1, h2⟩ := h
  refine ⟨dx, t, by rw [upd_ne (fun e => by rw [e, hl] at h1; cases h1)]; exact h1, ?_⟩
  have kp : ∀ {x : Addr} {o : HO}, H x = some o → (∀ ys, o ≠ .lst ys) → upd H l (.lst ys) x = some o := fun {x o} hx no => by
    rw [upd_ne (fun e => by rw [e, hl] at hx; exact no _ (Option.some.inj hx).symm)]
    exact hx
  rcases h2 with (h2 | ⟨o, h2⟩) | h2
  · exact .inl (.inl (kp h2 (fun _ e => by cases e)))
  · exact .inl (.inr ⟨o, kp h2 (fun _ e => by cases e)⟩)
  · exact .inr h2
theorem pT_ne {bs : List Rw} {os : List Str} {rs : List Rwd} (hb : ∀ b ∈ bs, good b) (ho : ∀ o ∈ os, okS o = true) (l16 : os.length ≤ 18) (hw : ∀ r ∈ rs, WfRw r) (h : prL bs os rs ≠ []) : pT bs os rs ≠ "" := by
  have hne : ∀ w ∈ prL bs os rs, tl w ≠ [] := fun w hw' => by
    unfold prL at hw'
    rcases List.mem_append.mp hw' with m | m
    · obtain ⟨b, hbm, rfl⟩ := List.mem_map.mp m
      exact (sg_facts (hb b hbm)).2.2.2.1
    · rcases List.mem_append.mp m with m | m
      · split at m
        · cases m
        · rename_i hne
          rw [List.mem_singleton.mp m]
          exact (out_facts ho hne l16).2.2.2.2.1
      · obtain ⟨r, hr, rfl⟩ := List.mem_map.mp m
        exact rT_ne (hw r hr)
  intro e
  have e := congrArg tl e
  rw [show tl ("" : Str) = [] by decide +kernel] at e
  unfold pT at e
  revert e hne h
  cases prL bs os rs with
  | nil => exact fun h => absurd rfl h
  | cons a r =>
    intro _ hne e
    have ha := hne a List.mem_cons_self
    cases r with
    | nil => rw [join_one] at e; exact ha e
    | cons b t =>
      rw [join_cons _ _ _ (by simp)] at e
      exact ha (List.append_eq_nil_iff.mp e).1
theorem al2_memW {α β : Type} {R S : α → β → Prop} {as : List α} {bs : List β} (h : Al2 R as bs) (k : ∀ a b, b ∈ bs → R a b → S a b) : Al2 S as bs := by
  induction h with
  | nil => exact .nil
  | cons h1 _ ih => exact .cons (k _ _ List.mem_cons_self h1) (ih fun a b m z => k a b (List.mem_cons_of_mem _ m) z)
def oN (os : List Str) : Nat := if os = [] then 0 else 1
theorem prL_at {bs : List Rw} {os : List Str} {rs : List Rwd} {i : Nat} {w : Str} (h : (prL bs os rs)[i]? = some w) : (∃ b, bs[i]? = some b ∧ w = sgT b) ∨ (i = bs.length ∧ os ≠ [] ∧ w = outT os) ∨ (∃ r j, i = bs.length + oN os + j ∧ rs[j]? = some r ∧ w = rT r) := by
  unfold prL at h
  by_cases h1 : i < bs.length
  · rw [List.getElem?_append_left (by rw [List.length_map]; exact h1), List.getElem?_map] at h
    obtain ⟨b, hb, rfl⟩ := Option.map_eq_some_iff.mp h
    exact .inl ⟨b, hb, rfl⟩
  · rw [List.getElem?_append_right (by rw [List.length_map]; omega), List.length_map] at h
    unfold oN
    by_cases ho : os = []
    · rw [if_pos ho, List.nil_append, List.getElem?_map] at h
      obtain ⟨r, hr, rfl⟩ := Option.map_eq_some_iff.mp h
      exact .inr (.inr ⟨r, i - bs.length, by rw [if_pos ho]; omega, hr, rfl⟩)
    · rw [if_neg ho] at h
      by_cases h2 : i = bs.length
      · rw [h2, Nat.sub_self] at h
        exact .inr (.inl ⟨h2, ho, (Option.some.inj h).symm⟩)
      · obtain ⟨j, hj⟩ : ∃ j, i - bs.length = j + 1 := ⟨i - bs.length - 1, by omega⟩
        rw [hj] at h
        have h : (rs.map rT)[j]? = some w := h
        rw [List.getElem?_map] at h
        obtain ⟨r, hr, rfl⟩ := Option.map_eq_some_iff.mp h
        exact .inr (.inr ⟨r, j, by rw [if_neg ho]; omega, hr, rfl⟩)
def spReadLines (K : PySem.W.Frag) (S R C : Addr) : Sp := fun vs H Q _ => ∃ (bs : List Rw) (os : List Str) (rs : List Rwd), vs = [.str (pT bs os rs)] ∧ (∀ b ∈ bs, good b) ∧ bs.length ≤ 12 ∧ (∀ o ∈ os, okS o = true) ∧ os.length ≤ 18 ∧ (∀ r ∈ rs, WfRw r) ∧ rs.length ≤ 63 ∧ ∀ (p s o r : Addr) (ss as : List Addr) H', Ex H H' → H' p = some (.tup [.ref s, .ref o, .ref r]) → H' s = some (.lst (ss.map V.ref)) → Al2 (SigR K S H') ss bs → H' o = some (.lst (os.map V.str)) → H' r = some (.lst (as.map V.ref)) → Al2 (RwAt R C H') as rs → Q (.ref p) H'
theorem ok_read_lines (T : Tx0 w K mg A) : FnOk P w K mg base CX0 11 A.read_lines A.d_read_lines p_read_lines (spReadLines K A.Signature A.Row A.Expression) := by
  refine T.F_read_lines.ok sc_read_lines (fun vs H Q E h => ?_) (fun cdv Ar outer s H vs Q E hr h => ?_)
  · obtain ⟨bs, os, rs, rfl, _⟩ := h
    rfl
  · obtain ⟨bs, os, rs, rfl, hbs, l10, hos, l16, hwf, l48, q⟩ := h
    refine ⟨_, (pss_cons (ps_set (i := 1) sc_read_lines.nd rfl (Or.inl rfl) (pe_lst pa_nil))
      (pss_cons (ps_set (i := 2) sc_read_lines.nd rfl (Or.inl rfl) (pe_lst pa_nil))
      (pss_cons (ps_set (i := 3) sc_read_lines.nd rfl (Or.inl rfl) (pe_lst pa_nil))
      (Evl.pss_cut (ps_set (i := 4) sc_read_lines.nd rfl (Or.inl rfl) (pe_ifExp (pt_cmpR op_ne (pv 0) pe_str (nomark _)) (pe_bm PySem.F.plainAttrs_str PySem.F.slot_str_split PySem.F.type_str_split mt_split (pv 0) (pa_cons pe_str pa_nil)) (pe_lst pa_nil)))
      (pss_cons (ps_for PassesOwn.never rfl (UL.pi_enumK (by rfl) T.m_enumerate (pa_cons (pv 4) pa_nil) (pk_cons pe_int pk_nil)) (pg_tup (n := 2) rfl (pgs_cons (pg_name (i := 5) sc_read_lines.nd rfl (Or.inl rfl)) (pgs_cons (pg_name (i := 6) sc_read_lines.nd rfl (Or.inl rfl)) pgs_nil))) (pss_cons (ps_set (i := 7) sc_read_lines.nd rfl (Or.inl rfl) (pe_or (pe_bm PySem.F.plainAttrs_str PySem.F.slot_str_startswith PySem.F.type_str_startswith mt_startswith (pv 6) (pa_cons pe_str pa_nil)) (pe_one (pe_bm PySem.F.plainAttrs_str PySem.F.slot_str_startswith PySem.F.type_str_startswith mt_startswith (pv 6) (pa_cons pe_str pa_nil)))))
        (pss_cons (ps_if (PW.pt (pw_and (pt_val (pv 7)) (pw_and1 (PW.pt (pw_or (pt_truth (pv 2) (fun _ => rfl)) (pw_or1 (pt_truth (pv 3) (fun _ => rfl)))))))) (pss_one ps_never) pss_nil)
        (pss_one (ps_if (pt_not (pt_val (pv 7))) (pss_one (ps_expr (pe_bm PySem.F.plainAttrs_list PySem.F.slot_list_append PySem.F.type_list_append mt_append (pv 3) (pa_cons (pe_call (ok_read_row T) (hr.mono (by decide)) (by rfl) T.g_read_row T.F_read_row.kp T.b_read_row .nil pass0 (pa_cons (pv 6) (pa_cons (pv 5) pa_nil))) pa_nil)))) (pss_one (ps_if (pt_val (pe_bm PySem.F.plainAttrs_str PySem.F.slot_str_startswith PySem.F.type_str_startswith mt_startswith (pv 6) (pa_cons pe_str pa_nil))) (pss_one (ps_expr (pe_bm PySem.F.plainAttrs_list PySem.F.slot_list_append PySem.F.type_list_append mt_append (pv 1) (pa_cons (pe_call (ok_read_signature T) (hr.mono (by decide)) (by rfl) T.g_read_signature T.F_read_signature.kp T.b_read_signature .nil pass0 (pa_cons (pv 6) (pa_cons (pv 5) pa_nil))) pa_nil)))) (pss_one (ps_set (i := 2) sc_read_lines.nd rfl (Or.inl rfl) (pe_call (ok_read_outs T) (hr.mono (by decide)) (by rfl) T.g_read_outs T.F_read_outs.kp T.b_read_outs .nil pass0 (pa_cons (pv 6) (pa_cons (pv 5) pa_nil))))))))))))
      (pss_one (ps_ret (pe_tup (pa_cons (pv 1) (pa_cons (pv 2) (pa_cons (pv 3) pa_nil))))))))))), ?_⟩
    refine ⟨Nat.zero_le _, fun s' hs => ⟨Nat.zero_le _, fun o ho => ⟨Nat.zero_le _, fun rl hrl => ?_⟩⟩⟩
    have e1 := Ex.new (o := .lst []) hs
    have e2 := Ex.new (o := .lst []) ho
    have hs2 := e2 _ _ (upd_same (H := H) (a := s') (o := .lst []))
    have ho2 : upd (upd H s' (.lst [])) o (.lst []) o = some (.lst []) := upd_same
    have nso : s' ≠ o := fun z => by rw [← z, upd_same] at ho; cases ho
    have e02 := e1.trans e2
    have hon : H o = none := e1.free' ho
    generalize upd (upd H s' (.lst [])) o (.lst []) = H2 at hs2 ho2 e02 hrl ⊢
    have nsr : s' ≠ rl := fun z => by rw [z, hrl] at hs2; cases hs2
    have nor : o ≠ rl := fun z => by rw [z, hrl] at ho2; cases ho2
    have e3 := Ex.new (o := .lst []) hrl
    have hrn : H rl = none := e02.free' hrl
    have hr3 : upd H2 rl (.lst []) rl = some (.lst []) := upd_same
    have hs3 := e3 _ _ hs2
    have ho3 := e3 _ _ ho2
    have e03 := e02.trans e3
    generalize upd H2 rl (.lst []) = H3 at e03 hr3 hs3 ho3 ⊢
    have hlen : (prL bs os rs).length ≤ 76 := by
      unfold prL
      rw [List.length_append, List.length_append, List.length_map, List.length_map]
      have lO : (if os = [] then ([] : List Str) else [outT os]).length ≤ 1 := by
        split
        · exact Nat.zero_le 1
        · exact Nat.le_refl 1
      omega
    have hall : ∀ w ∈ prL bs os rs, w.length ≤ 300 ∧ 10 ∉ tl w := fun w hw => by
      unfold prL at hw
      rcases List.mem_append.mp hw with hw | hw
      · obtain ⟨b, hb, rfl⟩ := List.mem_map.mp hw
        have := sg_facts (hbs b hb)
        exact ⟨by omega, this.1⟩
      · rcases List.mem_append.mp hw with hw | hw
        · split at hw
          · cases hw
          · rename_i hne
            rw [List.mem_singleton.mp hw]
            have := out_facts hos hne l16
            exact ⟨by omega, this.1⟩
        · obtain ⟨r, hr, rfl⟩ := List.mem_map.mp hw
          exact ⟨rT_len (hwf r hr), (rT_facts (hwf r hr)).1⟩
    refine ⟨fun σ' H' => ∃ L, σ' = [some (.str (pT bs os rs)), some (.ref s'), some (.ref o), some (.ref rl), some (.ref L), none, none, none] ∧ Ex H3 H' ∧ H3 L = none ∧ H' L = some (.lst ((prL bs os rs).map V.str)), ?_, ?_⟩
    · refine ⟨_, rfl, rfl, _, rfl, ?_⟩
      by_cases he : prL bs os rs = []
      · have ht : pT bs os rs = "" := by unfold pT; rw [he, join_eq]; rfl
        rw [ht]
        refine ite2 (fun z => absurd z (by decide +kernel)) (fun _ => ⟨Nat.zero_le _, fun L hL => ⟨L, rfl, Ex.new hL, hL, by rw [upd_same, he]; rfl⟩⟩)
      · have hne := pT_ne hbs hos l16 hwf he
        have hpl : (pT bs os rs).length ≤ 30000 := by
          have := join_len "\n" (prL bs os rs) 300 fun w hw => (hall w hw).1
          rw [show ("\n" : Str).length = 1 by decide +kernel] at this
          unfold pT
          have h2 : 301 * (prL bs os rs).length ≤ 301 * 76 := Nat.mul_le_mul_left _ hlen
          omega
        refine ite2 (fun _ => ?_) (fun z => absurd (by rw [decide_eq_false (fun y => hne (V.str.inj y))]; rfl) z)
        refine ⟨_, rfl, rfl, _, _, rfl, rfl, by decide +kernel, sz_of (by omega), fun L hL => ?_⟩
        rw [show Txt.split (pT bs os rs) "\n" = prL bs os rs from split_join (s := 10) (S := []) (by decide +kernel) (by decide +kernel) he fun p hp => (hall p hp).2]
        exact ⟨L, rfl, Ex.new hL, hL, upd_same⟩
    rintro σ4 H4 ⟨L, rfl, e4, hLn, hL⟩
    have nL : L ≠ rl := (ne_of_none hr3 hLn).symm
    have nLs : L ≠ s' := (ne_of_none hs3 hLn).symm
    refine ⟨_, rfl, L, _, false, 1, rfl, rfl, by decide, by decide, SqL.of hL, ?_⟩
    refine for_it (UL.walk_enumK (xs := (prL bs os rs).map V.str)) (fun i σ' H' => ∃ v5 v6 v7 oc ss as, σ' = [some (.str (pT bs os rs)), some (.ref s'), some (.ref oc), some (.ref rl), some (.ref L), v5, v6, v7] ∧ Ex H H' ∧ H' L = some (.lst ((prL bs os rs).map V.str)) ∧ H' s' = some (.lst (ss.map V.ref)) ∧ Al2 (SigR K A.Signature H') ss (bs.take i) ∧ H' oc = some (.lst ((if bs.length < i then os else []).map V.str)) ∧ oc ≠ s' ∧ oc ≠ rl ∧ H' rl = some (.lst (as.map V.ref)) ∧ Al2 (RwAt A.Row A.Expression H') as (rs.take (i - (bs.length + oN os)))) ⟨_, _, _, o, [], [], rfl, e03.trans e4, hL, e4 _ _ hs3, .nil, ?_, nso.symm, nor, e4 _ _ hr3, ?_⟩ (fun i σ' H' _ ⟨_, _, _, _, _, _, _, _, h, _⟩ => SqL.of h) ?_ ?_
    · rw [if_neg (by omega)]
      exact e4 _ _ ho3
    · rw [Nat.zero_sub, List.take_zero]
      exact .nil
    · rintro i y σ' H5 H6 hi ⟨v5, v6, v7, oc, ss, as, rfl, e5, hL5, hs5, hal5, ho5, nos, nor5, hr5, har5⟩ ⟨T', x, rfl, hT, rfl, hx⟩
      rw [List.length_map] at hi
      rw [List.getElem?_map] at hx
      obtain ⟨w, hw, rfl⟩ := Option.map_eq_some_iff.mp hx
      have eT := Ex.new (o := .tup [.int (1 + (i : Nat)), .str w]) hT
      refine ⟨T', _, rfl, SqT.of upd_same, rfl, _, _, rfl, _, _, rfl, rfl, ?_⟩
      have hL6 := eT _ _ hL5
      have hs6 := eT _ _ hs5
      have ho6 := eT _ _ ho5
      have hr6 := eT _ _ hr5
      have e6 := e5.trans eT
      have hal6 := hal5.imp fun _ _ z => SigR.mono eT z
      have har6 := har5.imp fun _ _ z => RwAt.mono eT z
      generalize upd H5 T' (.tup [.int (1 + (i : Nat)), .str w]) = H6 at hL6 hs6 ho6 hr6 e6 hal6 har6 ⊢
      rcases prL_at hw with ⟨b, hb, rfl⟩ | ⟨hib, hone, rfl⟩ | ⟨r, j, hij, hr, rfl⟩
      · have hbi := (List.getElem?_eq_some_iff.mp hb).1
        have hg := hbs b (List.mem_of_getElem? hb)
        have hf := sg_facts hg
        refine ⟨_, rfl, rfl, _, _, rfl, rfl, _, rfl, ?_⟩
        rw [hf.2.2.1]
        have has : as = [] := by
          have := har6.len
          rw [List.length_take] at this
          exact List.length_eq_zero_iff.mp (by omega)
        subst has
        rw [if_neg (by omega)] at ho6
        refine iteT ?_
        refine ⟨_, rfl, _, rfl, iteT ⟨_, rfl, false, .inl ⟨_, SqL.of ho6, rfl⟩, iteF ⟨_, rfl, false, .inl ⟨_, SqL.of hr6, rfl⟩, iteF ?_⟩⟩⟩
        refine ⟨_, rfl, _, rfl, iteF ?_⟩
        refine ⟨_, rfl, rfl, _, _, rfl, rfl, _, rfl, ?_⟩
        rw [hf.2.2.1]
        refine iteT ⟨_, rfl, .inl ⟨rfl, _, SqL.of hs6⟩, _, rfl, _, rfl, b, _, rfl, hg, fun a H7 e7 hsg => ?_⟩
        have hs7 := e7 _ _ hs6
        have lss := hal6.len
        rw [List.length_take] at lss
        have htk : bs.take (i + 1) = bs.take i ++ [b] := by rw [List.take_add_one, hb]; rfl
        refine ⟨s', _, _, rfl, rfl, hs7, sz_lt (by rw [List.length_map]; omega), ?_⟩
        refine ⟨_, _, _, oc, ss ++ [a], [], rfl, (e6.trans e7).mut hs, by rw [upd_ne nLs]; exact e7 _ _ hL6, by rw [upd_same, List.map_append]; rfl, ?_, ?_, nos, nor5, by rw [upd_ne nsr.symm]; exact e7 _ _ hr6, ?_⟩
        · rw [htk]
          exact (hal6.imp fun _ _ z => SigR.putL hs7 (SigR.mono e7 z)).snoc (SigR.putL hs7 hsg)
        · rw [if_neg (by omega), upd_ne nos]
          exact e7 _ _ ho6
        · rw [show i + 1 - (bs.length + oN os) = 0 by omega, List.take_zero]
          exact .nil
      · have hf := out_facts hos hone l16
        have has : as = [] := by
          have := har6.len
          rw [List.length_take] at this
          exact List.length_eq_zero_iff.mp (by omega)
        subst has
        rw [if_neg (by omega)] at ho6
        refine ⟨_, rfl, rfl, _, _, rfl, rfl, _, rfl, ?_⟩
        rw [hf.2.2.1]
        refine iteF ⟨_, rfl, rfl, _, _, rfl, rfl, ?_⟩
        rw [hf.2.2.2.1]
        refine ⟨_, rfl, _, rfl, iteT ⟨_, rfl, false, .inl ⟨_, SqL.of ho6, rfl⟩, iteF ⟨_, rfl, false, .inl ⟨_, SqL.of hr6, rfl⟩, iteF ?_⟩⟩⟩
        refine ⟨_, rfl, _, rfl, iteF ?_⟩
        refine ⟨_, rfl, rfl, _, _, rfl, rfl, _, rfl, ?_⟩
        rw [hf.2.2.1]
        refine iteF ⟨_, rfl, _, rfl, os, _, rfl, hone, hos, l16, fun a H7 han e7 ha7 => ?_⟩
        have o1 : oN os = 1 := if_neg hone
        refine ⟨_, _, _, a, ss, [], rfl, e6.trans e7, e7 _ _ hL6, e7 _ _ hs6, ?_, ?_, (ne_of_none hs6 han).symm, (ne_of_none hr6 han).symm, e7 _ _ hr6, ?_⟩
        · rw [List.take_of_length_le (by omega)]
          rw [List.take_of_length_le (by omega)] at hal6
          exact hal6.imp fun _ _ z => SigR.mono e7 z
        · rw [if_pos (by omega)]
          exact ha7
        · rw [show i + 1 - (bs.length + oN os) = 0 by omega, List.take_zero]
          exact .nil
      · have wf := hwf r (List.mem_of_getElem? hr)
        refine ⟨_, rfl, rfl, _, _, rfl, rfl, _, rfl, ?_⟩
        rw [(rT_head wf).1]
        refine iteF ⟨_, rfl, rfl, _, _, rfl, rfl, ?_⟩
        rw [(rT_head wf).2]
        refine ⟨_, rfl, _, rfl, iteF (iteF ?_)⟩
        refine ⟨_, rfl, _, rfl, iteT ?_⟩
        refine ⟨_, rfl, .inl ⟨rfl, _, SqL.of hr6⟩, _, rfl, _, rfl, r, _, rfl, wf, fun a H7 ha e7 hrw => ?_⟩
        have hr7 := e7 _ _ hr6
        have htk : rs.take (i + 1 - (bs.length + oN os)) = rs.take (i - (bs.length + oN os)) ++ [r] := by
          rw [show i + 1 - (bs.length + oN os) = j + 1 by omega, show i - (bs.length + oN os) = j by omega, List.take_add_one, hr]; rfl
        have lal := har6.len
        rw [List.length_take] at lal
        refine ⟨rl, _, _, rfl, rfl, hr7, sz_lt (by rw [List.length_map]; omega), ?_⟩
        refine ⟨_, _, _, oc, ss, as ++ [a], rfl, (e6.trans e7).mut hrn, by rw [upd_ne nL]; exact e7 _ _ hL6, by rw [upd_ne nsr]; exact e7 _ _ hs6, ?_, ?_, nos, nor5, by rw [upd_same, List.map_append]; rfl, ?_⟩
        · rw [List.take_of_length_le (by omega)]
          rw [List.take_of_length_le (by omega)] at hal6
          exact hal6.imp fun _ _ z => SigR.putL hr7 (SigR.mono e7 z)
        · rw [upd_ne nor5]
          have := e7 _ _ ho6
          by_cases hos0 : os = []
          · rw [hos0] at this ⊢
            simpa using this
          · have : bs.length < i := by unfold oN at hij; rw [if_neg hos0] at hij; omega
            rw [if_pos (by omega)]
            rw [if_pos this] at ho6
            exact e7 _ _ ho6
        · rw [htk]
          refine (al2_memW har6 fun x rd hm z => RwAt.put (hwf rd (List.mem_of_mem_take hm)) hr7 (RwAt.mono e7 z)).snoc (RwAt.put wf hr7 hrw)
    · rintro σ' H5 ⟨v5, v6, v7, oc, ss, as, rfl, e5, hL5, hs5, hal5, ho5, nos, nor5, hr5, har5⟩
      have hpl : (prL bs os rs).length = bs.length + oN os + rs.length := by
        unfold prL oN
        rw [List.length_append, List.length_append, List.length_map, List.length_map]
        split <;> simp <;> omega
      rw [List.length_map, hpl] at hal5 ho5 har5
      rw [List.take_of_length_le (by omega)] at hal5
      rw [show bs.length + oN os + rs.length - (bs.length + oN os) = rs.length by omega, List.take_length] at har5
      have ho6 : H5 oc = some (.lst (os.map V.str)) := by
        by_cases hos0 : os = []
        · rw [hos0] at ho5 ⊢
          simpa using ho5
        · have : bs.length < bs.length + oN os + rs.length := by unfold oN; rw [if_neg hos0]; omega
          rw [if_pos this] at ho5
          exact ho5
      refine ⟨_, rfl, _, rfl, _, rfl, sz_of (by show 3 ≤ 100000; decide), fun p hp => ?_⟩
      have ep := Ex.new (o := .tup [.ref s', .ref oc, .ref rl]) hp
      exact q p s' oc rl ss as _ (e5.trans ep) upd_same (ep _ _ hs5) (hal5.imp fun _ _ z => SigR.mono ep z) (ep _ _ ho6) (ep _ _ hr5) (har5.imp fun _ _ z => RwAt.mono ep z)
end
end K24

set_option Elab.async false
set_option linter.all false
set_option maxRecDepth 100000
namespace K24
open PySem PySem.Spec PyProof.Rows L2 Evl TL UL StX
section
variable {P : Program} {w : World} {K : PySem.W.Frag} {mg : Str → Option Value} {base : Heap} {A : Adr}
theorem outD_nd : ∀ {seen os : List Str}, outD seen os = none → os.Nodup ∧ ∀ o ∈ os, o ∉ seen
  | _, [], _ => ⟨List.nodup_nil, fun _ h => by cases h⟩
  | seen, a :: r, h => by
    have h : (if a ∈ seen then some (Er.dn a) else outD (seen ++ [a]) r) = none := h
    by_cases z : a ∈ seen
    · rw [if_pos z] at h; cases h
    · rw [if_neg z] at h
      obtain ⟨h1, h2⟩ := outD_nd h
      refine ⟨List.nodup_cons.mpr ⟨fun m => h2 a m (by simp), h1⟩, fun o m => ?_⟩
      rcases List.mem_cons.mp m with rfl | m
      · exact z
      · exact fun y => h2 o m (List.mem_append_left _ y)
theorem outs_ok {os : List Str} (h : outsD os = none) : os.Nodup ∧ os.length ≤ 16 := by
  unfold outsD at h
  cases ho : outD [] os with
  | some er => rw [ho] at h; cases h
  | none =>
    rw [ho] at h
    refine ⟨(outD_nd ho).1, ?_⟩
    have h : (if 16 < os.length then some (Er.lg "names") else none) = none := h
    by_cases z : 16 < os.length
    · rw [if_pos z] at h; cases h
    · omega
theorem row_ok {bs : List Rw} {os : List Str} {rs : List Rwd} {i : Nat} {r : Rwd} (h : rs[i]? = some r) (h0 : rowD bs os rs i = none) : OkS (bkAt (kdsOf rs) i).S r.k ∧ (isX r.k = true → cntR rs (i + 1) ≤ 100 ∧ ndsD bs (kdsOf rs) (envAt os rs i) (i + 1) r.ns = none ∧ nmD (kdsOf rs) (envAt os rs i) (i + 1) r = none) := by
  rw [row_due h] at h0
  cases hd : dueS (bkAt (kdsOf rs) i).S r.k with
  | lg => rw [hd] at h0; cases h0
  | ub => rw [hd] at h0; cases h0
  | ok =>
    rw [hd] at h0
    refine ⟨due_ok hd, fun hX => ?_⟩
    have h0 : (if isX r.k = true then (if 100 < cntR rs (i + 1) then some (.lg "nodes") else (match ndsD bs (kdsOf rs) (envAt os rs i) (i + 1) r.ns with
        | some er => some er
        | none => nmD (kdsOf rs) (envAt os rs i) (i + 1) r)) else none) = none := h0
    rw [if_pos hX] at h0
    by_cases hc : 100 < cntR rs (i + 1)
    · rw [if_pos hc] at h0; cases h0
    · rw [if_neg hc] at h0
      cases hn : ndsD bs (kdsOf rs) (envAt os rs i) (i + 1) r.ns with
      | some er => rw [hn] at h0; cases h0
      | none => rw [hn] at h0; exact ⟨by omega, rfl, h0⟩
theorem nd_ok {bs : List Rw} {KS : List Kd} {E : List Nm} {k : Nat} {nd : Nd} (hnd : (bs.map (·.1)).Nodup) (h : ndD bs KS E k nd = none) : NdOk bs KS E k nd := by
  cases nd with
  | name w =>
    have h : (if inSc KS E w k = true then none else some (Er.un w)) = none := h
    by_cases z : inSc KS E w k = true
    · exact z
    · rw [if_neg z] at h; cases h
  | op w os => trivial
  | call w os =>
    have h : (match bs.find? fun b => decide (b.1 = w) with
      | some b => if b.2.1 = (os.length : Int) then none else some (Er.wc w)
      | none => some (.uf w)) = none := h
    cases hf : bs.find? fun b => decide (b.1 = w) with
    | none => rw [hf] at h; cases h
    | some b =>
      rw [hf] at h
      have h : (if b.2.1 = (os.length : Int) then none else some (Er.wc w)) = none := h
      have hb : b.2.1 = (os.length : Int) := by
        by_cases z : b.2.1 = (os.length : Int)
        · exact z
        · rw [if_neg z] at h; cases h
      refine ⟨⟨b, List.mem_of_find?_eq_some hf, of_decide_eq_true (List.find?_some (p := fun b : Rw => decide (b.1 = w)) hf)⟩, fun b' m e => ?_⟩
      have := find_rw hnd m e
      rw [hf] at this
      cases this
      exact hb
theorem nm_ok {KS : List Kd} {E : List Nm} {k : Nat} {r : Rwd} (l16 : E.length ≤ 16) (h : nmD KS E k r = none) : NmOk KS E k r := by
  unfold nmD at h
  refine ⟨fun e => ?_, fun e => ?_⟩
  · rw [if_pos e] at h
    by_cases z : inSc KS E r.nm k = true
    · rw [if_pos z] at h
      refine ⟨z, fun en hen => ?_⟩
      rw [hen] at h
      have h : (if en.2.1 = "val" then some (Er.nr r.nm) else none) = none := h
      intro y
      rw [if_pos y] at h
      cases h
    · rw [if_neg z] at h; cases h
  · rw [if_neg (fun z => by rcases e with e | e <;> rw [e] at z <;> cases z), if_pos e] at h
    by_cases z : r.nm ∈ E.map (·.1)
    · rw [if_pos z] at h; cases h
    · rw [if_neg z] at h
      by_cases y : E.length = 16
      · rw [if_pos y] at h; cases h
      · exact ⟨z, by omega⟩
theorem env16 {bs : List Rw} {os : List Str} {rs : List Rwd} (l16 : os.length ≤ 16) : ∀ i, i ≤ rs.length → (∀ j, j < i → rowD bs os rs j = none) → (∀ r ∈ rs, WfRw r) → (envAt os rs i).length ≤ 16 ∧ cntR rs i ≤ 100
  | 0, _, _, _ => by
    rw [env_zero]
    unfold envO
    rw [List.length_map]
    exact ⟨l16, Nat.zero_le _⟩
  | i + 1, hi, h0, wf => by
    obtain ⟨h1, h2⟩ := env16 l16 i (by omega) (fun j hj => h0 j (by omega)) wf
    have h : rs[i]? = some rs[i] := List.getElem?_eq_getElem (by omega)
    obtain ⟨_, hx⟩ := row_ok h (h0 i (by omega))
    have htk : cntR rs (i + 1) = cntR rs i + rs[i].ns.length := by
      unfold cntR
      rw [List.take_add_one, h, List.map_append, List.sum_append]
      show _ + (rs[i].ns.length + 0) = _
      omega
    rw [env_succ h, List.length_append]
    cases hX : isX rs[i].k with
    | false =>
      have hd : declR (i + 1) rs[i] = [] := by
        unfold declR
        rw [if_neg (fun z => by rcases z with z | z <;> rw [z] at hX <;> cases hX)]
      rw [hd, htk, (wf rs[i] (List.getElem_mem _)).nx hX]
      exact ⟨h1, h2⟩
    | true =>
      obtain ⟨c1, _, c3⟩ := hx hX
      refine ⟨?_, c1⟩
      have q := nm_ok h1 c3
      unfold declR
      split
      · rename_i z
        have := (q.new z).2
        show _ + 1 ≤ 16
        omega
      · exact h1
theorem pg_of {bs : List Rw} {os : List Str} {rs : List Rwd} (on : ∀ o ∈ os, okS o = true) (wf : ∀ r ∈ rs, WfRw r) (hnd : ((newR :: copyR :: bs).map (·.1)).Nodup) (h : progD (newR :: copyR :: bs) os rs = none) : PgOk bs os rs := by
  unfold progD at h
  by_cases z : 48 < rs.length
  · rw [if_pos z] at h; cases h
  rw [if_neg z] at h
  cases ho : outsD os with
  | some er => rw [ho] at h; cases h
  | none =>
    rw [ho] at h
    have h : rowsD (newR :: copyR :: bs) os rs = none := h
    obtain ⟨o1, o2⟩ := outs_ok ho
    unfold rowsD at h
    cases hf : (List.range rs.length).findSome? (rowD (newR :: copyR :: bs) os rs) with
    | some er => rw [hf] at h; cases h
    | none =>
      have h0 : ∀ j, j < rs.length → rowD (newR :: copyR :: bs) os rs j = none := fun j hj => none_first hf (List.getElem?_range hj)
      have hr := rows_none h0
      rw [hf] at h
      have h : (if (bkAt (kdsOf rs) rs.length).S = [] then none else some (Er.ub (rs.length + 1))) = none := h
      have hS : (bkAt (kdsOf rs) rs.length).S = [] := by
        by_cases y : (bkAt (kdsOf rs) rs.length).S = []
        · exact y
        · rw [if_neg y] at h; cases h
      have hall := fun i hi => env16 (bs := newR :: copyR :: bs) o2 i hi (fun j hj => h0 j (by omega)) wf
      refine ⟨on, o1, o2, ⟨fun i k hk => ?_, by rw [kds_len]; exact hS, by rw [kds_len]; omega⟩, wf, ?_, fun i r hr nd m => ?_, fun i r hr hX => ?_⟩
      · unfold kdsOf at hk
        rw [List.getElem?_map] at hk
        obtain ⟨r, hr, rfl⟩ := Option.map_eq_some_iff.mp hk
        exact (row_ok hr (h0 i (List.getElem?_eq_some_iff.mp hr).1)).1
      · have := (hall rs.length (Nat.le_refl _)).2
        unfold cntR at this
        rw [List.take_length] at this
        exact this
      · have hi := (List.getElem?_eq_some_iff.mp hr).1
        cases hX : isX r.k with
        | false => rw [(wf r (List.mem_of_getElem? hr)).nx hX] at m; cases m
        | true =>
          obtain ⟨_, c2, _⟩ := (row_ok hr (h0 i hi)).2 hX
          obtain ⟨j, hj⟩ := List.getElem?_of_mem m
          exact nd_ok hnd (none_first c2 hj)
      · have hi := (List.getElem?_eq_some_iff.mp hr).1
        exact nm_ok (hall i (by omega)).1 ((row_ok hr (h0 i hi)).2 hX).2.2
/-! ### the object of a program -/
def prT (bs : List Rw) (os : List Str) (rs : List Rwd) (b o x r kd hm : Addr) : List (Str × V) := prE b o x r kd hm ++ txF (some (pT bs os rs))
structure PrAt (K : PySem.W.Frag) (P0 B S R C BL : Addr) (H : Hp) (p : Addr) (bs : List Rw) (os : List Str) (rs : List Rwd) : Prop where
  ok : PgOk bs os rs
  gb : (∀ b ∈ bs, good b ∧ b.1 ≠ "new" ∧ b.1 ≠ "copy") ∧ bs.length ≤ 12
  at_ : ∃ (dx b o x r kd hm : Addr) (ss as : List Addr) (xdx op kl ar en : Addr), H p = some (.ins P0 dx (prT bs os rs b o x r kd hm)) ∧ BookAt K B S H b ss (newR :: copyR :: bs) ∧ H o = some (.tup (os.map V.str)) ∧ H r = some (.tup (as.map V.ref)) ∧ Al2 (RwAt R C H) as rs ∧ NmAt H kd hm (envAt os rs rs.length) ∧ BlF BL H x xdx op kl ar en (kdsOf rs)
theorem PrAt.mono {K : PySem.W.Frag} {P0 B S R C BL : Addr} {H H' : Hp} {p : Addr} {bs : List Rw} {os : List Str} {rs : List Rwd} (e : Ex H H') (h : PrAt K P0 B S R C BL H p bs os rs) : PrAt K P0 B S R C BL H' p bs os rs := by
  obtain ⟨ok, gb, dx, b, o, x, r, kd, hm, ss, as, xdx, op, kl, ar, en, h1, h2, h3, h4, h5, h6, h7⟩ := h
  exact ⟨ok, gb, dx, b, o, x, r, kd, hm, ss, as, xdx, op, kl, ar, en, e _ _ h1, h2.mono e, e _ _ h3, e _ _ h4, h5.imp fun _ _ z => RwAt.mono e z, h6.mono e, h7.mono e⟩
theorem bl_del {B C : Addr} {H : Hp} {x dx op kl ar en p pdx : Addr} {S : List (Nat × Kd)} {ks : List Kd} {as : List Addr} {A : List (List Nat)} {E : List (Nat × Nat)} {fs : List (Str × V)} (h : BlA B H x dx op kl ar en S ks as A E) (hp : H p = some (.ins C pdx fs)) (n5 : fs.length ≠ 5) : BlA B (L2.del H p) x dx op kl ar en S ks as A E := by
  have kp : ∀ {a : Addr} {o : HO}, H a = some o → o ≠ .ins C pdx fs → L2.del H p a = some o := fun {a o} ha no => del_at ha (fun e => no (by rw [e, hp] at ha; exact (Option.some.inj ha).symm))
  exact ⟨kp h.ob (fun e => by injection e with _ _ e3; exact n5 (by rw [← e3]; rfl)), kp h.opn (fun e => by cases e), kp h.kin (fun e => by cases e), kp h.aro (fun e => by cases e), h.arl.imp fun a l q => (show L2.del H p a = _ from kp (show H a = _ from q) (fun e => by cases e)), kp h.end_ (fun e => by cases e)⟩
theorem ex_delp {H : Hp} {p : Addr} {o : HO} : Ex (L2.del H p) (upd H p o) := fun a y h => by
  have n : a ≠ p := fun e => by rw [e, L2.del_same] at h; cases h
  rw [L2.del_ne n] at h
  rw [upd_ne n]
  exact h
def spPrInit (K : PySem.W.Frag) (A : Adr) : Sp := fun vs H Q Er0 => ∃ (p dx b o rl : Addr) (ss as : List Addr) (bs : List Rw) (os : List Str) (rs : List Rwd) (H0 : Hp), vs = [.ref p, .ref b, .ref o, .ref rl] ∧ Ex H0 H ∧ H0 p = none ∧ H p = some (.ins A.Program dx []) ∧ BookAt K A.Book A.Signature H0 b ss (newR :: copyR :: bs) ∧ H0 o = some (.lst (os.map V.str)) ∧ (H0 rl = some (.lst (as.map V.ref)) ∨ H0 rl = some (.tup (as.map V.ref))) ∧ Al2 (RwAt A.Row A.Expression H0) as rs ∧ (∀ o ∈ os, okS o = true) ∧ os.length ≤ 64 ∧ (∀ r ∈ rs, WfRw r) ∧ rs.length ≤ 64 ∧ ((newR :: copyR :: bs).map (·.1)).Nodup ∧ (∀ b ∈ bs, good b ∧ b.1 ≠ "new" ∧ b.1 ≠ "copy") ∧ bs.length ≤ 12 ∧ (progD (newR :: copyR :: bs) os rs = none → ∀ H' dx b' o' x r kd hm, Ex H0 H' → PrAt K A.Program A.Book A.Signature A.Row A.Expression A.Blocks H' p bs os rs → H' p = some (.ins A.Program dx (prT bs os rs b' o' x r kd hm)) → H0 kd = none → H0 hm = none → Q .non H') ∧ ∀ er, progD (newR :: copyR :: bs) os rs = some er → Rz A Er0 H0 er
theorem ok_pr_init (T : Tx0 w K mg A) : FnOk P w K mg base (L2.CX P w) 16 A.pr_init A.d_pr_init p_pr_init (spPrInit K A) := by
  refine T.F_pr_init.okX sc_pr_init (fun vs H Q E h => ?_) (fun cdv Ar outer s H vs Q E hr h => ?_)
  · obtain ⟨p, dx, b, o, rl, ss, as, bs, os, rs, H0, rfl, _⟩ := h
    rfl
  · obtain ⟨p, dx, b, o, rl, ss, as, bs, os, rs, H0, rfl, e0, hp0, hp, hb, ho, hrl, hal, hon, l64, hwf, r64, hnd, gb, l12, k, kq⟩ := h
    refine ⟨_, (pss_cons (ps_if (pt_cmpR op_gt (pe_callB call_len_seq (by rfl) T.m_len PySem.boot_len (pa_cons (pv 3) pa_nil)) (pe_con (pv 0) rfl) (nomark _)) (pss_one (ps_raise rfl (takes_of rfl rfl rfl rfl) (pmk_oex T.ex_TooLarge.ox T.ex_TooLarge.ii T.ti_lives_init (ok_lives_init T) (hr.mono (by decide)) T.b_lives_init .nil pass0 (by rfl) T.g_TooLarge (pa_cons pe_str pa_nil)))) pss_nil)
      (pss_cons (ps_fld (pv 0) (pv 1) rfl)
      (pss_cons (ps_fld (pv 0) (pe_callTy call_tuple_of (by rfl) T.m_tuple (by decide +kernel) (pa_cons (pv 2) pa_nil)) rfl)
      (pss_cons (ps_fld (pv 0) (pe_make T.mk_Blocks (ok_bl_init T) (hr.mono (by decide)) (by rfl) T.g_Blocks T.b_bl_init .nil pass0 (pa_cons (pe_con (pv 0) rfl) pa_nil)) rfl)
      (pss_cons (ps_fld (pv 0) (pe_callTy call_tuple_of (by rfl) T.m_tuple (by decide +kernel) (pa_cons (pv 3) pa_nil)) rfl)
      (pss_cons (ps_fld (pv 0) pe_dnewK rfl)
      (pss_cons (ps_fld (pv 0) pe_dnewK rfl)
      (pss_cons (ps_expr (pe_meth0 (pv 0) T.cl_Program T.e_pr_outs (ok_pr_outs T) (hr.mono (by decide)) T.b_pr_outs .nil (UL.passX (takes_of rfl rfl rfl rfl))))
      (pss_cons (ps_expr (pe_meth0 (pv 0) T.cl_Program T.e_pr_rows (ok_pr_rows T) (hr.mono (by decide)) T.b_pr_rows .nil (UL.passX (takes_of rfl rfl rfl rfl))))
      (pss_one (ps_fld (pv 0) (pe_call (ok_text_of T) (hr.mono (by decide)) (by rfl) T.g_text_of T.F_text_of.kp T.b_text_of .nil pass0 (pa_cons (pe_fld (pv 0) rfl) (pa_cons (pe_fld (pv 0) rfl) (pa_cons (pe_fld (pv 0) rfl) pa_nil)))) rfl))))))))))), ?_⟩
    rcases hrl with hrl | hrl
    · have lal : as.length = rs.length := hal.len
      obtain ⟨u, hu⟩ := T.co_Program_MOST_ROWS
      obtain ⟨u8, hu8⟩ := T.co_Program_MOST_DEPTH
      refine ⟨_, rfl, rl, _, rfl, .inl (SqL.of (e0 _ _ hrl)), _, rfl, p, _, dx, _, _, u, rfl, hp, T.cl_Program, hu, rfl, _, _, rfl, rfl, _, rfl, ite2 (fun z => ?_) (fun z => ?_)⟩
      · have z : (48 : Int) < (((as.map V.ref).length : Nat) : Int) := of_decide_eq_true z
        rw [List.length_map] at z
        exact ⟨(by show 1 ≤ 1000; decide), raise_what T.ex_TooLarge rfl fun d H' e' hd' => kq (.lg "rows") (by unfold progD; rw [if_pos (by omega)]) d H' (e0.trans e') hd'⟩
      have l48 : rs.length ≤ 48 := by
        have z : ¬ (48 : Int) < (((as.map V.ref).length : Nat) : Int) := fun y => z (decide_eq_true y)
        rw [List.length_map] at z
        omega
      have hpd : progD (newR :: copyR :: bs) os rs = (match outsD os with
        | some er => some er
        | none => rowsD (newR :: copyR :: bs) os rs) := (if_neg (by omega))
      refine ⟨_, rfl, _, rfl, p, _, dx, _, rfl, hp, T.cl_Program, T.na_Program_book, by decide, ?_⟩
      show tSeq _ _ _ _ (upd H p (.ins A.Program dx [("book", .ref b)]))
      have e1 : Ex H0 (upd H p (.ins A.Program dx [("book", .ref b)])) := e0.mut hp0
      have p1 : upd H p (.ins A.Program dx [("book", .ref b)]) p = some (.ins A.Program dx [("book", .ref b)]) := upd_same
      generalize upd H p (.ins A.Program dx [("book", .ref b)]) = H1 at e1 p1 ⊢
      refine ⟨_, rfl, o, _, rfl, .inl ⟨SqL.of (e1 _ _ ho), fun to hto => ⟨_, rfl, p, _, dx, _, rfl, (Ex.new hto) _ _ p1, T.cl_Program, T.na_Program_outs, by show 1 < 1000; decide, ?_⟩⟩⟩
      have ntp : to ≠ p := (ne_of_none p1 hto).symm
      have hto0 : H0 to = none := e1.free' hto
      show tSeq _ _ _ _ (upd (upd H1 to (.tup (os.map V.str))) p (.ins A.Program dx [("book", .ref b), ("outs", .ref to)]))
      have e2 : Ex H0 (upd (upd H1 to (.tup (os.map V.str))) p (.ins A.Program dx [("book", .ref b), ("outs", .ref to)])) := (e1.trans (Ex.new hto)).mut hp0
      have t2 : upd (upd H1 to (.tup (os.map V.str))) p (.ins A.Program dx [("book", .ref b), ("outs", .ref to)]) to = some (.tup (os.map V.str)) := by rw [upd_ne ntp]; exact upd_same
      have p2 : upd (upd H1 to (.tup (os.map V.str))) p (.ins A.Program dx [("book", .ref b), ("outs", .ref to)]) p = some (.ins A.Program dx [("book", .ref b), ("outs", .ref to)]) := upd_same
      generalize upd (upd H1 to (.tup (os.map V.str))) p (.ins A.Program dx [("book", .ref b), ("outs", .ref to)]) = H2 at e2 t2 p2 ⊢
      refine ⟨_, rfl, p, _, dx, _, _, u8, rfl, p2, T.cl_Program, hu8, rfl, fun x xdx hx hxd nx => ?_⟩
      refine ⟨x, xdx, rfl, upd_same, fun H3 op kl ar en as' e3 bl3 ho3 hk3 ha3 hn3 => ⟨rfl, ?_⟩⟩
      have e23 : Ex H2 H3 := fun a y h => e3 a y (by
        have n1 := ne_of_none h hx
        have n2 := ne_of_none h hxd
        rw [L2.del_ne n1, upd_ne n1, upd_ne n2]
        exact h)
      have e3' := e2.trans e23
      have p3 := e23 _ _ p2
      have t3 := e23 _ _ t2
      have D3 := bl_del bl3 p3 (show (2 : Nat) ≠ 5 by decide)
      have dp3 : L2.del H3 p p = none := L2.del_same
      have dt3 : L2.del H3 p to = some (.tup (os.map V.str)) := del_at t3 ntp
      refine ⟨_, rfl, p, _, dx, _, rfl, p3, T.cl_Program, T.na_Program_blocks, by show 2 < 1000; decide, ?_⟩
      show tSeq _ _ _ _ (upd H3 p (.ins A.Program dx [("book", .ref b), ("outs", .ref to), ("blocks", .ref x)]))
      have e4 : Ex H0 (upd H3 p (.ins A.Program dx [("book", .ref b), ("outs", .ref to), ("blocks", .ref x)])) := e3'.mut hp0
      have d4 : Ex (L2.del H3 p) (upd H3 p (.ins A.Program dx [("book", .ref b), ("outs", .ref to), ("blocks", .ref x)])) := ex_delp
      have p4 : upd H3 p (.ins A.Program dx [("book", .ref b), ("outs", .ref to), ("blocks", .ref x)]) p = some (.ins A.Program dx [("book", .ref b), ("outs", .ref to), ("blocks", .ref x)]) := upd_same
      generalize upd H3 p (.ins A.Program dx [("book", .ref b), ("outs", .ref to), ("blocks", .ref x)]) = H4 at e4 d4 p4 ⊢
      refine ⟨_, rfl, rl, _, rfl, .inl ⟨SqL.of (e4 _ _ hrl), fun r hrn => ⟨_, rfl, p, _, dx, _, rfl, (Ex.new hrn) _ _ p4, T.cl_Program, T.na_Program__rows, by show 3 < 1000; decide, ?_⟩⟩⟩
      have nrp : r ≠ p := (ne_of_none p4 hrn).symm
      have hr0 : H0 r = none := e4.free' hrn
      show tSeq _ _ _ _ (upd (upd H4 r (.tup (as.map V.ref))) p (.ins A.Program dx [("book", .ref b), ("outs", .ref to), ("blocks", .ref x), ("_rows", .ref r)]))
      have e5 : Ex H0 (upd (upd H4 r (.tup (as.map V.ref))) p (.ins A.Program dx [("book", .ref b), ("outs", .ref to), ("blocks", .ref x), ("_rows", .ref r)])) := (e4.trans (Ex.new hrn)).mut hp0
      have d5 : Ex (L2.del H3 p) (upd (upd H4 r (.tup (as.map V.ref))) p (.ins A.Program dx [("book", .ref b), ("outs", .ref to), ("blocks", .ref x), ("_rows", .ref r)])) := (d4.trans (Ex.new hrn)).mut dp3
      have p5 : upd (upd H4 r (.tup (as.map V.ref))) p (.ins A.Program dx [("book", .ref b), ("outs", .ref to), ("blocks", .ref x), ("_rows", .ref r)]) p = some (.ins A.Program dx [("book", .ref b), ("outs", .ref to), ("blocks", .ref x), ("_rows", .ref r)]) := upd_same
      have r5 : upd (upd H4 r (.tup (as.map V.ref))) p (.ins A.Program dx [("book", .ref b), ("outs", .ref to), ("blocks", .ref x), ("_rows", .ref r)]) r = some (.tup (as.map V.ref)) := by rw [upd_ne nrp]; exact upd_same
      generalize upd (upd H4 r (.tup (as.map V.ref))) p (.ins A.Program dx [("book", .ref b), ("outs", .ref to), ("blocks", .ref x), ("_rows", .ref r)]) = H5 at e5 d5 p5 r5 ⊢
      intro kd hkd
      refine ⟨_, rfl, p, _, dx, _, rfl, (Ex.new hkd) _ _ p5, T.cl_Program, T.na_Program__kinds, by show 4 < 1000; decide, ?_⟩
      show tSeq _ _ _ _ (upd (upd H5 kd (.dK [])) p (.ins A.Program dx [("book", .ref b), ("outs", .ref to), ("blocks", .ref x), ("_rows", .ref r), ("_kinds", .ref kd)]))
      have e6 : Ex H0 (upd (upd H5 kd (.dK [])) p (.ins A.Program dx [("book", .ref b), ("outs", .ref to), ("blocks", .ref x), ("_rows", .ref r), ("_kinds", .ref kd)])) := (e5.trans (Ex.new hkd)).mut hp0
      have d6 : Ex (L2.del H3 p) (upd (upd H5 kd (.dK [])) p (.ins A.Program dx [("book", .ref b), ("outs", .ref to), ("blocks", .ref x), ("_rows", .ref r), ("_kinds", .ref kd)])) := (d5.trans (Ex.new hkd)).mut dp3
      have p6 : upd (upd H5 kd (.dK [])) p (.ins A.Program dx [("book", .ref b), ("outs", .ref to), ("blocks", .ref x), ("_rows", .ref r), ("_kinds", .ref kd)]) p = some (.ins A.Program dx [("book", .ref b), ("outs", .ref to), ("blocks", .ref x), ("_rows", .ref r), ("_kinds", .ref kd)]) := upd_same
      have r6 : upd (upd H5 kd (.dK [])) p (.ins A.Program dx [("book", .ref b), ("outs", .ref to), ("blocks", .ref x), ("_rows", .ref r), ("_kinds", .ref kd)]) r = some (.tup (as.map V.ref)) := by rw [upd_ne nrp]; exact Ex.new hkd _ _ r5
      have nkp : kd ≠ p := (ne_of_none p5 hkd).symm
      have hkd0 : H0 kd = none := e5.free' hkd
      have k6 : upd (upd H5 kd (.dK [])) p (.ins A.Program dx [("book", .ref b), ("outs", .ref to), ("blocks", .ref x), ("_rows", .ref r), ("_kinds", .ref kd)]) kd = some (.dK []) := by rw [upd_ne nkp]; exact upd_same
      have nek : en ≠ kd := ne_of_none (d5 _ _ D3.end_) hkd
      generalize upd (upd H5 kd (.dK [])) p (.ins A.Program dx [("book", .ref b), ("outs", .ref to), ("blocks", .ref x), ("_rows", .ref r), ("_kinds", .ref kd)]) = H6 at e6 d6 p6 r6 k6 ⊢
      intro hm hhm
      refine ⟨_, rfl, p, _, dx, _, rfl, (Ex.new hhm) _ _ p6, T.cl_Program, T.na_Program__homes, by show 5 < 1000; decide, ?_⟩
      show tSeq _ _ _ _ (upd (upd H6 hm (.dK [])) p (.ins A.Program dx (prE b to x r kd hm)))
      have e7 : Ex H0 (upd (upd H6 hm (.dK [])) p (.ins A.Program dx (prE b to x r kd hm))) := (e6.trans (Ex.new hhm)).mut hp0
      have d7 : Ex (L2.del H3 p) (upd (upd H6 hm (.dK [])) p (.ins A.Program dx (prE b to x r kd hm))) := (d6.trans (Ex.new hhm)).mut dp3
      have p7 : upd (upd H6 hm (.dK [])) p (.ins A.Program dx (prE b to x r kd hm)) p = some (.ins A.Program dx (prE b to x r kd hm)) := upd_same
      have r7 : upd (upd H6 hm (.dK [])) p (.ins A.Program dx (prE b to x r kd hm)) r = some (.tup (as.map V.ref)) := by rw [upd_ne nrp]; exact Ex.new hhm _ _ r6
      have nhp : hm ≠ p := (ne_of_none p6 hhm).symm
      have hhm0 : H0 hm = none := e6.free' hhm
      have neh : en ≠ hm := ne_of_none (d6 _ _ D3.end_) hhm
      have nm7 : NmAt (upd (upd H6 hm (.dK [])) p (.ins A.Program dx (prE b to x r kd hm))) kd hm [] := ⟨by rw [upd_ne nkp]; exact Ex.new hhm _ _ k6, by rw [upd_ne nhp]; exact upd_same, ne_of_none k6 hhm⟩
      generalize upd (upd H6 hm (.dK [])) p (.ins A.Program dx (prE b to x r kd hm)) = H7 at e7 d7 p7 r7 nm7 ⊢
      have t7 := d7 _ _ dt3
      have bl7 := D3.mono d7
      have nrt : r ≠ to := fun z => by rw [z, d4 _ _ dt3] at hrn; cases hrn
      have eX : Ex H2 (upd (upd H2 xdx (.own x)) x (.ins A.Blocks xdx [])) := (Ex.new hxd).trans (Ex.new (by rw [upd_ne nx.symm]; exact hx))
      have eA : Ex H0 (upd (upd H0 to (.tup (os.map V.str))) r (.tup (as.map V.ref))) := (Ex.new hto0).trans (Ex.new (by rw [upd_ne nrt]; exact hr0))
      have eR : Ex (upd (upd H0 to (.tup (os.map V.str))) r (.tup (as.map V.ref))) H7 := fun a y h => by
        by_cases n1 : a = r
        · subst n1
          rw [upd_same] at h
          rw [← h]; exact r7
        · rw [upd_ne n1] at h
          by_cases n2 : a = to
          · subst n2
            rw [upd_same] at h
            rw [← h]; exact t7
          · rw [upd_ne n2] at h
            exact e7 _ _ h
      have nn : ∀ {a : Addr} {o : HO}, H7 a = some o → (∀ ys, o ≠ .tup ys) → H0 a = none → (upd (upd H0 to (.tup (os.map V.str))) r (.tup (as.map V.ref))) a = none := fun {a o} h no h0 => by
        rw [upd_ne (fun z => by rw [z, r7] at h; exact no _ (Option.some.inj h).symm), upd_ne (fun z => by rw [z, t7] at h; exact no _ (Option.some.inj h).symm)]
        exact h0
      have hbR := hb.mono eA
      have hfr : ∀ a ∈ [op, kl, ar, en, kd, hm], (upd (upd H0 to (.tup (os.map V.str))) r (.tup (as.map V.ref))) a = none := fun a m => by
        simp only [List.mem_cons, List.not_mem_nil, or_false] at m
        rcases m with rfl | rfl | rfl | rfl | rfl | rfl
        · exact nn bl7.opn (fun _ z => by cases z) ((e2.trans eX).free' ho3)
        · exact nn bl7.kin (fun _ z => by cases z) ((e2.trans eX).free' hk3)
        · exact nn bl7.aro (fun _ z => by cases z) ((e2.trans eX).free' ha3)
        · exact nn bl7.end_ (fun _ z => by cases z) ((e2.trans eX).free' hn3)
        · exact nn nm7.k (fun _ z => by cases z) hkd0
        · exact nn nm7.h (fun _ z => by cases z) hhm0
      have hf2 : ∀ a ∈ [kd, hm], (upd (upd H0 to (.tup (os.map V.str))) r (.tup (as.map V.ref))) a = none := fun a m => hfr a (by simp only [List.mem_cons, List.not_mem_nil, or_false] at m ⊢; rcases m with h | h <;> simp [h])
      refine ⟨_, rfl, p, dx, _, rfl, p7, rfl, p, dx, b, to, x, r, kd, hm, os, rfl, p7, t7, nm7, l64, fun hos H8 nm8 f8 => ?_, fun er her d H' f' hd' => kq er (by rw [hpd, her]) d H' (eA.trans (ex_fr eR hf2 f')) hd'⟩
      rw [hos] at hpd
      have hpd : progD (newR :: copyR :: bs) os rs = rowsD (newR :: copyR :: bs) os rs := hpd
      have eR8 := ex_fr eR hf2 f8
      have p8 := f8 _ _ p7 (p_off p7 nm7)
      have bl8 : BlAt A.Blocks H8 x xdx op kl ar en (kdsOf rs) 0 := bl_fr ⟨as', bl7⟩ nm7 nek neh f8
      generalize hHA : upd (upd H0 to (.tup (os.map V.str))) r (.tup (as.map V.ref)) = HA at eA eR8 hfr hbR
      have rA : HA r = some (.tup (as.map V.ref)) := by rw [← hHA]; exact upd_same
      have tA : HA to = some (.tup (os.map V.str)) := by rw [← hHA, upd_ne nrt.symm]; exact upd_same
      refine ⟨_, rfl, p, dx, _, rfl, p8, rfl, p, dx, b, to, x, r, kd, hm, ss, as, newR :: copyR :: bs, os, rs, xdx, op, kl, ar, en, HA, rfl, eR8, hfr, p8, hbR, rA, hal.imp fun _ _ z => RwAt.mono eA z, bl8, nm8, nek, neh, hwf, l48, (outs_ok hos).2, hnd, fun hrs H9 bl9 nm9 e9 p9 => ?_, fun er her => Rz.of eA (kq er (by rw [hpd, her]))⟩
      have hpn : progD (newR :: copyR :: bs) os rs = none := hpd.trans hrs
      have ok := pg_of hon hwf hnd hpn
      have e09 := eA.trans e9
      have r9 := e9 _ _ rA
      have t9 := e9 _ _ tA
      refine ⟨_, rfl, p, _, dx, _, _, rfl, p9, T.cl_Program, T.na_Program_book, rfl, _, rfl, p, _, dx, _, _, rfl, p9, T.cl_Program, T.na_Program_outs, rfl, _, rfl, p, _, dx, _, _, rfl, p9, T.cl_Program, T.na_Program__rows, rfl, b, to, r, ss, as, bs, os, rs, rfl, hb.mono e09, gb, l12, t9, ok.on, ok.ol, r9, hal.imp (fun _ _ z => RwAt.mono e09 z), ok.wf, l48, fun Hx ex => ⟨_, rfl, p, _, dx, _, rfl, ex _ _ p9, T.cl_Program, T.na_Program__text, by show 6 < 1000; decide, ?_⟩⟩
      have e0x := e09.trans ex
      obtain ⟨as2, blx⟩ := bl9.mono ex
      have nmx := nm9.mono ex
      have ed : Ex (L2.del Hx p) (upd Hx p (.ins A.Program dx (prT bs os rs b to x r kd hm))) := ex_delp
      have bly := (bl_del blx (ex _ _ p9) (show (6 : Nat) ≠ 5 by decide)).mono ed
      have e1y : Ex H0 (upd Hx p (.ins A.Program dx (prT bs os rs b to x r kd hm))) := e0x.mut hp0
      have kp : ∀ {a : Addr} {o : HO}, Hx a = some o → (∀ fs, o ≠ .ins A.Program dx fs) → upd Hx p (.ins A.Program dx (prT bs os rs b to x r kd hm)) a = some o := fun {a o} ha no => by
        rw [upd_ne (fun z => by rw [z, ex _ _ p9] at ha; exact no _ (Option.some.inj ha).symm)]
        exact ha
      exact k hpn _ dx b to x r kd hm e1y ⟨ok, ⟨gb, l12⟩, dx, b, to, x, r, kd, hm, ss, as, xdx, op, kl, ar, en, upd_same, hb.mono e1y, kp (ex _ _ t9) (fun _ z => by cases z), kp (ex _ _ r9) (fun _ z => by cases z), hal.imp (fun _ _ z => RwAt.mono e1y z), ⟨kp nmx.k (fun _ z => by cases z), kp nmx.h (fun _ z => by cases z), nmx.ne⟩, as2, bly⟩ upd_same hkd0 hhm0
    · have lal : as.length = rs.length := hal.len
      obtain ⟨u, hu⟩ := T.co_Program_MOST_ROWS
      obtain ⟨u8, hu8⟩ := T.co_Program_MOST_DEPTH
      refine ⟨_, rfl, rl, _, rfl, .inr (SqT.of (e0 _ _ hrl)), _, rfl, p, _, dx, _, _, u, rfl, hp, T.cl_Program, hu, rfl, _, _, rfl, rfl, _, rfl, ite2 (fun z => ?_) (fun z => ?_)⟩
      · have z : (48 : Int) < (((as.map V.ref).length : Nat) : Int) := of_decide_eq_true z
        rw [List.length_map] at z
        exact ⟨(by show 1 ≤ 1000; decide), raise_what T.ex_TooLarge rfl fun d H' e' hd' => kq (.lg "rows") (by unfold progD; rw [if_pos (by omega)]) d H' (e0.trans e') hd'⟩
      have l48 : rs.length ≤ 48 := by
        have z : ¬ (48 : Int) < (((as.map V.ref).length : Nat) : Int) := fun y => z (decide_eq_true y)
        rw [List.length_map] at z
        omega
      have hpd : progD (newR :: copyR :: bs) os rs = (match outsD os with
        | some er => some er
        | none => rowsD (newR :: copyR :: bs) os rs) := (if_neg (by omega))
      refine ⟨_, rfl, _, rfl, p, _, dx, _, rfl, hp, T.cl_Program, T.na_Program_book, by decide, ?_⟩
      show tSeq _ _ _ _ (upd H p (.ins A.Program dx [("book", .ref b)]))
      have e1 : Ex H0 (upd H p (.ins A.Program dx [("book", .ref b)])) := e0.mut hp0
      have p1 : upd H p (.ins A.Program dx [("book", .ref b)]) p = some (.ins A.Program dx [("book", .ref b)]) := upd_same
      generalize upd H p (.ins A.Program dx [("book", .ref b)]) = H1 at e1 p1 ⊢
      refine ⟨_, rfl, o, _, rfl, .inl ⟨SqL.of (e1 _ _ ho), fun to hto => ⟨_, rfl, p, _, dx, _, rfl, (Ex.new hto) _ _ p1, T.cl_Program, T.na_Program_outs, by show 1 < 1000; decide, ?_⟩⟩⟩
      have ntp : to ≠ p := (ne_of_none p1 hto).symm
      have hto0 : H0 to = none := e1.free' hto
      show tSeq _ _ _ _ (upd (upd H1 to (.tup (os.map V.str))) p (.ins A.Program dx [("book", .ref b), ("outs", .ref to)]))
      have e2 : Ex H0 (upd (upd H1 to (.tup (os.map V.str))) p (.ins A.Program dx [("book", .ref b), ("outs", .ref to)])) := (e1.trans (Ex.new hto)).mut hp0
      have t2 : upd (upd H1 to (.tup (os.map V.str))) p (.ins A.Program dx [("book", .ref b), ("outs", .ref to)]) to = some (.tup (os.map V.str)) := by rw [upd_ne ntp]; exact upd_same
      have p2 : upd (upd H1 to (.tup (os.map V.str))) p (.ins A.Program dx [("book", .ref b), ("outs", .ref to)]) p = some (.ins A.Program dx [("book", .ref b), ("outs", .ref to)]) := upd_same
      generalize upd (upd H1 to (.tup (os.map V.str))) p (.ins A.Program dx [("book", .ref b), ("outs", .ref to)]) = H2 at e2 t2 p2 ⊢
      refine ⟨_, rfl, p, _, dx, _, _, u8, rfl, p2, T.cl_Program, hu8, rfl, fun x xdx hx hxd nx => ?_⟩
      refine ⟨x, xdx, rfl, upd_same, fun H3 op kl ar en as' e3 bl3 ho3 hk3 ha3 hn3 => ⟨rfl, ?_⟩⟩
      have e23 : Ex H2 H3 := fun a y h => e3 a y (by
        have n1 := ne_of_none h hx
        have n2 := ne_of_none h hxd
        rw [L2.del_ne n1, upd_ne n1, upd_ne n2]
        exact h)
      have e3' := e2.trans e23
      have p3 := e23 _ _ p2
      have t3 := e23 _ _ t2
      have D3 := bl_del bl3 p3 (show (2 : Nat) ≠ 5 by decide)
      have dp3 : L2.del H3 p p = none := L2.del_same
      have dt3 : L2.del H3 p to = some (.tup (os.map V.str)) := del_at t3 ntp
      refine ⟨_, rfl, p, _, dx, _, rfl, p3, T.cl_Program, T.na_Program_blocks, by show 2 < 1000; decide, ?_⟩
      show tSeq _ _ _ _ (upd H3 p (.ins A.Program dx [("book", .ref b), ("outs", .ref to), ("blocks", .ref x)]))
      have e4 : Ex H0 (upd H3 p (.ins A.Program dx [("book", .ref b), ("outs", .ref to), ("blocks", .ref x)])) := e3'.mut hp0
      have d4 : Ex (L2.del H3 p) (upd H3 p (.ins A.Program dx [("book", .ref b), ("outs", .ref to), ("blocks", .ref x)])) := ex_delp
      have p4 : upd H3 p (.ins A.Program dx [("book", .ref b), ("outs", .ref to), ("blocks", .ref x)]) p = some (.ins A.Program dx [("book", .ref b), ("outs", .ref to), ("blocks", .ref x)]) := upd_same
      generalize upd H3 p (.ins A.Program dx [("book", .ref b), ("outs", .ref to), ("blocks", .ref x)]) = H4 at e4 d4 p4 ⊢
      refine ⟨_, rfl, rl, _, rfl, .inr ⟨SqT.of (e4 _ _ hrl), _, rfl, p, _, dx, _, rfl, p4, T.cl_Program, T.na_Program__rows, by show 3 < 1000; decide, ?_⟩⟩
      have nrp : rl ≠ p := ne_of_none hrl hp0
      show tSeq _ _ _ _ (upd H4 p (.ins A.Program dx [("book", .ref b), ("outs", .ref to), ("blocks", .ref x), ("_rows", .ref rl)]))
      have e5 : Ex H0 (upd H4 p (.ins A.Program dx [("book", .ref b), ("outs", .ref to), ("blocks", .ref x), ("_rows", .ref rl)])) := e4.mut hp0
      have d5 : Ex (L2.del H3 p) (upd H4 p (.ins A.Program dx [("book", .ref b), ("outs", .ref to), ("blocks", .ref x), ("_rows", .ref rl)])) := d4.mut dp3
      have p5 : upd H4 p (.ins A.Program dx [("book", .ref b), ("outs", .ref to), ("blocks", .ref x), ("_rows", .ref rl)]) p = some (.ins A.Program dx [("book", .ref b), ("outs", .ref to), ("blocks", .ref x), ("_rows", .ref rl)]) := upd_same
      have r5 : upd H4 p (.ins A.Program dx [("book", .ref b), ("outs", .ref to), ("blocks", .ref x), ("_rows", .ref rl)]) rl = some (.tup (as.map V.ref)) := by rw [upd_ne nrp]; exact e4 _ _ hrl
      generalize upd H4 p (.ins A.Program dx [("book", .ref b), ("outs", .ref to), ("blocks", .ref x), ("_rows", .ref rl)]) = H5 at e5 d5 p5 r5 ⊢
      intro kd hkd
      refine ⟨_, rfl, p, _, dx, _, rfl, (Ex.new hkd) _ _ p5, T.cl_Program, T.na_Program__kinds, by show 4 < 1000; decide, ?_⟩
      show tSeq _ _ _ _ (upd (upd H5 kd (.dK [])) p (.ins A.Program dx [("book", .ref b), ("outs", .ref to), ("blocks", .ref x), ("_rows", .ref rl), ("_kinds", .ref kd)]))
      have e6 : Ex H0 (upd (upd H5 kd (.dK [])) p (.ins A.Program dx [("book", .ref b), ("outs", .ref to), ("blocks", .ref x), ("_rows", .ref rl), ("_kinds", .ref kd)])) := (e5.trans (Ex.new hkd)).mut hp0
      have d6 : Ex (L2.del H3 p) (upd (upd H5 kd (.dK [])) p (.ins A.Program dx [("book", .ref b), ("outs", .ref to), ("blocks", .ref x), ("_rows", .ref rl), ("_kinds", .ref kd)])) := (d5.trans (Ex.new hkd)).mut dp3
      have p6 : upd (upd H5 kd (.dK [])) p (.ins A.Program dx [("book", .ref b), ("outs", .ref to), ("blocks", .ref x), ("_rows", .ref rl), ("_kinds", .ref kd)]) p = some (.ins A.Program dx [("book", .ref b), ("outs", .ref to), ("blocks", .ref x), ("_rows", .ref rl), ("_kinds", .ref kd)]) := upd_same
      have r6 : upd (upd H5 kd (.dK [])) p (.ins A.Program dx [("book", .ref b), ("outs", .ref to), ("blocks", .ref x), ("_rows", .ref rl), ("_kinds", .ref kd)]) rl = some (.tup (as.map V.ref)) := by rw [upd_ne nrp]; exact Ex.new hkd _ _ r5
      have nkp : kd ≠ p := (ne_of_none p5 hkd).symm
      have hkd0 : H0 kd = none := e5.free' hkd
      have k6 : upd (upd H5 kd (.dK [])) p (.ins A.Program dx [("book", .ref b), ("outs", .ref to), ("blocks", .ref x), ("_rows", .ref rl), ("_kinds", .ref kd)]) kd = some (.dK []) := by rw [upd_ne nkp]; exact upd_same
      have nek : en ≠ kd := ne_of_none (d5 _ _ D3.end_) hkd
      generalize upd (upd H5 kd (.dK [])) p (.ins A.Program dx [("book", .ref b), ("outs", .ref to), ("blocks", .ref x), ("_rows", .ref rl), ("_kinds", .ref kd)]) = H6 at e6 d6 p6 r6 k6 ⊢
      intro hm hhm
      refine ⟨_, rfl, p, _, dx, _, rfl, (Ex.new hhm) _ _ p6, T.cl_Program, T.na_Program__homes, by show 5 < 1000; decide, ?_⟩
      show tSeq _ _ _ _ (upd (upd H6 hm (.dK [])) p (.ins A.Program dx (prE b to x rl kd hm)))
      have e7 : Ex H0 (upd (upd H6 hm (.dK [])) p (.ins A.Program dx (prE b to x rl kd hm))) := (e6.trans (Ex.new hhm)).mut hp0
      have d7 : Ex (L2.del H3 p) (upd (upd H6 hm (.dK [])) p (.ins A.Program dx (prE b to x rl kd hm))) := (d6.trans (Ex.new hhm)).mut dp3
      have p7 : upd (upd H6 hm (.dK [])) p (.ins A.Program dx (prE b to x rl kd hm)) p = some (.ins A.Program dx (prE b to x rl kd hm)) := upd_same
      have r7 : upd (upd H6 hm (.dK [])) p (.ins A.Program dx (prE b to x rl kd hm)) rl = some (.tup (as.map V.ref)) := by rw [upd_ne nrp]; exact Ex.new hhm _ _ r6
      have nhp : hm ≠ p := (ne_of_none p6 hhm).symm
      have hhm0 : H0 hm = none := e6.free' hhm
      have neh : en ≠ hm := ne_of_none (d6 _ _ D3.end_) hhm
      have nm7 : NmAt (upd (upd H6 hm (.dK [])) p (.ins A.Program dx (prE b to x rl kd hm))) kd hm [] := ⟨by rw [upd_ne nkp]; exact Ex.new hhm _ _ k6, by rw [upd_ne nhp]; exact upd_same, ne_of_none k6 hhm⟩
      generalize upd (upd H6 hm (.dK [])) p (.ins A.Program dx (prE b to x rl kd hm)) = H7 at e7 d7 p7 r7 nm7 ⊢
      have t7 := d7 _ _ dt3
      have bl7 := D3.mono d7
      have nrt : rl ≠ to := ne_of_none (e1 _ _ hrl) hto
      have eX : Ex H2 (upd (upd H2 xdx (.own x)) x (.ins A.Blocks xdx [])) := (Ex.new hxd).trans (Ex.new (by rw [upd_ne nx.symm]; exact hx))
      have eA : Ex H0 (upd H0 to (.tup (os.map V.str))) := Ex.new hto0
      have eR : Ex (upd H0 to (.tup (os.map V.str))) H7 := fun a y h => by
        by_cases n2 : a = to
        · subst n2
          rw [upd_same] at h
          rw [← h]; exact t7
        · rw [upd_ne n2] at h
          exact e7 _ _ h
      have nn : ∀ {a : Addr} {o : HO}, H7 a = some o → (∀ ys, o ≠ .tup ys) → H0 a = none → (upd H0 to (.tup (os.map V.str))) a = none := fun {a o} h no h0 => by
        rw [upd_ne (fun z => by rw [z, t7] at h; exact no _ (Option.some.inj h).symm)]
        exact h0
      have hbR := hb.mono eA
      have hfr : ∀ a ∈ [op, kl, ar, en, kd, hm], (upd H0 to (.tup (os.map V.str))) a = none := fun a m => by
        simp only [List.mem_cons, List.not_mem_nil, or_false] at m
        rcases m with rfl | rfl | rfl | rfl | rfl | rfl
        · exact nn bl7.opn (fun _ z => by cases z) ((e2.trans eX).free' ho3)
        · exact nn bl7.kin (fun _ z => by cases z) ((e2.trans eX).free' hk3)
        · exact nn bl7.aro (fun _ z => by cases z) ((e2.trans eX).free' ha3)
        · exact nn bl7.end_ (fun _ z => by cases z) ((e2.trans eX).free' hn3)
        · exact nn nm7.k (fun _ z => by cases z) hkd0
        · exact nn nm7.h (fun _ z => by cases z) hhm0
      have hf2 : ∀ a ∈ [kd, hm], (upd H0 to (.tup (os.map V.str))) a = none := fun a m => hfr a (by simp only [List.mem_cons, List.not_mem_nil, or_false] at m ⊢; rcases m with h | h <;> simp [h])
      refine ⟨_, rfl, p, dx, _, rfl, p7, rfl, p, dx, b, to, x, rl, kd, hm, os, rfl, p7, t7, nm7, l64, fun hos H8 nm8 f8 => ?_, fun er her d H' f' hd' => kq er (by rw [hpd, her]) d H' (eA.trans (ex_fr eR hf2 f')) hd'⟩
      rw [hos] at hpd
      have hpd : progD (newR :: copyR :: bs) os rs = rowsD (newR :: copyR :: bs) os rs := hpd
      have eR8 := ex_fr eR hf2 f8
      have p8 := f8 _ _ p7 (p_off p7 nm7)
      have bl8 : BlAt A.Blocks H8 x xdx op kl ar en (kdsOf rs) 0 := bl_fr ⟨as', bl7⟩ nm7 nek neh f8
      generalize hHA : upd H0 to (.tup (os.map V.str)) = HA at eA eR8 hfr hbR
      have rA : HA rl = some (.tup (as.map V.ref)) := eA _ _ hrl
      have tA : HA to = some (.tup (os.map V.str)) := by rw [← hHA]; exact upd_same
      refine ⟨_, rfl, p, dx, _, rfl, p8, rfl, p, dx, b, to, x, rl, kd, hm, ss, as, newR :: copyR :: bs, os, rs, xdx, op, kl, ar, en, HA, rfl, eR8, hfr, p8, hbR, rA, hal.imp fun _ _ z => RwAt.mono eA z, bl8, nm8, nek, neh, hwf, l48, (outs_ok hos).2, hnd, fun hrs H9 bl9 nm9 e9 p9 => ?_, fun er her => Rz.of eA (kq er (by rw [hpd, her]))⟩
      have hpn : progD (newR :: copyR :: bs) os rs = none := hpd.trans hrs
      have ok := pg_of hon hwf hnd hpn
      have e09 := eA.trans e9
      have r9 := e9 _ _ rA
      have t9 := e9 _ _ tA
      refine ⟨_, rfl, p, _, dx, _, _, rfl, p9, T.cl_Program, T.na_Program_book, rfl, _, rfl, p, _, dx, _, _, rfl, p9, T.cl_Program, T.na_Program_outs, rfl, _, rfl, p, _, dx, _, _, rfl, p9, T.cl_Program, T.na_Program__rows, rfl, b, to, rl, ss, as, bs, os, rs, rfl, hb.mono e09, gb, l12, t9, ok.on, ok.ol, r9, hal.imp (fun _ _ z => RwAt.mono e09 z), ok.wf, l48, fun Hx ex => ⟨_, rfl, p, _, dx, _, rfl, ex _ _ p9, T.cl_Program, T.na_Program__text, by show 6 < 1000; decide, ?_⟩⟩
      have e0x := e09.trans ex
      obtain ⟨as2, blx⟩ := bl9.mono ex
      have nmx := nm9.mono ex
      have ed : Ex (L2.del Hx p) (upd Hx p (.ins A.Program dx (prT bs os rs b to x rl kd hm))) := ex_delp
      have bly := (bl_del blx (ex _ _ p9) (show (6 : Nat) ≠ 5 by decide)).mono ed
      have e1y : Ex H0 (upd Hx p (.ins A.Program dx (prT bs os rs b to x rl kd hm))) := e0x.mut hp0
      have kp : ∀ {a : Addr} {o : HO}, Hx a = some o → (∀ fs, o ≠ .ins A.Program dx fs) → upd Hx p (.ins A.Program dx (prT bs os rs b to x rl kd hm)) a = some o := fun {a o} ha no => by
        rw [upd_ne (fun z => by rw [z, ex _ _ p9] at ha; exact no _ (Option.some.inj ha).symm)]
        exact ha
      exact k hpn _ dx b to x rl kd hm e1y ⟨ok, ⟨gb, l12⟩, dx, b, to, x, rl, kd, hm, ss, as, xdx, op, kl, ar, en, upd_same, hb.mono e1y, kp (ex _ _ t9) (fun _ z => by cases z), kp (ex _ _ r9) (fun _ z => by cases z), hal.imp (fun _ _ z => RwAt.mono e1y z), ⟨kp nmx.k (fun _ z => by cases z), kp nmx.h (fun _ z => by cases z), nmx.ne⟩, as2, bly⟩ upd_same hkd0 hhm0
/-! ### reading a program; what it tells -/
abbrev PrA (K : PySem.W.Frag) (A : Adr) := PrAt K A.Program A.Book A.Signature A.Row A.Expression A.Blocks
theorem due_go : ∀ (rs : List Rw) (ks : List Str), (ks ++ rs.map (·.1)).Nodup → dueGo ks rs = (("book" : Str), ("" : Str))
  | [], _, _ => rfl
  | r :: t, ks, h => by
    unfold dueGo
    rw [List.map_cons] at h
    have h1 : r.1 ∉ ks := fun m => (List.nodup_append.mp h).2.2 _ m _ List.mem_cons_self rfl
    rw [if_neg h1]
    exact due_go t (ks ++ [r.1]) (by rw [List.append_assoc]; exact h)
theorem nc_nodup {bs : List Rw} (nd : (bs.map (·.1)).Nodup) (h : ∀ b ∈ bs, good b ∧ b.1 ≠ "new" ∧ b.1 ≠ "copy") : ((newR :: copyR :: bs).map (·.1)).Nodup := by
  show ((["new", "copy"] : List Str) ++ bs.map (·.1)).Nodup
  rw [List.nodup_append]
  refine ⟨by decide +kernel, nd, fun a ha b hb e => ?_⟩
  obtain ⟨r, hr, rfl⟩ := List.mem_map.mp hb
  simp only [List.mem_cons, List.not_mem_nil, or_false] at ha
  rcases ha with rfl | rfl
  · exact (h r hr).2.1 e.symm
  · exact (h r hr).2.2 e.symm
theorem due_okB {bs : List Rw} (nd : (bs.map (·.1)).Nodup) (h : ∀ b ∈ bs, good b ∧ b.1 ≠ "new" ∧ b.1 ≠ "copy") (l : bs.length ≤ 12) (TL DF : Addr) : errDue (dueOf bs) TL DF = none := by
  have hd : dueOf bs = (("book" : Str), ("" : Str)) := by
    unfold dueOf
    rw [if_neg (by omega)]
    exact due_go bs _ (nc_nodup nd h)
  rw [hd]
  unfold errDue
  rw [if_neg (by decide +kernel), if_neg (by decide +kernel)]
theorem all2_of {α β : Type} {R : α → β → Prop} {as : List α} {bs : List β} (h : Al2 R as bs) : All2 R as bs := by
  induction h with
  | nil => exact .nil
  | cons h1 _ ih => exact .cons h1 ih
/-- the program's own dicts were not there before -/
def PrNew (A : Adr) (H H' : Hp) (p : Addr) (bs : List Rw) (os : List Str) (rs : List Rwd) : Prop := ∃ dx b o x r kd hm, H' p = some (.ins A.Program dx (prT bs os rs b o x r kd hm)) ∧ H kd = none ∧ H hm = none
def spPrRead (K : PySem.W.Frag) (A : Adr) : Sp := fun vs H Q Er0 => ∃ (bs : List Rw) (os : List Str) (rs : List Rwd), vs = [.ref A.Program, .str (pT bs os rs)] ∧ (∀ o ∈ os, okS o = true) ∧ os.length ≤ 18 ∧ (∀ r ∈ rs, WfRw r) ∧ rs.length ≤ 63 ∧ (∀ b ∈ bs, good b ∧ b.1 ≠ "new" ∧ b.1 ≠ "copy") ∧ bs.length ≤ 12 ∧ (bs.map (·.1)).Nodup ∧ (progD (newR :: copyR :: bs) os rs = none → ∀ p H', Ex H H' → PrA K A H' p bs os rs → PrNew A H H' p bs os rs → Q (.ref p) H') ∧ ∀ er, progD (newR :: copyR :: bs) os rs = some er → Rz A Er0 H er
theorem ok_pr_read (T : Tx0 w K mg A) : FnOk P w K mg base (L2.CX P w) 18 A.pr_read A.d_pr_read p_pr_read (spPrRead K A) := by
  refine T.F_pr_read.okX sc_pr_read (fun vs H Q E h => ?_) (fun cdv Ar outer s H vs Q E hr h => ?_)
  · obtain ⟨bs, os, rs, rfl, _⟩ := h
    rfl
  · obtain ⟨bs, os, rs, rfl, hon, l18, hwf, l63, gb, l12, nd, k, kq⟩ := h
    refine ⟨_, (pss_cons (ps_asg (pe_call (ok_read_lines T) (hr.mono (by decide)) (by rfl) T.g_read_lines T.F_read_lines.kp T.b_read_lines .nil pass0 (pa_cons (pv 1) pa_nil)) (pg_tup (n := 3) rfl (pgs_cons (pg_name (i := 2) sc_pr_read.nd rfl (Or.inl rfl)) (pgs_cons (pg_name (i := 3) sc_pr_read.nd rfl (Or.inl rfl)) (pgs_cons (pg_name (i := 4) sc_pr_read.nd rfl (Or.inl rfl)) pgs_nil)))))
      (pss_one (ps_ret (UL.pe_makeL (i := 0) T.mk_Program (ok_pr_init T) (hr.mono (by decide)) rfl (Or.inl rfl) T.b_pr_init .nil (UL.passX (takes_of rfl rfl rfl rfl)) (pa_cons (UL.pe_makeStar T.mk_Book (ok_book_init T) (hr.mono (by decide)) (by rfl) T.g_Book (UL.passX (takes_of rfl rfl rfl rfl)) (pv 2)) (pa_cons (pv 3) (pa_cons (pv 4) pa_nil))))))), ?_⟩
    refine ⟨_, rfl, bs, os, rs, rfl, fun b hb => (gb b hb).1, l12, hon, l18, hwf, l63, fun pT s o r ss as H1 e1 hpT hs hsg ho hr' hal => ⟨pT, _, rfl, SqT.of hpT, rfl, _, _, rfl, _, _, rfl, _, _, rfl, rfl, ?_⟩⟩
    have exm : ∀ {H : Hp} {y dy : Addr} {o1 o2 : HO}, H y = none → H dy = none → dy ≠ y → Ex H (upd (upd H dy o1) y o2) := fun h1 h2 n => (Ex.new h2).trans (Ex.new (by rw [upd_ne n.symm]; exact h1))
    refine ⟨rfl, _, rfl, s, _, rfl, .inr (SqL.of hs), fun xb xbdx hxb hxbd nb => ?_⟩
    have eb := exm (o1 := .own xb) (o2 := .ins A.Book xbdx []) hxb hxbd nb
    have xb1 : upd (upd H1 xbdx (.own xb)) xb (.ins A.Book xbdx []) xb = some (.ins A.Book xbdx []) := upd_same
    have hsg2 := hsg.imp fun _ _ z => SigR.mono eb z
    generalize upd (upd H1 xbdx (.own xb)) xb (.ins A.Book xbdx []) = H2 at eb xb1 hsg2 ⊢
    refine ⟨.ref xb, ss.map V.ref, rfl, (by rw [List.length_map, hsg.len]; omega), fun tp htp => ?_⟩
    have et := Ex.new (o := .tup (ss.map V.ref)) htp
    refine ⟨xb, xbdx, tp, ss, bs, rfl, et _ _ xb1, upd_same, ?_, (fun b hb => (gb b hb).1), by omega, fun _ H3 s1 s2 e3 hB => ⟨rfl, ?_⟩, fun X z hz => ?_⟩
    · exact all2_of (hsg2.imp fun _ _ z => SigR.mono et z)
    · have e13 : Ex H1 H3 := fun a y h => e3 a y (by
        rw [L2.del_ne (ne_of_none h hxb)]
        exact et _ _ (eb _ _ h))
      refine ⟨_, rfl, _, rfl, fun p dx hp hdx np => ?_⟩
      refine ⟨p, dx, xb, o, r, _, as, bs, os, rs, H3, rfl, exm hp hdx np, hp, upd_same, hB, e13 _ _ ho, .inl (e13 _ _ hr'), hal.imp fun _ _ z => RwAt.mono e13 z, hon, by omega, hwf, by omega, nc_nodup nd gb, gb, l12, fun hpn H4 dx' b' o' x' r' kd' hm' e4 hP hPf hkd hhm => ⟨rfl, k hpn p H4 ((e1.trans e13).trans e4) hP ⟨dx', b', o', x', r', kd', hm', hPf, (e1.trans e13).free' hkd, (e1.trans e13).free' hhm⟩⟩, fun er her => Rz.of (e1.trans e13) (kq er her)⟩
    · rw [due_okB nd gb l12] at hz
      cases hz
def spPrLen (K : PySem.W.Frag) (A : Adr) : Sp := fun vs H Q _ => ∃ (p : Addr) (bs : List Rw) (os : List Str) (rs : List Rwd), vs = [.ref p] ∧ PrA K A H p bs os rs ∧ Q (.int ((rs.length : Nat) : Int)) H
theorem ok_pr_len (T : Tx0 w K mg A) : FnOk P w K mg base CX0 1 A.pr_len A.d_pr_len p_pr_len (spPrLen K A) := by
  refine T.F_pr_len.ok sc_pr_len (fun vs H Q E h => ?_) (fun cdv Ar outer s H vs Q E hr h => ?_)
  · obtain ⟨p, bs, os, rs, rfl, _⟩ := h
    rfl
  · obtain ⟨p, bs, os, rs, rfl, ⟨ok, gb, dx, b, o, x, r, kd, hm, ss, as, xdx, op, kl, ar, en, h1, h2, h3, h4, h5, h6, h7⟩, k⟩ := h
    refine ⟨_, (pss_one (ps_ret (pe_callB call_len_seq (by rfl) T.m_len PySem.boot_len (pa_cons (pe_fld (pv 0) rfl) pa_nil)))), ?_⟩
    have k : Q (.int (((as.map V.ref).length : Nat) : Int)) H := by rw [List.length_map, h5.len]; exact k
    exact ⟨_, rfl, p, _, dx, _, _, rfl, h1, T.cl_Program, T.na_Program__rows, rfl, r, _, rfl, .inr (SqT.of h4), k⟩
def spPrText (K : PySem.W.Frag) (A : Adr) : Sp := fun vs H Q _ => ∃ (p : Addr) (bs : List Rw) (os : List Str) (rs : List Rwd), vs = [.ref p] ∧ PrA K A H p bs os rs ∧ Q (.str (pT bs os rs)) H
theorem ok_pr_text (T : Tx0 w K mg A) : FnOk P w K mg base CX0 1 A.pr_text A.d_pr_text p_pr_text (spPrText K A) := by
  refine T.F_pr_text.ok sc_pr_text (fun vs H Q E h => ?_) (fun cdv Ar outer s H vs Q E hr h => ?_)
  · obtain ⟨p, bs, os, rs, rfl, _⟩ := h
    rfl
  · obtain ⟨p, bs, os, rs, rfl, ⟨ok, gb, dx, b, o, x, r, kd, hm, ss, as, xdx, op, kl, ar, en, h1, h2, h3, h4, h5, h6, h7⟩, k⟩ := h
    refine ⟨_, (pss_one (ps_ret (pe_fld (pv 0) rfl))), ?_⟩
    exact ⟨_, rfl, p, _, dx, _, _, rfl, h1, T.cl_Program, T.na_Program__text, rfl, k⟩
end
end K24

set_option Elab.async false
set_option linter.all false
set_option maxRecDepth 100000
namespace K24
open PySem PySem.Spec PyProof.Rows L2 Evl TL UL StX
section
variable {P : Program} {w : World} {K : PySem.W.Frag} {mg : Str → Option Value} {base : Heap} {A : Adr}
/-! ### sizes -/
theorem nats_of {b : Nat} : ∀ {xs : List V}, (∀ x ∈ xs, ∃ n : Nat, x = V.int (n : Int) ∧ n ≤ b) → ∃ ss : List Nat, xs = ss.map (fun n : Nat => V.int (n : Int)) ∧ ∀ n ∈ ss, n ≤ b
  | [], _ => ⟨[], rfl, fun _ h => by cases h⟩
  | x :: r, h => by
    obtain ⟨n, rfl, hn⟩ := h x List.mem_cons_self
    obtain ⟨ss, rfl, hs⟩ := nats_of (xs := r) fun y hy => h y (List.mem_cons_of_mem _ hy)
    exact ⟨n :: ss, rfl, fun m hm => by
      rcases List.mem_cons.mp hm with rfl | hm
      · exact hn
      · exact hs m hm⟩
def spSizes : Sp := fun vs H Q _ => ∃ (d : Addr) (m f : Int), vs = [.ref d, .int m, .int f] ∧ H d = some (DrO d) ∧ 0 ≤ f ∧ f ≤ 18 ∧ ∀ (ss : List Nat) a H', ss.length ≤ 51 → (∀ n ∈ ss, n ≤ 20) → Ex H H' → H' a = some (.lst (ss.map fun n : Nat => V.int (n : Int))) → Q (.ref a) H'
theorem ok_sizes (T : Tx0 w K mg A) : FnOk P w K mg base CX0 3 A.sizes A.d_sizes p_sizes spSizes := by
  refine T.F_sizes.ok sc_sizes (fun vs H Q E h => ?_) (fun cdv Ar outer s H vs Q E hr h => ?_)
  · obtain ⟨d, m, f, rfl, _⟩ := h
    rfl
  · obtain ⟨d, m, f, rfl, hd, f0, f1, k⟩ := h
    refine ⟨_, (pss_cons (ps_if (pt_cmpR op_eq (pv 1) pe_int (nomark _)) (pss_one (ps_ret (pe_lc (own := [("_law_k", 4)]) (g := gName 4) (tt := tYes) rfl sc_sizes.nd (pi_range1 (by rfl) T.m_range (pa_cons (pe_op op_add pe_int (pe_call (ok_take T) (hr.mono (by decide)) (by rfl) T.g_take T.F_take.kp T.b_take .nil pass0 (pa_cons (pv 0) (pa_cons pe_int pa_nil)))) pa_nil)) (blkOk_by (N := n_sizes) (sc := defScope s_sizes) (by decide +kernel)) (fun _ _ _ _ _ => pg_name (i := 4) sc_sizes.nd rfl (Or.inl rfl)) (fun _ _ _ _ _ => pts_nil) (fun _ _ _ _ _ => pe_int)))) pss_nil)
      (pss_cons (ps_if (pt_cmpR op_eq (pv 1) pe_int (nomark _)) (pss_one (ps_ret (pe_lc (own := [("_law_k", 4)]) (g := gName 4) (tt := tYes) rfl sc_sizes.nd (pi_range1 (by rfl) T.m_range (pa_cons (pe_op op_add (pe_callB (call_max2 rfl) (by rfl) T.m_max (by decide +kernel) (pa_cons pe_int (pa_cons (pe_op op_sub pe_int (pv 2)) pa_nil))) (pe_call (ok_take T) (hr.mono (by decide)) (by rfl) T.g_take T.F_take.kp T.b_take .nil pass0 (pa_cons (pv 0) (pa_cons pe_int pa_nil)))) pa_nil)) (blkOk_by (N := n_sizes) (sc := defScope s_sizes) (by decide +kernel)) (fun _ _ _ _ _ => pg_name (i := 4) sc_sizes.nd rfl (Or.inl rfl)) (fun _ _ _ _ _ => pts_nil) (fun _ _ _ _ _ => pe_int)))) pss_nil)
      (pss_cons (ps_if (pt_cmpR op_eq (pv 1) pe_int (nomark _)) (pss_cons (ps_set (i := 3) sc_sizes.nd rfl (Or.inl rfl) (pe_lst (pa_cons pe_int (pa_cons pe_int (pa_cons pe_int (pa_cons (pe_op op_add pe_int (pe_call (ok_take T) (hr.mono (by decide)) (by rfl) T.g_take T.F_take.kp T.b_take .nil pass0 (pa_cons (pv 0) (pa_cons pe_int pa_nil)))) (pa_cons (pe_op op_add pe_int (pe_call (ok_take T) (hr.mono (by decide)) (by rfl) T.g_take T.F_take.kp T.b_take .nil pass0 (pa_cons (pv 0) (pa_cons pe_int pa_nil)))) pa_nil)))))))
        (pss_one (ps_ret (pe_op op_cat (pv 3) (pe_lst (pa_cons (pe_op op_add pe_int (pe_call (ok_take T) (hr.mono (by decide)) (by rfl) T.g_take T.F_take.kp T.b_take .nil pass0 (pa_cons (pv 0) (pa_cons pe_int pa_nil)))) (pa_cons (pe_op op_add pe_int (pe_call (ok_take T) (hr.mono (by decide)) (by rfl) T.g_take T.F_take.kp T.b_take .nil pass0 (pa_cons (pv 0) (pa_cons pe_int pa_nil)))) pa_nil))))))) pss_nil)
      (pss_cons (ps_if (pt_cmpR op_eq (pv 1) pe_int (nomark _)) (pss_one (ps_ret (pe_lc (own := [("_law_k", 4)]) (g := gName 4) (tt := tYes) rfl sc_sizes.nd (pi_range1 (by rfl) T.m_range (pa_cons (pe_op op_add pe_int (pe_call (ok_take T) (hr.mono (by decide)) (by rfl) T.g_take T.F_take.kp T.b_take .nil pass0 (pa_cons (pv 0) (pa_cons pe_int pa_nil)))) pa_nil)) (blkOk_by (N := n_sizes) (sc := defScope s_sizes) (by decide +kernel)) (fun _ _ _ _ _ => pg_name (i := 4) sc_sizes.nd rfl (Or.inl rfl)) (fun _ _ _ _ _ => pts_nil) (fun _ _ _ _ _ => pe_int)))) pss_nil)
      (pss_one (ps_ret (pe_lc (own := [("_law_k", 4)]) (g := gName 4) (tt := tYes) rfl sc_sizes.nd (pi_range1 (by rfl) T.m_range (pa_cons (pe_call (ok_take T) (hr.mono (by decide)) (by rfl) T.g_take T.F_take.kp T.b_take .nil pass0 (pa_cons (pv 0) (pa_cons pe_int pa_nil))) pa_nil)) (blkOk_by (N := n_sizes) (sc := defScope s_sizes) (by decide +kernel)) (fun _ _ _ _ _ => pg_name (i := 4) sc_sizes.nd rfl (Or.inl rfl)) (fun _ _ _ _ _ => pts_nil) (fun _ _ _ _ _ => (pe_ix (show IxR _ (rIxL K) from ix_list) (pe_lst (pa_cons pe_int (pa_cons pe_int (pa_cons pe_int (pa_cons pe_int (pa_cons pe_int (pa_cons pe_int (pa_cons pe_int (pa_cons pe_int pa_nil))))))))) (pe_call (ok_take T) (hr.mono (by decide)) (by rfl) T.g_take T.F_take.kp T.b_take .nil pass0 (pa_cons (pv 0) (pa_cons pe_int pa_nil))) (fun _ _ => rfl)))))))))), ?_⟩
    have fin : ∀ (xs : List V) a H', xs.length ≤ 51 → (∀ x ∈ xs, ∃ n : Nat, x = V.int (n : Int) ∧ n ≤ 20) → Ex H H' → H' a = some (.lst xs) → Q (.ref a) H' := fun xs a H' hl hx e h => by
      obtain ⟨ss, rfl, hs⟩ := nats_of hx
      exact k ss a H' (by rw [List.length_map] at hl; exact hl) hs e h
    have G1 : ∀ (H H' : Hp) (v : V), Ex H H' → (∃ n : Nat, v = V.int (n : Int) ∧ n ≤ 20) → ∃ n : Nat, v = V.int (n : Int) ∧ n ≤ 20 := fun _ _ _ _ h => h
    have G2 : ∀ (H : Hp) (v : V) (xs ys : List V) (D : Addr), H D = some (.lst xs) → (∃ n : Nat, v = V.int (n : Int) ∧ n ≤ 20) → ∃ n : Nat, v = V.int (n : Int) ∧ n ≤ 20 := fun _ _ _ _ _ _ h => h
    refine ⟨_, rfl, rfl, _, rfl, ite2 (fun _ => ?_) (fun _ => ?_)⟩
    · refine ⟨_, rfl, d, _, rfl, hd, by decide, fun t t0 t1 => ⟨_, _, rfl, rfl, _, rfl, by omega, by omega, fun D hD => ?_⟩⟩
      exact lc_n (G := fun _ x => ∃ n : Nat, x = V.int (n : Int) ∧ n ≤ 20) (n := 44 + t) ⟨by omega, by omega⟩ hD (fun _ _ _ _ h => h) (fun _ _ _ _ _ h => h) (fun _ => rfl) (fun i H' hi e Q' q => q (.int 1) H' (Ex.refl _) ⟨1, rfl, by decide⟩) (fun H1 ys e1 hD1 hn hy => fin ys D H1 (by omega) hy e1 hD1)
    refine ⟨_, rfl, rfl, _, rfl, ite2 (fun _ => ?_) (fun _ => ?_)⟩
    · refine ⟨_, rfl, _, _, rfl, rfl, _, _, rfl, _, rfl, d, _, rfl, hd, by decide, fun t t0 t1 => ⟨_, _, rfl, rfl, _, rfl, ?_⟩⟩
      obtain ⟨n, hn, n0, n1⟩ : ∃ n : Int, (if 14 - f > 0 then 14 - f else 0) = n ∧ 0 ≤ n ∧ n ≤ 14 := by
        refine ⟨_, rfl, ?_, ?_⟩ <;> split <;> omega
      rw [hn]
      refine ⟨by omega, by omega, fun D hD => ?_⟩
      exact lc_n (G := fun _ x => ∃ n : Nat, x = V.int (n : Int) ∧ n ≤ 20) (n := n + t) ⟨by omega, by omega⟩ hD (fun _ _ _ _ h => h) (fun _ _ _ _ _ h => h) (fun _ => rfl) (fun i H' hi e Q' q => q (.int 1) H' (Ex.refl _) ⟨1, rfl, by decide⟩) (fun H1 ys e1 hD1 hn hy => fin ys D H1 (by omega) hy e1 hD1)
    refine ⟨_, rfl, rfl, _, rfl, ite2 (fun _ => ?_) (fun _ => ?_)⟩
    · refine ⟨_, rfl, d, _, rfl, hd, by decide, fun t t0 t1 => ⟨_, _, rfl, rfl, _, rfl, d, _, rfl, hd, by decide, fun t2 a0 a1 => ⟨_, _, rfl, rfl, sz_of (by show 5 ≤ 100000; decide), fun D hD => ?_⟩⟩⟩
      have e1 := Ex.new (o := .lst [.int 20, .int 20, .int 20, .int (15 + t), .int (1 + t2)]) hD
      have hD1 : upd H D (.lst [.int 20, .int 20, .int 20, .int (15 + t), .int (1 + t2)]) D = some (.lst [.int 20, .int 20, .int 20, .int (15 + t), .int (1 + t2)]) := upd_same
      have hd1 := e1 _ _ hd
      generalize upd H D (.lst [.int 20, .int 20, .int 20, .int (15 + t), .int (1 + t2)]) = H1 at e1 hD1 hd1 ⊢
      refine ⟨_, rfl, _, rfl, d, _, rfl, hd1, by decide, fun t3 b0 b1 => ⟨_, _, rfl, rfl, _, rfl, d, _, rfl, hd1, by decide, fun t4 c0 c1 => ⟨_, _, rfl, rfl, sz_of (by show 2 ≤ 100000; decide), fun E1 hE => ⟨D, E1, _, _, rfl, rfl, Ex.new hE _ _ hD1, upd_same, sz_of (by show 7 ≤ 100000; decide), fun M hM => ?_⟩⟩⟩⟩
      refine fin _ M _ (by show 7 ≤ 51; decide) (fun x hx => ?_) ((e1.trans (Ex.new hE)).trans (Ex.new hM)) upd_same
      have ok : ∀ i : Int, 0 ≤ i → i ≤ 20 → ∃ n : Nat, V.int i = V.int (n : Int) ∧ n ≤ 20 := fun i h0 h1 => ⟨i.toNat, by rw [Int.toNat_of_nonneg h0], by omega⟩
      simp only [List.cons_append, List.nil_append, List.mem_cons, List.not_mem_nil, or_false] at hx
      rcases hx with rfl | rfl | rfl | rfl | rfl | rfl | rfl
      · exact ok 20 (by decide) (by decide)
      · exact ok 20 (by decide) (by decide)
      · exact ok 20 (by decide) (by decide)
      · exact ok _ (by omega) (by omega)
      · exact ok _ (by omega) (by omega)
      · exact ok _ (by omega) (by omega)
      · exact ok _ (by omega) (by omega)
    refine ⟨_, rfl, rfl, _, rfl, ite2 (fun _ => ?_) (fun _ => ?_)⟩
    · refine ⟨_, rfl, d, _, rfl, hd, by decide, fun t t0 t1 => ⟨_, _, rfl, rfl, _, rfl, by omega, by omega, fun D hD => ?_⟩⟩
      exact lc_n (G := fun _ x => ∃ n : Nat, x = V.int (n : Int) ∧ n ≤ 20) (n := 5 + t) ⟨by omega, by omega⟩ hD (fun _ _ _ _ h => h) (fun _ _ _ _ _ h => h) (fun _ => rfl) (fun i H' hi e Q' q => q (.int 0) H' (Ex.refl _) ⟨0, rfl, by decide⟩) (fun H1 ys e1 hD1 hn hy => fin ys D H1 (by omega) hy e1 hD1)
    refine ⟨_, rfl, d, _, rfl, hd, by decide, fun t t0 t1 => ⟨_, rfl, by omega, by omega, fun D hD => ?_⟩⟩
    refine lc_n (G := fun _ x => ∃ n : Nat, x = V.int (n : Int) ∧ n ≤ 20) (n := t) ⟨by omega, by omega⟩ hD (fun _ _ _ _ h => h) (fun _ _ _ _ _ h => h) (fun _ => rfl) (fun i H' hi e Q' q => ?_) (fun H1 ys e1 hD1 hn hy => fin ys D H1 (by omega) hy e1 hD1)
    refine ⟨sz_of (by show 8 ≤ 100000; decide), fun L hL => ?_⟩
    have e2 := Ex.new (o := .lst [.int 1, .int 1, .int 1, .int 2, .int 5, .int 20, .int 0, .int 1]) hL
    refine ⟨_, rfl, d, _, rfl, e2 _ _ (e _ _ hd), by decide, fun j j0 j1 => ?_⟩
    obtain ⟨n, rfl⟩ : ∃ n : Nat, j = (n : Int) := ⟨j.toNat, by omega⟩
    obtain ⟨x, hx, hx2⟩ : ∃ x : Nat, ([1, 1, 1, 2, 5, 20, 0, 1] : List Nat)[n]? = some x ∧ x ≤ 20 := by
      have hl : n < ([1, 1, 1, 2, 5, 20, 0, 1] : List Nat).length := by show n < 8; omega
      exact ⟨_, List.getElem?_eq_getElem hl, (by decide : ∀ y ∈ ([1, 1, 1, 2, 5, 20, 0, 1] : List Nat), y ≤ 20) _ (List.getElem_mem hl)⟩
    exact ⟨L, _, (n : Int), .int (x : Int), rfl, rfl, SqL.of (upd_same (o := .lst (([1, 1, 1, 2, 5, 20, 0, 1] : List Nat).map fun n : Nat => V.int (n : Int)))), atI_nat (by rw [List.getElem?_map, hx]; rfl), q _ _ e2 ⟨x, rfl, hx2⟩⟩
end
end K24

set_option Elab.async false
set_option linter.all false
set_option maxRecDepth 100000
namespace K24
open PySem PySem.Spec PyProof.Rows L2 Evl TL UL StX
section
variable {P : Program} {w : World} {K : PySem.W.Frag} {mg : Str → Option Value} {base : Heap} {A : Adr}
/-! ### drawn rows: a part of a part of a word -/
def baseN (w : Str) : Nd := if w = "new()" then .call "new" [] else .name w
def chN (n : Nat) (w : Str) : List Nd := match n with
  | 0 => []
  | n + 1 => baseN w :: (List.range n).map fun i => Nd.op "part" [i]
def wdOk (w : Str) : Prop := w = "new()" ∨ okS w = true
def chL (n : Nat) (w : Str) : List Nat := (List.replicate n (tl "part(")).flatten ++ tl w ++ List.replicate n 41
theorem new_bad : okS "new()" = false := by decide +kernel
theorem base_good {w : Str} (h : wdOk w) : GoodE okS (tl w) 0 [baseN w] := by
  unfold baseN
  rcases h with rfl | h
  · rw [if_pos rfl]
    have := good_op (okw := okS) (lo := 0) (b := []) (w := tl "new") (nd := .call "new" []) trivial (fun c hc => (show ∀ c ∈ tl "new", c ≠ 40 ∧ c ≠ 41 ∧ c ≠ 44 by decide +kernel) c hc) (by decide +kernel)
    rw [show tl "new" ++ 40 :: joinC (([] : List It1).map (·.1)) ++ [41] = tl "new()" by decide +kernel] at this
    exact this
  · rw [if_neg (fun e => by rw [e, new_bad] at h; cases h)]
    have := good_name (okw := okS) (lo := 0) (wordOk.pl w h) (wordOk.ne w h) (by rw [ofL_tl]; exact h)
    rw [ofL_tl] at this
    exact this
theorem ch_good {w : Str} (h : wdOk w) : ∀ n, GoodE okS (chL n w) 0 (chN (n + 1) w)
  | 0 => by
    show GoodE okS ([] ++ tl w ++ []) 0 [baseN w]
    rw [List.nil_append, List.append_nil]
    exact base_good h
  | n + 1 => by
    have ih := ch_good h n
    have hl : (chN (n + 1) w).length = n + 1 := by show ((List.range n).map _).length + 1 = _; rw [List.length_map, List.length_range]
    have := good_op (okw := okS) (lo := 0) (b := [(chL n w, chN (n + 1) w)]) (w := tl "part") (nd := .op "part" [n]) ⟨ih, trivial⟩ (fun c hc => (show ∀ c ∈ tl "part", c ≠ 40 ∧ c ≠ 41 ∧ c ≠ 44 by decide +kernel) c hc) (by
      show oper okS (ofL (tl "part")) [0 + (chN (n + 1) w).length - 1] = _
      rw [hl, show 0 + (n + 1) - 1 = n by omega, ofL_tl]
      rfl)
    have e1 : tl "part" ++ 40 :: joinC (([(chL n w, chN (n + 1) w)] : List It1).map (·.1)) ++ [41] = chL (n + 1) w := by
      show tl "part" ++ 40 :: chL n w ++ [41] = _
      unfold chL
      rw [List.replicate_succ, List.flatten_cons, List.replicate_succ' (n := n) (a := 41), show tl "part(" = tl "part" ++ [40] by decide +kernel]
      simp only [List.append_assoc, List.cons_append, List.nil_append]
    have e2 : flat [(chL n w, chN (n + 1) w)] ++ [Nd.op "part" [n]] = chN (n + 1 + 1) w := by
      show (chN (n + 1) w ++ []) ++ _ = baseN w :: (List.range (n + 1)).map _
      rw [List.append_nil, List.range_succ, List.map_append]
      rfl
    rw [e1, e2] at this
    exact this
theorem ch_len {w : Str} (n : Nat) : (chN n w).length = n := by
  cases n with
  | zero => rfl
  | succ n => show ((List.range n).map _).length + 1 = _; rw [List.length_map, List.length_range]
theorem ch_ok {w : Str} (h : wdOk w) {n : Nat} (h1 : 1 ≤ n) (h2 : n ≤ 20) : OkN (chN n w) ∧ exT (chN n w) = ofL (chL (n - 1) w) := by
  obtain ⟨m, rfl⟩ : ∃ m, n = m + 1 := ⟨n - 1, by omega⟩
  have g := ch_good h m
  refine ⟨okN_of g (by rw [ch_len]; exact h2), ?_⟩
  unfold exT
  rw [good_text g]
  rfl
structure LR where
  k : Kd
  lb : Str
  wd : Str
  sz : Nat
def LR.r (x : LR) : Rwd := ⟨x.k, x.lb, if isX x.k then chN x.sz x.wd else []⟩
def LRAt (H : Hp) (a : Addr) (x : LR) : Prop := H a = some (.lst [.str (kS x.k), .str x.lb, .str x.wd, .int ((x.sz : Nat) : Int), .str (rT x.r)])
structure LOk (x : LR) : Prop where
  kd : x.k = .use ∨ x.k = .val ∨ x.k = .ref ∨ isDeep x.k = true
  wd : isX x.k = true → wdOk x.wd
  sz : isX x.k = true → 1 ≤ x.sz ∧ x.sz ≤ 20
  b : isB x.k = true → okS x.lb = true
  nb : isB x.k = false → x.lb = ""
def finR : LR := ⟨.fin, "", "", 0⟩
def opens (bs : List LR) : Nat := (bs.filter fun x => isOpn x.k).length
theorem LOk.wf {x : LR} (h : LOk x) : WfRw x.r := by
  refine ⟨fun hX => ?_, fun hX => ?_, h.b, h.nb⟩
  · show OkN (if isX x.k then chN x.sz x.wd else [])
    have hX : isX x.k = true := hX
    rw [if_pos hX]
    exact (ch_ok (h.wd hX) (h.sz hX).1 (h.sz hX).2).1
  · have hX : isX x.k = false := hX
    show (if isX x.k then chN x.sz x.wd else []) = []
    rw [hX]
    rfl
theorem fin_wf : WfRw finR.r := ⟨fun h => (by cases h), fun _ => rfl, fun h => (by cases h), fun _ => rfl⟩
theorem LRAt.mono {H H' : Hp} {a : Addr} {x : LR} (e : Ex H H') (h : LRAt H a x) : LRAt H' a x := e _ _ h
theorem LRAt.put {H : Hp} {D a : Addr} {x : LR} {as : List Addr} {X : HO} (hD : H D = some (.lst (as.map V.ref))) (h : LRAt H a x) : LRAt (upd H D X) a x := by
  unfold LRAt
  rw [upd_ne]
  · exact h
  · rintro rfl
    unfold LRAt at h
    rw [hD] at h
    cases as with
    | nil => cases h
    | cons b t => cases h
theorem LRAt.putS {H : Hp} {D a : Addr} {x : LR} {ks : List Str} {X : HO} (hD : H D = some (.lst (ks.map V.str))) (ne : a ≠ D) (h : LRAt H a x) : LRAt (upd H D X) a x := (upd_ne ne).trans h
theorem opens_snoc (bs : List LR) (x : LR) : opens (bs ++ [x]) = opens bs + if isOpn x.k then 1 else 0 := by
  unfold opens
  rw [List.filter_append, List.length_append]
  cases h : isOpn x.k <;> simp [h]
theorem mulOk_neg {z : Str} {n : Int} (h0 : -64 ≤ n) (h1 : n < 1) : MulOk z n := by
  refine ⟨?_, fun h2 _ => absurd h1 h2, fun h2 _ => absurd h1 h2⟩
  rw [decide_eq_false (by omega), decide_eq_false (by omega)]
  rfl
theorem mulOk_sz {z : Str} (hz : z.length ≤ 64) {n : Nat} (h : n ≤ 20) : MulOk z ((n : Int) - 1) := by
  by_cases h1 : n = 0
  · exact mulOk_neg (by omega) (by omega)
  · exact mulOk_small hz (by omega) (by omega)
theorem mul_le {z : Str} {a n : Nat} (hz : z.length ≤ a) (h : n ≤ 20) : (Txt.mul z ((n : Int) - 1)).length ≤ 20 * a := by
  rw [len_tl, tl_mul, List.length_flatten, List.map_replicate, List.sum_replicate_nat, ← len_tl]
  exact Nat.mul_le_mul (by omega) hz
theorem tl_inj {z y : Str} (h : tl z = tl y) : z = y := by
  have := congrArg ofL h
  rw [ofL_tl, ofL_tl] at this
  exact this
def kOk (k : Kd) : Prop := k = .use ∨ k = .val ∨ k = .ref
theorem pick_kd {l : List Kd} (hl : ∀ k ∈ l, kOk k) {f : Int} (h0 : 0 ≤ f) (h1 : f < (l.length : Int)) : ∃ k, atI (l.map fun k => V.str (kS k)) f = some (.str (kS k)) ∧ kOk k := by
  obtain ⟨n, rfl⟩ := Int.eq_ofNat_of_zero_le h0
  have hn : n < l.length := by omega
  exact ⟨l[n], atI_nat (by rw [List.getElem?_map, List.getElem?_eq_getElem hn]; rfl), hl _ (List.getElem_mem hn)⟩
theorem deep_ok {k : Kd} (h : k = .blk ∨ k = .iff ∨ k = .lop) (w : Str) : LOk ⟨k, "", w, 0⟩ ∧ rT (LR.r ⟨k, "", w, 0⟩) = kS k ∧ isOpn k = true := by
  rcases h with rfl | rfl | rfl <;> exact ⟨⟨.inr (.inr (.inr rfl)), (fun z => by cases z), (fun z => by cases z), (fun z => by cases z), fun _ => rfl⟩, rfl, rfl⟩
theorem pick_opn {f : Int} (h0 : 0 ≤ f) (h1 : f < 3) : ∃ k, atI ([Kd.blk, .iff, .lop].map fun k => V.str (kS k)) f = some (.str (kS k)) ∧ (k = .blk ∨ k = .iff ∨ k = .lop) := by
  obtain ⟨n, rfl⟩ := Int.eq_ofNat_of_zero_le h0
  have hn : n < [Kd.blk, .iff, .lop].length := by show n < 3; omega
  exact ⟨[Kd.blk, .iff, .lop][n], atI_nat (by rw [List.getElem?_map, List.getElem?_eq_getElem hn]; rfl), (by decide : ∀ k ∈ [Kd.blk, .iff, .lop], k = .blk ∨ k = .iff ∨ k = .lop) _ (List.getElem_mem hn)⟩
def preT (k : Kd) (lb : Str) : Str := if k = .use then "use " else kS k ++ " " ++ lb ++ " = "
/-- the text of a drawn row -/
theorem row_tx {k : Kd} {lb w : Str} {n : Nat} (hk : kOk k) (hw : wdOk w) (h1 : 1 ≤ n) (h2 : n ≤ 20) : preT k lb ++ Txt.mul "part(" ((n : Int) - 1) ++ w ++ Txt.mul ")" ((n : Int) - 1) = rT (LR.r ⟨k, lb, w, n⟩) := by
  have hX : isX k = true := by rcases hk with rfl | rfl | rfl <;> rfl
  have he : tl (exT (if isX k then chN n w else [])) = chL (n - 1) w := by rw [if_pos hX, (ch_ok hw h1 h2).2, tl_ofL]
  have m1 : tl (Txt.mul "part(" ((n : Int) - 1)) = (List.replicate (n - 1) (tl "part(")).flatten := by rw [tl_mul, show ((n : Int) - 1).toNat = n - 1 by omega]
  have m2 : tl (Txt.mul ")" ((n : Int) - 1)) = List.replicate (n - 1) 41 := by
    rw [tl_mul, show ((n : Int) - 1).toNat = n - 1 by omega, show tl ")" = [41] by decide +kernel]
    generalize n - 1 = m
    induction m with
    | zero => rfl
    | succ m ih => rw [List.replicate_succ, List.flatten_cons, ih, List.replicate_succ]; rfl
  refine tl_inj ?_
  show tl (preT k lb ++ Txt.mul "part(" ((n : Int) - 1) ++ w ++ Txt.mul ")" ((n : Int) - 1)) = tl (if isB k then kS k ++ " " ++ (lb ++ " = " ++ exT (if isX k then chN n w else [])) else if isX k then kS k ++ " " ++ exT (if isX k then chN n w else []) else kS k)
  generalize exT (if isX k then chN n w else []) = e at he
  have hc : chL (n - 1) w = (List.replicate (n - 1) (tl "part(")).flatten ++ tl w ++ List.replicate (n - 1) 41 := rfl
  rcases hk with rfl | rfl | rfl
  · show tl (("use " : Str) ++ _ ++ w ++ _) = tl (("use" : Str) ++ " " ++ e)
    rw [tl_append, tl_append, tl_append, m1, m2, tl_append, tl_append, he, hc, show tl "use " = tl "use" ++ tl " " by decide +kernel]
    simp only [List.append_assoc]
  · show tl ((("val" : Str) ++ " " ++ lb ++ " = ") ++ _ ++ w ++ _) = tl (("val" : Str) ++ " " ++ (lb ++ " = " ++ e))
    simp only [tl_append, m1, m2, he, hc, List.append_assoc]
  · show tl ((("ref" : Str) ++ " " ++ lb ++ " = ") ++ _ ++ w ++ _) = tl (("ref" : Str) ++ " " ++ (lb ++ " = " ++ e))
    simp only [tl_append, m1, m2, he, hc, List.append_assoc]
theorem al2_app {α β : Type} {R : α → β → Prop} {as cs : List α} {bs ds : List β} (h : Al2 R as bs) (h2 : Al2 R cs ds) : Al2 R (as ++ cs) (bs ++ ds) := by
  induction h with
  | nil => exact h2
  | cons h1 _ ih => exact .cons h1 ih
theorem strs_row {ks : List Str} {a b c : V} {n : Int} {r : List V} (h : some (HO.lst (ks.map V.str)) = some (.lst (a :: b :: c :: .int n :: r))) : False := by
  injection h with h
  injection h with h
  have h3 : (ks.map V.str)[3]? = some (V.int n) := by rw [h]; rfl
  rw [List.getElem?_map] at h3
  cases hk : ks[3]? with
  | none => rw [hk] at h3; cases h3
  | some q => rw [hk] at h3; cases h3
def spSrows (K : PySem.W.Frag) : Sp := fun vs H Q _ => ∃ (d o : Addr) (m : Int) (c : Nat) (os : List Str), vs = [.ref d, .int m, .str ⟨#[c]⟩, .ref o] ∧ H d = some (DrO d) ∧ c ∈ tlL ∧ H o = some (.lst (os.map V.str)) ∧ (∀ z ∈ os, okS z = true) ∧ os.length ≤ 18 ∧ ∀ (L : Addr) (as : List Addr) (bs : List LR) (e : Nat) H', bs.length ≤ 51 → e ≤ 11 → (e = 0 ∨ e = opens bs) → (∀ x ∈ bs, LOk x) → Ex H H' → H' L = some (.lst (as.map V.ref)) → Al2 (LRAt H') as (bs ++ List.replicate e finR) → Q (.ref L) H'
theorem ok_srows (T : Tx0 w K mg A) : FnOk P w K mg base CX0 5 A.srows A.d_srows p_srows (spSrows K) := by
  refine T.F_srows.ok sc_srows (fun vs H Q E h => ?_) (fun cdv Ar outer s H vs Q E hr h => ?_)
  · obtain ⟨d, o, m, c, os, rfl, _⟩ := h
    rfl
  · obtain ⟨d, o, m, c, os, rfl, hd, hc, ho, hos, l18, k⟩ := h
    refine ⟨_, (pss_cons (ps_set (i := 4) sc_srows.nd rfl (Or.inl rfl) (pe_lst pa_nil))
      (pss_cons (ps_set (i := 5) sc_srows.nd rfl (Or.inl rfl) (pe_callTy call_list_of (by rfl) T.m_list (by decide +kernel) (pa_cons (pv 3) pa_nil)))
      (pss_cons (ps_set (i := 6) sc_srows.nd rfl (Or.inl rfl) pe_int)
      (pss_cons (ps_for PassesOwn.never rfl (pi_list (pe_call (ok_sizes T) (hr.mono (by decide)) (by rfl) T.g_sizes T.F_sizes.kp T.b_sizes .nil pass0 (pa_cons (pv 0) (pa_cons (pv 1) (pa_cons (pe_callB call_len_seq (by rfl) T.m_len PySem.boot_len (pa_cons (pv 3) pa_nil)) pa_nil))))) (pg_name (i := 7) sc_srows.nd rfl (Or.inl rfl)) (pss_cons (ps_set (i := 8) sc_srows.nd rfl (Or.inl rfl) (pe_call (ok_take T) (hr.mono (by decide)) (by rfl) T.g_take T.F_take.kp T.b_take .nil pass0 (pa_cons (pv 0) (pa_cons pe_int pa_nil))))
        (pss_cons (ps_set (i := 9) sc_srows.nd rfl (Or.inl rfl) (pe_ix ix_list (pe_lst (pa_cons pe_str (pa_cons pe_str (pa_cons pe_str pa_nil)))) (pv 8) (fun _ _ => rfl)))
        (Evl.pss_cut (ps_if (pt_cmpR op_eq (pv 1) pe_int (nomark _)) (pss_one (ps_set (i := 9) sc_srows.nd rfl (Or.inl rfl) pe_str)) pss_nil)
        (Evl.pss_cut (ps_if (pt_cmpR op_eq (pv 1) pe_int (nomark _)) (pss_one (ps_set (i := 9) sc_srows.nd rfl (Or.inl rfl) (pe_ix ix_list (pe_lst (pa_cons pe_str (pa_cons pe_str (pa_cons pe_str pa_nil)))) (pv 8) (fun _ _ => rfl)))) pss_nil)
        (pss_cons (ps_set (i := 10) sc_srows.nd rfl (Or.inl rfl) pe_str)
        (pss_cons (ps_set (i := 11) sc_srows.nd rfl (Or.inl rfl) (pe_call (ok_take T) (hr.mono (by decide)) (by rfl) T.g_take T.F_take.kp T.b_take .nil pass0 (pa_cons (pv 0) (pa_cons pe_int pa_nil))))
        (Evl.pss_cut (ps_if (pt_cmpR op_lt (pv 11) (pe_callB call_len_seq (by rfl) T.m_len PySem.boot_len (pa_cons (pv 5) pa_nil)) (nomark _)) (pss_one (ps_set (i := 10) sc_srows.nd rfl (Or.inl rfl) (pe_ix ix_list (pv 5) (pv 11) (fun _ _ => rfl)))) pss_nil)
        (Evl.pss_cut (ps_if (pt_cmpR op_eq (pv 11) pe_int (nomark _)) (pss_one (ps_set (i := 10) sc_srows.nd rfl (Or.inl rfl) (pe_op op_add_str (pv 2) pe_str))) pss_nil)
        (pss_cons (ps_set (i := 12) sc_srows.nd rfl (Or.inl rfl) pe_str)
        (Evl.pss_cut (ps_if (pt_cmpR op_in_seq (pv 9) (pe_lst (pa_cons pe_str (pa_cons pe_str pa_nil))) (by rfl)) (pss_cons (ps_set (i := 12) sc_srows.nd rfl (Or.inl rfl) (pe_op op_add_str (pv 2) (pe_callTy call_str_int (by rfl) T.m_str (by decide +kernel) (pa_cons (pe_callB call_len_seq (by rfl) T.m_len PySem.boot_len (pa_cons (pv 5) pa_nil)) pa_nil))))
          (pss_one (ps_if (PW.pt (pw_and (pt_cmpR op_eq (pe_call (ok_take T) (hr.mono (by decide)) (by rfl) T.g_take T.F_take.kp T.b_take .nil pass0 (pa_cons (pv 0) (pa_cons pe_int pa_nil))) pe_int (nomark _)) (pw_and1 (pt_cmpR op_gt (pe_callB call_len_seq (by rfl) T.m_len PySem.boot_len (pa_cons (pv 5) pa_nil)) pe_int (nomark _))))) (pss_one (ps_set (i := 12) sc_srows.nd rfl (Or.inl rfl) (pe_ix ix_list (pv 5) pe_int (fun _ _ => rfl)))) pss_nil))) pss_nil)
        (pss_cons (ps_set (i := 13) sc_srows.nd rfl (Or.inl rfl) (pe_op op_add_str (pe_op op_add_str (pe_op op_add_str (pv 9) pe_str) (pv 12)) pe_str))
        (Evl.pss_cut (ps_if (pt_cmpR op_eq (pv 9) pe_str (nomark _)) (pss_one (ps_set (i := 13) sc_srows.nd rfl (Or.inl rfl) pe_str)) pss_nil)
        (pss_cons (ps_set (i := 13) sc_srows.nd rfl (Or.inl rfl) (pe_op op_add_str (pe_op op_add_str (pe_op op_add_str (pv 13) (pe_op UL.op_mul_str pe_str (pe_op op_sub (pv 7) pe_int))) (pv 10)) (pe_op UL.op_mul_str pe_str (pe_op op_sub (pv 7) pe_int))))
        (Evl.pss_cut (ps_if (pt_cmpR op_eq (pv 7) pe_int (nomark _)) (pss_cons (ps_set (i := 9) sc_srows.nd rfl (Or.inl rfl) (pe_ix ix_list (pe_lst (pa_cons pe_str (pa_cons pe_str (pa_cons pe_str pa_nil)))) (pv 8) (fun _ _ => rfl)))
          (pss_cons (ps_set (i := 12) sc_srows.nd rfl (Or.inl rfl) pe_str)
          (pss_cons (ps_set (i := 13) sc_srows.nd rfl (Or.inl rfl) (pv 9))
          (pss_one (ps_set (i := 6) sc_srows.nd rfl (Or.inl rfl) (pe_op op_add (pv 6) pe_int)))))) pss_nil)
        (Evl.pss_cut (ps_if (pt_cmpR op_ne (pv 12) pe_str (nomark _)) (pss_one (ps_expr (pe_bm PySem.F.plainAttrs_list PySem.F.slot_list_append PySem.F.type_list_append mt_append (pv 5) (pa_cons (pv 12) pa_nil)))) pss_nil)
        (pss_one (ps_expr (pe_bm PySem.F.plainAttrs_list PySem.F.slot_list_append PySem.F.type_list_append mt_append (pv 4) (pa_cons (pe_lst (pa_cons (pv 9) (pa_cons (pv 12) (pa_cons (pv 10) (pa_cons (pv 7) (pa_cons (pv 13) pa_nil)))))) pa_nil))))))))))))))))))))
      (pss_cons (ps_if (PW.pt (pw_and (pt_cmpR op_gt (pe_call (ok_take T) (hr.mono (by decide)) (by rfl) T.g_take T.F_take.kp T.b_take .nil pass0 (pa_cons (pv 0) (pa_cons pe_int pa_nil))) pe_int (nomark _)) (pw_and1 (pt_cmpR op_lt (pv 6) pe_int (nomark _))))) (pss_one (ps_set (i := 4) sc_srows.nd rfl (Or.inl rfl) (pe_op op_cat (pv 4) (pe_lc (own := [("_law_k", 14)]) (g := gName 14) (tt := tYes) rfl sc_srows.nd (pi_range1 (by rfl) T.m_range (pa_cons (pv 6) pa_nil)) (blkOk_by (N := n_srows) (sc := defScope s_srows) (by decide +kernel)) (fun _ _ _ _ _ => pg_name (i := 14) sc_srows.nd rfl (Or.inl rfl)) (fun _ _ _ _ _ => pts_nil) (fun _ _ _ _ _ => (pe_lst (pa_cons pe_str (pa_cons pe_str (pa_cons pe_str (pa_cons pe_int (pa_cons pe_str pa_nil))))))))))) pss_nil)
      (pss_one (ps_ret (pv 4)))))))), ?_⟩
    have n99 : okS ((⟨#[c]⟩ : Str) ++ "99") = true := (wd_num (k := 99) hc (by decide) (by decide)).1.ok
    have lc1 : (⟨#[c]⟩ : Str).length = 1 := rfl
    refine ⟨Nat.zero_le _, fun L hL => ?_⟩
    have eL := Ex.new (o := .lst []) hL
    have hL0 : upd H L (.lst []) L = some (.lst ((([] : List Addr)).map V.ref)) := upd_same
    generalize upd H L (.lst []) = H0 at eL hL0 ⊢
    refine ⟨_, rfl, o, _, rfl, .inl (SqL.of (eL _ _ ho)), fun N hN => ?_⟩
    have eN := Ex.new (o := .lst (os.map V.str)) hN
    have hN0 : upd H0 N (.lst (os.map V.str)) N = some (.lst (os.map V.str)) := upd_same
    have nNL : N ≠ L := fun z => by rw [z, hL0] at hN; cases hN
    have hL1 := eN _ _ hL0
    have hNH : H N = none := eL.free' hN
    have e0 := eL.trans eN
    generalize upd H0 N (.lst (os.map V.str)) = H1 at eN hN0 hL1 e0 ⊢
    refine ⟨_, rfl, _, rfl, _, rfl, o, _, rfl, .inl (SqL.of (e0 _ _ ho)), d, m, _, rfl, e0 _ _ hd, by omega, by rw [List.length_map]; omega, fun ss S H2 lss hss e12 hS => ⟨S, rfl, ⟨_, SqL.of hS⟩, ?_⟩⟩
    have hN2 := e12 _ _ hN0
    have hL2 := e12 _ _ hL1
    have e02 := e0.trans e12
    clear hN0 hL1 hL0 eL eN e0 e12
    -- what a row of the loop starts from
    refine for_it (walk_list (xs := ss.map fun n : Nat => V.int (n : Int))) (fun i σ' H' => ∃ (v7 v8 v9 v10 v11 v12 v13 : Option V) (as : List Addr) (bs : List LR) (ks : List Str), σ' = [some (.ref d), some (.int m), some (.str ⟨#[c]⟩), some (.ref o), some (.ref L), some (.ref N), some (.int ((opens bs : Nat) : Int)), v7, v8, v9, v10, v11, v12, v13, none] ∧ bs.length = i ∧ Ex H H' ∧ H' S = some (.lst (ss.map fun n : Nat => V.int (n : Int))) ∧ H' L = some (.lst (as.map V.ref)) ∧ Al2 (LRAt H') as bs ∧ (∀ x ∈ bs, LOk x) ∧ H' N = some (.lst (ks.map V.str)) ∧ (∀ z ∈ ks, okS z = true) ∧ ks.length ≤ 18 + i) ⟨_, _, _, _, _, _, _, [], [], os, rfl, rfl, e02, hS, hL2, .nil, (fun _ h => nomatch h), hN2, hos, by omega⟩ (fun i σ' H' _ ⟨_, _, _, _, _, _, _, _, _, _, _, _, _, z, _⟩ => SqL.of z) ?_ ?_
    · rintro i y σ' H3' H3 hi ⟨v7, v8, v9, v10, v11, v12, v13, as, bs, ks, rfl, hbl, e3, hS3, hL3, hA3, hb3, hN3, hks, lks⟩ ⟨rfl, hy⟩
      rw [List.length_map] at hi
      rw [List.getElem?_map] at hy
      obtain ⟨n, hn, rfl⟩ := Option.map_eq_some_iff.mp hy
      have hn20 := hss n (List.mem_of_getElem? hn)
      refine ⟨_, rfl, d, _, rfl, e3 _ _ hd, by decide, fun f f0 f1 => ?_⟩
      refine ⟨sz_of (by show 3 ≤ 100000; decide), fun D hD => ?_⟩
      obtain ⟨k0, hk0, ok0⟩ := pick_kd (l := [.use, .val, .ref]) (by decide +kernel : ∀ k ∈ [Kd.use, .val, .ref], k = .use ∨ k = .val ∨ k = .ref) f0 f1
      have e4 := Ex.new (o := .lst ([Kd.use, .val, .ref].map fun k => V.str (kS k))) hD
      refine ⟨_, rfl, D, _, f, _, rfl, rfl, SqL.of (upd_same (o := .lst ([Kd.use, .val, .ref].map fun k => V.str (kS k)))), hk0, ?_⟩
      show tCut _ _ _ _ (upd H3 D (.lst ([Kd.use, .val, .ref].map fun k => V.str (kS k))))
      generalize upd H3 D (.lst ([Kd.use, .val, .ref].map fun k => V.str (kS k))) = H4 at e4 ⊢
      clear hk0 hD
      refine ⟨fun σ' H' => ∃ k1, kOk k1 ∧ σ' = [some (.ref d), some (.int m), some (.str ⟨#[c]⟩), some (.ref o), some (.ref L), some (.ref N), some (.int ((opens bs : Nat) : Int)), some (.int (n : Int)), some (.int f), some (.str (kS k1)), v10, v11, v12, v13, none] ∧ Ex H3 H', ?_, ?_⟩
      · exact ⟨_, rfl, rfl, _, rfl, ite2 (fun _ => ⟨.use, .inl rfl, rfl, e4⟩) (fun _ => ⟨k0, ok0, rfl, e4⟩)⟩
      clear e4 ok0 k0 H4
      rintro σ1 H4 ⟨k0, ok0, rfl, e4⟩
      refine ⟨fun σ' H' => ∃ k1, kOk k1 ∧ σ' = [some (.ref d), some (.int m), some (.str ⟨#[c]⟩), some (.ref o), some (.ref L), some (.ref N), some (.int ((opens bs : Nat) : Int)), some (.int (n : Int)), some (.int f), some (.str (kS k1)), v10, v11, v12, v13, none] ∧ Ex H3 H', ?_, ?_⟩
      · refine ⟨_, rfl, rfl, _, rfl, ite2 (fun _ => ?_) (fun _ => ⟨k0, ok0, rfl, e4⟩)⟩
        refine ⟨sz_of (by show 3 ≤ 100000; decide), fun D hD => ?_⟩
        obtain ⟨k1, hk1, ok1⟩ := pick_kd (l := [.val, .ref, .ref]) (by decide +kernel : ∀ k ∈ [Kd.val, .ref, .ref], k = .use ∨ k = .val ∨ k = .ref) f0 f1
        exact ⟨_, rfl, D, _, f, _, rfl, rfl, SqL.of (upd_same (o := .lst ([Kd.val, .ref, .ref].map fun k => V.str (kS k)))), hk1, k1, ok1, rfl, e4.trans (Ex.new hD)⟩
      clear e4 ok0 k0 H4
      rintro σ1 H4 ⟨k0, ok0, rfl, e4⟩
      refine ⟨_, rfl, d, _, rfl, e4 _ _ (e3 _ _ hd), by decide, fun t t0 t1 => ?_⟩
      refine ⟨fun σ' H' => ∃ w, wdOk w ∧ σ' = [some (.ref d), some (.int m), some (.str ⟨#[c]⟩), some (.ref o), some (.ref L), some (.ref N), some (.int ((opens bs : Nat) : Int)), some (.int (n : Int)), some (.int f), some (.str (kS k0)), some (.str w), some (.int t), v12, v13, none] ∧ H' = H4, ?_, ?_⟩
      · refine ⟨_, rfl, _, rfl, N, _, rfl, .inl (SqL.of (e4 _ _ hN3)), _, _, rfl, rfl, _, rfl, ite2 (fun z => ?_) (fun _ => ⟨_, .inl rfl, rfl, rfl⟩)⟩
        have z : t < (((ks.map V.str).length : Nat) : Int) := of_decide_eq_true z
        rw [List.length_map] at z
        obtain ⟨x, hx, hm⟩ := at_strs (xs := ks) t0 z
        exact ⟨_, rfl, _, rfl, N, _, t, _, rfl, rfl, SqL.of (e4 _ _ hN3), hx, x, .inr (hks x hm), rfl, rfl⟩
      rintro σ1 H4' ⟨w, hw, rfl, rfl⟩
      refine ⟨fun σ' H' => ∃ w, wdOk w ∧ σ' = [some (.ref d), some (.int m), some (.str ⟨#[c]⟩), some (.ref o), some (.ref L), some (.ref N), some (.int ((opens bs : Nat) : Int)), some (.int (n : Int)), some (.int f), some (.str (kS k0)), some (.str w), some (.int t), v12, v13, none] ∧ H' = H4', ?_, ?_⟩
      · refine ⟨_, rfl, rfl, _, rfl, ite2 (fun z => ?_) (fun _ => ⟨_, hw, rfl, rfl⟩)⟩
        exact ⟨_, rfl, _, _, rfl, rfl, sz_of (by show 3 ≤ 100000; decide), _, .inr n99, rfl, rfl⟩
      clear hw w
      rintro σ1 H4 ⟨w, hw, rfl, rfl⟩
      have w8 : w.length ≤ 8 := by
        rcases hw with rfl | hw
        · decide +kernel
        · exact okS_len hw
      refine ⟨fun σ' H' => ∃ lb, (isB k0 = true → okS lb = true) ∧ (isB k0 = false → lb = "") ∧ σ' = [some (.ref d), some (.int m), some (.str ⟨#[c]⟩), some (.ref o), some (.ref L), some (.ref N), some (.int ((opens bs : Nat) : Int)), some (.int (n : Int)), some (.int f), some (.str (kS k0)), some (.str w), some (.int t), some (.str lb), v13, none] ∧ Ex H3 H', ?_, ?_⟩
      · refine ⟨_, rfl, sz_of (by show 2 ≤ 100000; decide), fun D hD => ⟨D, _, rfl, .inl (SqL.of upd_same), rfl, rfl, _, rfl, ?_⟩⟩
        have e5 := e4.trans (Ex.new (o := .lst [V.str "val", V.str "ref"]) hD)
        show if inV (.str (kS k0)) [V.str "val", V.str "ref"] = true then _ else _
        rw [show inV (.str (kS k0)) [V.str "val", V.str "ref"] = isB k0 by rcases ok0 with rfl | rfl | rfl <;> decide +kernel]
        generalize upd H4 D (.lst [V.str "val", V.str "ref"]) = H5 at e5 ⊢
        cases hB : isB k0 with
        | false => exact iteF ⟨_, (fun z => by cases z), fun _ => rfl, rfl, e5⟩
        | true =>
          refine iteT ?_
          have nlb : okS ((⟨#[c]⟩ : Str) ++ Str.ofString (toString (((ks.map V.str).length : Nat) : Int))) = true := (wd_num hc (by omega) (by rw [List.length_map]; omega)).1.ok
          refine ⟨_, rfl, _, rfl, N, _, rfl, .inl (SqL.of (e5 _ _ hN3)), _, rfl, Nat.lt_of_le_of_lt (Nat.log2_le_self _) (by rw [List.length_map]; omega), _, _, rfl, rfl, ?_, ?_⟩
          · rw [lc1]
            have := (num_ok (k := (((ks.map V.str).length : Nat) : Int)) (by omega) (by rw [List.length_map]; omega)).2.2
            rw [← len_tl] at this
            exact sz_of (by omega)
          refine ⟨_, rfl, d, _, rfl, e5 _ _ (e3 _ _ hd), by decide, fun q q0 q1 => ⟨rfl, _, rfl, ite2 (fun _ => ?_) (fun _ => ite2 (fun z => Bool.noConfusion z) (fun _ => ⟨_, fun _ => nlb, (fun z => by cases z), rfl, e5⟩))⟩⟩
          refine ⟨_, rfl, N, _, rfl, .inl (SqL.of (e5 _ _ hN3)), _, _, rfl, rfl, _, rfl, ite2 (fun z => ?_) (fun _ => ⟨_, fun _ => nlb, (fun z => by cases z), rfl, e5⟩)⟩
          have z : (0 : Int) < (((ks.map V.str).length : Nat) : Int) := of_decide_eq_true z
          rw [List.length_map] at z
          obtain ⟨x, hx, hm⟩ := at_strs (xs := ks) (n := 0) (by decide) z
          exact ⟨_, rfl, N, _, 0, _, rfl, rfl, SqL.of (e5 _ _ hN3), hx, x, fun _ => hks x hm, (fun z => by cases z), rfl, e5⟩
      clear e4 H4
      rintro σ1 H4 ⟨lb, hlb, hnb, rfl, e4⟩
      have lb8 : lb.length ≤ 8 := by
        cases hB : isB k0 with
        | true => exact okS_len (hlb hB)
        | false => rw [hnb hB]; decide
      have k5 := kS_len k0
      have s1 : (" " : Str).length = 1 := by decide +kernel
      have s3 : (" = " : Str).length = 3 := by decide +kernel
      refine ⟨_, rfl, _, _, rfl, rfl, sz_of (by rw [s1]; omega), _, rfl, _, _, rfl, rfl, sz_of (by rw [len_app, s1]; omega), _, _, rfl, rfl, sz_of (by rw [len_app, len_app, s1, s3]; omega), ?_⟩
      refine ⟨fun σ' H' => σ' = [some (.ref d), some (.int m), some (.str ⟨#[c]⟩), some (.ref o), some (.ref L), some (.ref N), some (.int ((opens bs : Nat) : Int)), some (.int (n : Int)), some (.int f), some (.str (kS k0)), some (.str w), some (.int t), some (.str lb), some (.str (preT k0 lb)), none] ∧ H' = H4, ?_, ?_⟩
      · refine ⟨_, rfl, rfl, _, rfl, ite2 (fun z => ?_) (fun z => ?_)⟩
        · have : k0 = .use := kS_inj (k' := .use) (V.str.inj (of_decide_eq_true z))
          subst this
          exact ⟨rfl, rfl⟩
        · have : k0 ≠ .use := fun e => z (decide_eq_true (by rw [e]; rfl))
          exact ⟨by rw [show preT k0 lb = kS k0 ++ " " ++ lb ++ " = " from if_neg this]; rfl, rfl⟩
      rintro σ1 H4' ⟨rfl, rfl⟩
      have p17 : (preT k0 lb).length ≤ 17 := by
        unfold preT
        split
        · decide +kernel
        · rw [len_app, len_app, len_app, s1, s3]
          omega
      have q1 : (Txt.mul "part(" ((n : Int) - 1)).length ≤ 20 * 5 := mul_le (by decide +kernel) hn20
      have q2 : (Txt.mul ")" ((n : Int) - 1)).length ≤ 20 * 1 := mul_le (by decide +kernel) hn20
      refine ⟨_, rfl, _, rfl, _, _, rfl, rfl, _, _, rfl, rfl, mulOk_sz (by decide +kernel) hn20, _, _, rfl, rfl, sz_of (by omega), _, rfl, _, _, rfl, rfl, sz_of (by rw [len_app]; omega), _, rfl, _, _, rfl, rfl, _, _, rfl, rfl, mulOk_sz (by decide +kernel) hn20, _, _, rfl, rfl, sz_of (by rw [len_app, len_app]; omega), ?_⟩
      refine ⟨fun σ' H' => ∃ x : LR, LOk x ∧ (rT x.r).length ≤ 300 ∧ x.sz = n ∧ σ' = [some (.ref d), some (.int m), some (.str ⟨#[c]⟩), some (.ref o), some (.ref L), some (.ref N), some (.int ((opens (bs ++ [x]) : Nat) : Int)), some (.int (n : Int)), some (.int f), some (.str (kS x.k)), some (.str x.wd), some (.int t), some (.str x.lb), some (.str (rT x.r)), none] ∧ Ex H3 H', ?_, ?_⟩
      · refine ⟨_, rfl, rfl, _, rfl, ?_⟩
        by_cases hz : n = 0
        · subst hz
          refine iteT ⟨sz_of (by show 3 ≤ 100000; decide), fun D hD => ?_⟩
          obtain ⟨k1, hk1, ok1⟩ := pick_opn f0 f1
          obtain ⟨hx, ht, hop⟩ := deep_ok ok1 w
          refine ⟨_, rfl, D, _, f, _, rfl, rfl, SqL.of (upd_same (o := .lst ([Kd.blk, .iff, .lop].map fun k => V.str (kS k)))), hk1, _, rfl, _, rfl, _, _, rfl, rfl, ⟨k1, "", w, 0⟩, hx, by rw [ht]; have := kS_len k1; omega, rfl, ?_, e4.trans (Ex.new hD)⟩
          rw [opens_snoc, ht, show (isOpn (LR.mk k1 "" w 0).k) = true from hop]
          rfl
        · rw [decide_eq_false (fun z => hz (by have := V.int.inj z; omega))]
          have hX : isX k0 = true := by rcases ok0 with rfl | rfl | rfl <;> rfl
          have hx : LOk ⟨k0, lb, w, n⟩ := ⟨by rcases ok0 with h | h | h <;> simp [h], fun _ => hw, fun _ => ⟨by show 1 ≤ n; omega, hn20⟩, hlb, hnb⟩
          have ht := row_tx (lb := lb) ok0 hw (show 1 ≤ n by omega) hn20
          have ho : opens (bs ++ [⟨k0, lb, w, n⟩]) = opens bs := by
            rw [opens_snoc]
            rcases ok0 with rfl | rfl | rfl <;> rfl
          refine iteF ⟨⟨k0, lb, w, n⟩, hx, ?_, rfl, by rw [ho, ← ht]; rfl, e4⟩
          rw [← ht, len_app, len_app, len_app]
          omega
      clear e4 hlb hnb lb8 lb q1 q2 p17 w8 hw w k5 ok0 k0 H4'
      rintro σ1 H4 ⟨x, hx, hxl, rfl, rfl, e4⟩
      have hL4 := e4 _ _ hL3
      have hA4 := hA3.imp fun _ _ z => LRAt.mono e4 z
      have hN4 := e4 _ _ hN3
      have hS4 := e4 _ _ hS3
      have e04 := e3.trans e4
      have nLS : L ≠ S := fun z => by
        rw [z, hS4] at hL4
        cases ss with
        | nil => exact absurd hi (Nat.not_lt_zero _)
        | cons a r => cases as with
          | nil => cases hL4
          | cons b t => cases hL4
      have nNS : N ≠ S := fun z => by
        rw [z, hS4] at hN4
        cases ss with
        | nil => exact absurd hi (Nat.not_lt_zero _)
        | cons a r => cases ks with
          | nil => cases hN4
          | cons b t => cases hN4
      clear e4 hL3 hA3 hN3 hS3 e3
      refine ⟨fun σ' H' => ∃ ks : List Str, σ' = [some (.ref d), some (.int m), some (.str ⟨#[c]⟩), some (.ref o), some (.ref L), some (.ref N), some (.int ((opens (bs ++ [x]) : Nat) : Int)), some (.int (x.sz : Int)), some (.int f), some (.str (kS x.k)), some (.str x.wd), some (.int t), some (.str x.lb), some (.str (rT x.r)), none] ∧ Ex H H' ∧ H' S = some (.lst (ss.map fun n : Nat => V.int (n : Int))) ∧ H' L = some (.lst (as.map V.ref)) ∧ Al2 (LRAt H') as bs ∧ H' N = some (.lst (ks.map V.str)) ∧ (∀ z ∈ ks, okS z = true) ∧ ks.length ≤ 18 + (i + 1), ?_, ?_⟩
      · refine ⟨_, rfl, rfl, _, rfl, ite2 (fun z => ?_) (fun _ => ⟨ks, rfl, e04, hS4, hL4, hA4, hN4, hks, by omega⟩)⟩
        have okl : okS x.lb = true := by
          cases hB : isB x.k with
          | true => exact hx.b hB
          | false => exact absurd z (by rw [hx.nb hB]; decide)
        refine ⟨_, rfl, .inl ⟨rfl, _, SqL.of hN4⟩, _, rfl, N, _, _, rfl, rfl, hN4, sz_lt (by rw [List.length_map]; omega), ks ++ [x.lb], rfl, e04.mut hNH, by rw [upd_ne nNS.symm]; exact hS4, by rw [upd_ne nNL.symm]; exact hL4, hA4.imp fun a r z => ?_, by rw [upd_same, List.map_append]; rfl, fun z hz => ?_, by rw [List.length_append]; show ks.length + 1 ≤ _; omega⟩
        · refine LRAt.putS hN4 (fun e => ?_) z
          unfold LRAt at z
          rw [e, hN4] at z
          exact strs_row z
        · rcases List.mem_append.mp hz with hz | hz
          · exact hks z hz
          · rw [List.mem_singleton.mp hz]; exact okl
      clear hL4 hA4 hN4 hS4 e04 hks lks ks H4
      rintro σ1 H4 ⟨ks, rfl, e4, hS4, hL4, hA4, hN4, hks, lks⟩
      have eD := fun D (hD : H4 D = none) => Ex.new (o := .lst [.str (kS x.k), .str x.lb, .str x.wd, .int (x.sz : Int), .str (rT x.r)]) hD
      refine ⟨_, rfl, .inl ⟨rfl, _, SqL.of hL4⟩, _, rfl, _, rfl, _, rfl, _, rfl, _, rfl, sz_of (by show 5 ≤ 100000; decide), fun D hD => ⟨L, _, _, rfl, rfl, eD D hD _ _ hL4, sz_lt (by rw [List.length_map, hA4.len]; omega), ?_⟩⟩
      have eD := eD D hD
      have hD5 : LRAt (upd H4 D (.lst [.str (kS x.k), .str x.lb, .str x.wd, .int (x.sz : Int), .str (rT x.r)])) D x := upd_same
      have hL5 := eD _ _ hL4
      have hN5 := eD _ _ hN4
      have hS5 := eD _ _ hS4
      have hA5 := hA4.imp fun _ _ z => LRAt.mono eD z
      have e5 := e4.trans eD
      show ∃ _, _
      generalize upd H4 D (.lst [.str (kS x.k), .str x.lb, .str x.wd, .int (x.sz : Int), .str (rT x.r)]) = H5 at hD5 hL5 hN5 hS5 hA5 e5 ⊢
      refine ⟨_, _, _, _, _, _, _, as ++ [D], bs ++ [x], ks, rfl, by rw [List.length_append, hbl]; rfl, e5.mut hL, by rw [upd_ne nLS.symm]; exact hS5, by rw [upd_same, List.map_append]; rfl, (hA5.imp fun _ _ z => LRAt.put hL5 z).snoc (LRAt.put hL5 hD5), fun y hy => ?_, by rw [upd_ne nNL]; exact hN5, hks, lks⟩
      rcases List.mem_append.mp hy with hy | hy
      · exact hb3 y hy
      · rw [List.mem_singleton.mp hy]; exact hx
    · rintro σ' H3 ⟨v7, v8, v9, v10, v11, v12, v13, as, bs, ks, rfl, hbl, e3, hS3, hL3, hA3, hb3, _⟩
      rw [List.length_map] at hbl
      have out0 : Q (.ref L) H3 := k L as bs 0 H3 (by omega) (by decide) (.inl rfl) hb3 e3 hL3 (by rw [List.replicate_zero, List.append_nil]; exact hA3)
      refine ⟨_, rfl, d, _, rfl, e3 _ _ hd, by decide, fun q q0 q1 => ⟨_, _, rfl, rfl, _, rfl, ite2 (fun _ => ?_) (fun _ => ite2 (fun z => Bool.noConfusion z) (fun _ => ⟨_, rfl, out0⟩))⟩⟩
      refine ⟨_, rfl, _, _, rfl, rfl, _, rfl, ite2 (fun z => ?_) (fun _ => ⟨_, rfl, out0⟩)⟩
      have z : ((opens bs : Nat) : Int) < 12 := of_decide_eq_true z
      refine ⟨_, rfl, _, rfl, _, rfl, by omega, by omega, fun D hD => ?_⟩
      refine lc_range (lo := 0) (n := opens bs) (fun j H' => ∃ es : List Addr, Ex H3 H' ∧ H' D = some (.lst (es.map V.ref)) ∧ Al2 (LRAt H') es (List.replicate j finR)) ⟨[], Ex.new hD, upd_same, .nil⟩ ?_ ?_
      · rintro j H4 hj ⟨es, e4, hD4, hA4⟩
        have les : es.length = j := by rw [hA4.len, List.length_replicate]
        refine ⟨rfl, sz_of (by show 5 ≤ 100000; decide), fun E1 hE => ?_⟩
        have eE := Ex.new (o := .lst [.str "end", .str "", .str "", .int 0, .str "end"]) hE
        have hE5 : LRAt (upd H4 E1 (.lst [.str "end", .str "", .str "", .int 0, .str "end"])) E1 finR := upd_same
        have hD5 := eE _ _ hD4
        have hA5 := hA4.imp fun _ _ z => LRAt.mono eE z
        refine ⟨_, hD5, sz_lt (by rw [List.length_map]; omega), es ++ [E1], (e4.trans eE).mut hD, by rw [upd_same, List.map_append]; rfl, ?_⟩
        rw [List.replicate_succ']
        exact (hA5.imp fun _ _ z => LRAt.put hD5 z).snoc (LRAt.put hD5 hE5)
      · rintro H4 ⟨es, e4, hD4, hA4⟩
        have les : es.length = opens bs := by rw [hA4.len, List.length_replicate]
        refine ⟨L, D, _, _, rfl, rfl, e4 _ _ hL3, hD4, ?_, fun M hM => ?_⟩
        · rw [List.length_map, List.length_map, hA3.len, les]
          exact sz_of (by omega)
        have eM := Ex.new (o := .lst (as.map V.ref ++ es.map V.ref)) hM
        refine ⟨_, rfl, k M (as ++ es) bs (opens bs) _ (by omega) (by omega) (.inr rfl) hb3 ((e3.trans e4).trans eM) (by rw [List.map_append]; exact upd_same) ?_⟩
        exact al2_app (hA3.imp fun _ _ z => LRAt.mono (e4.trans eM) z) (hA4.imp fun _ _ z => LRAt.mono eM z)
end
end K24

set_option Elab.async false
set_option linter.all false
set_option maxRecDepth 100000
namespace K24
open PySem PySem.Spec PyProof.Rows L2 Evl TL UL StX
section
variable {P : Program} {w : World} {K : PySem.W.Frag} {mg : Str → Option Value} {base : Heap} {A : Adr}
/-! ### what is due at drawn rows -/
def rowsOf (bs : List LR) (e : Nat) : List LR := bs ++ List.replicate e finR
def rsOf (bs : List LR) (e : Nat) : List Rwd := (rowsOf bs e).map LR.r
structure RsOk (bs : List LR) (e : Nat) : Prop where
  l : bs.length ≤ 51
  e11 : e ≤ 11
  eo : e = 0 ∨ e = opens bs
  ok : ∀ x ∈ bs, LOk x
theorem rows_at {bs : List LR} {e i : Nat} {x : LR} (h : (rowsOf bs e)[i]? = some x) : (i < bs.length ∧ bs[i]? = some x) ∨ (bs.length ≤ i ∧ i < bs.length + e ∧ x = finR) := by
  unfold rowsOf at h
  by_cases hi : i < bs.length
  · rw [List.getElem?_append_left hi] at h
    exact .inl ⟨hi, h⟩
  · have hl := (List.getElem?_eq_some_iff.mp h).1
    rw [List.length_append, List.length_replicate] at hl
    rw [List.getElem?_append_right (by omega), List.getElem?_replicate, if_pos (by omega)] at h
    exact .inr ⟨by omega, hl, (Option.some.inj h).symm⟩
theorem rowsOf_len (bs : List LR) (e : Nat) : (rowsOf bs e).length = bs.length + e := by unfold rowsOf; rw [List.length_append, List.length_replicate]
theorem rsOf_len (bs : List LR) (e : Nat) : (rsOf bs e).length = bs.length + e := by unfold rsOf; rw [List.length_map, rowsOf_len]
theorem rsOf_at {bs : List LR} {e i : Nat} {x : LR} (h : (rowsOf bs e)[i]? = some x) : (rsOf bs e)[i]? = some x.r := by unfold rsOf; rw [List.getElem?_map, h]; rfl
theorem LOk.nclo {x : LR} (h : LOk x) : isClo x.k = false := by
  rcases h.kd with h | h | h | h
  · rw [h]; rfl
  · rw [h]; rfl
  · rw [h]; rfl
  · cases hk : x.k <;> rw [hk] at h <;> first | rfl | cases h
theorem ks_at {bs : List LR} {e i : Nat} {x : LR} (h : (rowsOf bs e)[i]? = some x) : (kdsOf (rsOf bs e))[i]? = some x.k := kds_at (rsOf_at h)
theorem S_len {bs : List LR} {e : Nat} (ok : ∀ x ∈ bs, LOk x) : ∀ i, i ≤ bs.length + e → (bkAt (kdsOf (rsOf bs e)) i).S.length = opens (bs.take i) - (i - bs.length)
  | 0, _ => by
    show ([] : List (Nat × Kd)).length = _
    rw [List.take_zero]
    show 0 = 0 - _
    omega
  | i + 1, hi => by
    have ih := S_len (e := e) ok i (by omega)
    obtain ⟨x, hx⟩ : ∃ x, (rowsOf bs e)[i]? = some x := ⟨_, List.getElem?_eq_getElem (by rw [rowsOf_len]; omega)⟩
    have hs : (bkAt (kdsOf (rsOf bs e)) (i + 1)).S = (if isOpn x.k then [(i + 1, x.k)] else []) ++ (if isClo x.k then (bkAt (kdsOf (rsOf bs e)) i).S.tail else (bkAt (kdsOf (rsOf bs e)) i).S) := by rw [bk_succ (ks_at hx)]; rfl
    rw [hs, List.length_append]
    rcases rows_at hx with ⟨hib, hbx⟩ | ⟨hib, hie, rfl⟩
    · have hok := ok x (List.mem_of_getElem? hbx)
      rw [hok.nclo, show bs.take (i + 1) = bs.take i ++ [x] by rw [List.take_add_one, hbx]; rfl, opens_snoc]
      show _ + (bkAt (kdsOf (rsOf bs e)) i).S.length = _
      rw [ih]
      cases isOpn x.k with
      | true => show 1 + _ = (_ + 1) - _; omega
      | false => show 0 + _ = (_ + 0) - _; omega
    · show ([] : List (Nat × Kd)).length + (bkAt (kdsOf (rsOf bs e)) i).S.tail.length = _
      rw [List.length_tail, ih, List.take_of_length_le hib, List.take_of_length_le (by omega)]
      show 0 + _ = _
      omega
theorem S_suf {ks : List Kd} {h : Nat} : ∀ m, h ≤ m → m ≤ ks.length → (∀ j k, j < m → ks[j]? = some k → isClo k = false) → ∃ t, (bkAt ks m).S = t ++ (bkAt ks h).S
  | 0, hm, _, _ => by
    have : h = 0 := by omega
    subst this
    exact ⟨[], rfl⟩
  | m + 1, hm, hl, hn => by
    by_cases e : h = m + 1
    · subst e; exact ⟨[], rfl⟩
    · obtain ⟨t, ht⟩ := S_suf (ks := ks) (h := h) m (by omega) (by omega) fun j k hj hk => hn j k (by omega) hk
      have hk : ks[m]? = some ks[m] := List.getElem?_eq_getElem (by omega)
      refine ⟨(if isOpn ks[m] then [(m + 1, ks[m])] else []) ++ t, ?_⟩
      rw [bk_succ hk, List.append_assoc, ← ht]
      show _ ++ (if isClo ks[m] then _ else _) = _
      rw [hn m ks[m] (by omega) hk]
      rfl
theorem inn_mem {ks : List Kd} {h k : Nat} (hk : h < k) (hl : k - 1 ≤ ks.length) (hn : ∀ j kd, j < k - 1 → ks[j]? = some kd → isClo kd = false) : inn ks h ∈ arD ks k := by
  obtain ⟨t, ht⟩ := S_suf (ks := ks) (h := h - 1) (k - 1) (by omega) hl hn
  unfold arD inn
  rw [ht]
  cases hS : (bkAt ks (h - 1)).S with
  | nil => exact List.mem_cons_self
  | cons p r =>
    obtain ⟨o, kd⟩ := p
    show o ∈ 0 :: _
    refine List.mem_cons_of_mem _ (List.mem_reverse.mpr (List.mem_map.mpr ⟨(o, kd), ?_, rfl⟩))
    exact List.mem_append_right _ List.mem_cons_self
theorem sc_all {ks : List Kd} {E : List Nm} {w : Str} {k : Nat} (hl : k - 1 ≤ ks.length) (hn : ∀ j kd, j < k - 1 → ks[j]? = some kd → isClo kd = false) (hE : ∀ e ∈ E, e.2.2 < k) : inSc ks E w k = decide (w ∈ E.map (·.1)) := by
  unfold inSc
  cases he : entOf E w with
  | none => exact (decide_eq_false (ent_none.mp he)).symm
  | some e =>
    have hm : e ∈ E := List.mem_of_find?_eq_some he
    have hw : e.1 = w := of_decide_eq_true (List.find?_some (p := fun e : Nm => decide (e.1 = w)) he)
    rw [decide_eq_true (show w ∈ E.map (·.1) from List.mem_map.mpr ⟨e, hm, hw⟩)]
    show (decide (e.2.2 < k) && decide (inn ks e.2.2 ∈ arD ks k)) = true
    rw [decide_eq_true (hE e hm), decide_eq_true (inn_mem (hE e hm) hl hn)]
    rfl
theorem nds_ch {KS : List Kd} {E : List Nm} {k n : Nat} {w : Str} (h1 : 1 ≤ n) (hw : wdOk w) : ndsD [newR, copyR] KS E k (chN n w) = if w = "new()" ∨ inSc KS E w k = true then none else some (.un w) := by
  obtain ⟨m, rfl⟩ : ∃ m, n = m + 1 := ⟨n - 1, by omega⟩
  have hr : ((List.range m).map fun i => Nd.op "part" [i]).findSome? (ndD [newR, copyR] KS E k) = none := by
    rw [List.findSome?_eq_none_iff]
    intro x hx
    obtain ⟨i, _, rfl⟩ := List.mem_map.mp hx
    rfl
  show (baseN w :: (List.range m).map fun i => Nd.op "part" [i]).findSome? (ndD [newR, copyR] KS E k) = _
  rw [List.findSome?_cons, hr]
  unfold baseN
  by_cases e : w = "new()"
  · rw [if_pos e, if_pos (.inl e)]
    rfl
  · rw [if_neg e]
    have hnm : ndD [newR, copyR] KS E k (.name w) = if inSc KS E w k = true then none else some (Er.un w) := rfl
    rw [hnm]
    by_cases z : inSc KS E w k = true
    · rw [if_pos z, if_pos (.inr z)]
    · rw [if_neg z, if_neg (fun q => q.elim e z)]
def erL : Option Er → List V
  | none => [.str "let", .str ""]
  | some (.lg z) => [.str "large", .str z]
  | some (.dn w) => [.str "twice", .str w]
  | some (.un w) => [.str "name", .str w]
  | some (.ub j) => [.str "unbalanced", .int ((j : Nat) : Int)]
  | some (.uf w) => [.str w]
  | some (.wc w) => [.str w]
  | some (.nr w) => [.str w]
def kn : Option Er → Prop
  | some (.uf _) => False
  | some (.wc _) => False
  | some (.nr _) => False
  | some (.dn w) => okS w = true
  | some (.un w) => okS w = true
  | some (.lg z) => z = "rows" ∨ z = "names" ∨ z = "depth" ∨ z = "nodes"
  | _ => True
theorem in_deepK (k : Kd) : inV (.str (kS k)) [.str "block", .str "if", .str "loop"] = isDeep k := by cases k <;> decide +kernel
theorem flat_strs (ks : List Str) : (ks.map V.str).all flatV = true := by
  rw [List.all_map]
  exact List.all_eq_true.mpr fun _ _ => rfl
end
end K24

set_option Elab.async false
set_option linter.all false
set_option maxRecDepth 100000
namespace K24
open PySem PySem.Spec PyProof.Rows L2 Evl TL UL StX
section
variable {P : Program} {w : World} {K : PySem.W.Frag} {mg : Str → Option Value} {base : Heap} {A : Adr}
def spDue : Sp := fun vs H Q _ => ∃ (o L : Addr) (as : List Addr) (bs : List LR) (e : Nat) (os : List Str), vs = [.ref o, .ref L] ∧ H o = some (.lst (os.map V.str)) ∧ (∀ z ∈ os, okS z = true) ∧ os.length ≤ 18 ∧ H L = some (.lst (as.map V.ref)) ∧ Al2 (LRAt H) as (rowsOf bs e) ∧ RsOk bs e ∧ ∀ D H', Ex H H' → H' D = some (.lst (erL (progD [newR, copyR] os (rsOf bs e)))) → kn (progD [newR, copyR] os (rsOf bs e)) → Q (.ref D) H'
theorem ok_due (T : Tx0 w K mg A) : FnOk P w K mg base CX0 4 A.due A.d_due p_due spDue := by
  refine T.F_due.ok sc_due (fun vs H Q E h => ?_) (fun cdv Ar outer s H vs Q E hr h => ?_)
  · obtain ⟨o, L, as, bs, e, os, rfl, _⟩ := h
    rfl
  · obtain ⟨o, L, as, bs, e, os, rfl, ho, hos, l18, hL, hA, ok, k⟩ := h
    refine ⟨_, (pss_cons (ps_if (pt_cmpR op_gt (pe_callB call_len_seq (by rfl) T.m_len PySem.boot_len (pa_cons (pv 1) pa_nil)) pe_int (nomark _)) (pss_one (ps_ret (pe_lst (pa_cons pe_str (pa_cons pe_str pa_nil))))) pss_nil)
      (pss_cons (ps_set (i := 2) sc_due.nd rfl (Or.inl rfl) (pe_lst pa_nil))
      (pss_cons (ps_for PassesOwn.never rfl (pi_list (pv 0)) (pg_name (i := 3) sc_due.nd rfl (Or.inl rfl)) (pss_cons (ps_if (pt_cmpR op_in_seq (pv 3) (pv 2) (by rfl)) (pss_one (ps_ret (pe_lst (pa_cons pe_str (pa_cons (pv 3) pa_nil))))) pss_nil)
        (pss_one (ps_expr (pe_bm PySem.F.plainAttrs_list PySem.F.slot_list_append PySem.F.type_list_append mt_append (pv 2) (pa_cons (pv 3) pa_nil))))))
      (pss_cons (ps_if (pt_cmpR op_gt (pe_callB call_len_seq (by rfl) T.m_len PySem.boot_len (pa_cons (pv 2) pa_nil)) pe_int (nomark _)) (pss_one (ps_ret (pe_lst (pa_cons pe_str (pa_cons pe_str pa_nil))))) pss_nil)
      (pss_cons (ps_set (i := 4) sc_due.nd rfl (Or.inl rfl) pe_int)
      (pss_cons (ps_set (i := 5) sc_due.nd rfl (Or.inl rfl) pe_int)
      (pss_cons (ps_for PassesOwn.never rfl (pi_list (pv 1)) (pg_name (i := 6) sc_due.nd rfl (Or.inl rfl)) (pss_one (ps_if (pt_cmpR op_in_seq (pe_ix ix_list (pv 6) pe_int (fun _ _ => rfl)) (pe_lst (pa_cons pe_str (pa_cons pe_str (pa_cons pe_str pa_nil)))) (by rfl)) (pss_cons (ps_set (i := 5) sc_due.nd rfl (Or.inl rfl) (pe_op op_add (pv 5) pe_int))
          (pss_one (ps_if (pt_cmpR op_gt (pv 5) pe_int (nomark _)) (pss_one (ps_ret (pe_lst (pa_cons pe_str (pa_cons pe_str pa_nil))))) pss_nil))) (pss_one (ps_if (pt_cmpR op_eq (pe_ix ix_list (pv 6) pe_int (fun _ _ => rfl)) pe_str (nomark _)) (pss_one (ps_set (i := 5) sc_due.nd rfl (Or.inl rfl) (pe_op op_sub (pv 5) pe_int))) (pss_cons (ps_set (i := 4) sc_due.nd rfl (Or.inl rfl) (pe_op op_add (pv 4) (pe_ix ix_list (pv 6) pe_int (fun _ _ => rfl))))
            (pss_cons (ps_if (pt_cmpR op_gt (pv 4) pe_int (nomark _)) (pss_one (ps_ret (pe_lst (pa_cons pe_str (pa_cons pe_str pa_nil))))) pss_nil)
            (Evl.pss_cut (ps_if (PW.pt (pw_and (pt_cmpR op_ne (pe_ix ix_list (pv 6) pe_int (fun _ _ => rfl)) pe_str (nomark _)) (pw_and1 (pt_cmpR op_notIn_seq (pe_ix ix_list (pv 6) pe_int (fun _ _ => rfl)) (pv 2) (by rfl))))) (pss_one (ps_ret (pe_lst (pa_cons pe_str (pa_cons (pe_ix ix_list (pv 6) pe_int (fun _ _ => rfl)) pa_nil))))) pss_nil)
            (pss_one (ps_if (pt_cmpR op_ne (pe_ix ix_list (pv 6) pe_int (fun _ _ => rfl)) pe_str (nomark _)) (pss_cons (ps_if (pt_cmpR op_in_seq (pe_ix ix_list (pv 6) pe_int (fun _ _ => rfl)) (pv 2) (by rfl)) (pss_one (ps_ret (pe_lst (pa_cons pe_str (pa_cons (pe_ix ix_list (pv 6) pe_int (fun _ _ => rfl)) pa_nil))))) pss_nil)
              (pss_cons (ps_if (pt_cmpR op_gt (pe_callB call_len_seq (by rfl) T.m_len PySem.boot_len (pa_cons (pv 2) pa_nil)) pe_int (nomark _)) (pss_one (ps_ret (pe_lst (pa_cons pe_str (pa_cons pe_str pa_nil))))) pss_nil)
              (pss_one (ps_expr (pe_bm PySem.F.plainAttrs_list PySem.F.slot_list_append PySem.F.type_list_append mt_append (pv 2) (pa_cons (pe_ix ix_list (pv 6) pe_int (fun _ _ => rfl)) pa_nil)))))) pss_nil))))))))))
      (pss_cons (ps_if (pt_cmpR op_gt (pv 5) pe_int (nomark _)) (pss_one (ps_ret (pe_lst (pa_cons pe_str (pa_cons (pe_op op_add (pe_callB call_len_seq (by rfl) T.m_len PySem.boot_len (pa_cons (pv 1) pa_nil)) pe_int) pa_nil))))) pss_nil)
      (pss_one (ps_ret (pe_lst (pa_cons pe_str (pa_cons pe_str pa_nil))))))))))))), ?_⟩
    have lA : as.length = bs.length + e := by rw [hA.len, rowsOf_len]
    have lR := rsOf_len bs e
    have l51 := ok.l
    have e11 := ok.e11
    have ret : ∀ (H' : Hp) (v : List V) (er : Option Er) (D : Addr), Ex H H' → H' D = none → progD [newR, copyR] os (rsOf bs e) = er → v = erL er → kn er → Q (.ref D) (upd H' D (.lst v)) := fun H' v er D x hD h1 h2 h3 => k D _ (x.trans (Ex.new hD)) (by rw [upd_same, h1, h2]) (by rw [h1]; exact h3)
    refine ⟨_, rfl, L, _, rfl, .inl (SqL.of hL), _, _, rfl, rfl, _, rfl, ite2 (fun z => ?_) (fun z => ?_)⟩
    · have z : (48 : Int) < (((as.map V.ref).length : Nat) : Int) := of_decide_eq_true z
      rw [List.length_map] at z
      exact ⟨sz_of (by show 2 ≤ 100000; decide), fun D hD => ret H _ (some (.lg "rows")) D (Ex.refl H) hD (by unfold progD; rw [if_pos (by omega)]) rfl (.inl rfl)⟩
    have l48 : (rsOf bs e).length ≤ 48 := by
      have z : ¬ (48 : Int) < (((as.map V.ref).length : Nat) : Int) := fun y => z (decide_eq_true y)
      rw [List.length_map] at z
      omega
    have hpd : progD [newR, copyR] os (rsOf bs e) = (match outsD os with
      | some er => some er
      | none => rowsD [newR, copyR] os (rsOf bs e)) := if_neg (by omega)
    refine ⟨Nat.zero_le _, fun N hN => ?_⟩
    have eN := Ex.new (o := .lst []) hN
    have hN0 : upd H N (.lst []) N = some (.lst ((os.take 0).map V.str)) := upd_same
    generalize upd H N (.lst []) = H1 at eN hN0 ⊢
    refine ⟨_, rfl, o, rfl, ⟨_, SqL.of (eN _ _ ho)⟩, ?_⟩
    have nNo : N ≠ o := fun z => by rw [z, ho] at hN; cases hN
    have nNL : N ≠ L := fun z => by rw [z, hL] at hN; cases hN
    refine for_it (walk_list (xs := os.map V.str)) (fun i σ' H' => ∃ v3, σ' = [some (.ref o), some (.ref L), some (.ref N), v3, none, none, none] ∧ Ex H H' ∧ H' N = some (.lst ((os.take i).map V.str)) ∧ ∀ j w, j < i → os[j]? = some w → w ∉ os.take j) ⟨_, rfl, eN, hN0, fun j w hj => absurd hj (Nat.not_lt_zero _)⟩ (fun i σ' H' _ ⟨_, _, x, _⟩ => SqL.of (x _ _ ho)) ?_ ?_
    · rintro i y σ' H2' H2 hi ⟨v3, rfl, e2, hN2, hno⟩ ⟨rfl, hy⟩
      rw [List.length_map] at hi
      rw [List.getElem?_map] at hy
      obtain ⟨w, hw, rfl⟩ := Option.map_eq_some_iff.mp hy
      refine ⟨_, rfl, _, rfl, N, _, rfl, .inl (SqL.of hN2), rfl, flat_strs _, _, rfl, ?_⟩
      rw [if_neg Bool.false_ne_true, inV_strs]
      by_cases hm : w ∈ os.take i
      · rw [decide_eq_true hm]
        have hod : outsD os = some (.dn w) := by
          unfold outsD
          rw [outD_at (seen := []) (fun j w hj hw => by rw [List.nil_append]; exact hno j w hj hw) hw (by rw [List.nil_append]; exact hm)]
        refine iteT ⟨_, rfl, sz_of (by show 2 ≤ 100000; decide), fun D hD => ret H2 _ (some (.dn w)) D e2 hD (by rw [hpd, hod]) rfl (hos w (List.mem_of_getElem? hw))⟩
      · rw [decide_eq_false hm]
        have htk : (os.take (i + 1)) = os.take i ++ [w] := by rw [List.take_add_one, hw]; rfl
        refine iteF ⟨_, rfl, .inl ⟨rfl, _, SqL.of hN2⟩, _, rfl, N, _, _, rfl, rfl, hN2, sz_lt (by rw [List.length_map, List.length_take]; omega), _, rfl, e2.mut hN, by rw [upd_same, htk, List.map_append]; rfl, fun j x hj hx => ?_⟩
        by_cases ej : j = i
        · subst ej
          rw [hw] at hx
          cases hx
          exact hm
        · exact hno j x (by omega) hx
    · rintro σ' H2 ⟨v3, rfl, e2, hN2, hno⟩
      rw [List.length_map, List.take_length] at hN2
      have hod : outD [] os = none := outD_none fun j w hw => by
        rw [List.nil_append]
        exact hno j w (by rw [List.length_map]; exact (List.getElem?_eq_some_iff.mp hw).1) hw
      have hd : outsD os = if 16 < os.length then some (.lg "names") else none := by
        unfold outsD
        rw [hod]
      refine ⟨_, rfl, N, _, rfl, .inl (SqL.of hN2), _, _, rfl, rfl, _, rfl, ite2 (fun z => ?_) (fun z => ?_)⟩
      · have z : (16 : Int) < (((os.map V.str).length : Nat) : Int) := of_decide_eq_true z
        rw [List.length_map] at z
        rw [if_pos (by omega)] at hd
        exact ⟨sz_of (by show 2 ≤ 100000; decide), fun D hD => ret H2 _ (some (.lg "names")) D e2 hD (by rw [hpd, hd]) rfl (.inr (.inl rfl))⟩
      have l16 : os.length ≤ 16 := by
        have z : ¬ (16 : Int) < (((os.map V.str).length : Nat) : Int) := fun y => z (decide_eq_true y)
        rw [List.length_map] at z
        omega
      rw [if_neg (by omega)] at hd
      rw [hd] at hpd
      have hpd : progD [newR, copyR] os (rsOf bs e) = rowsD [newR, copyR] os (rsOf bs e) := hpd
      refine ⟨_, rfl, L, rfl, ⟨_, SqL.of (e2 _ _ hL)⟩, ?_⟩
      refine for_it (walk_list (xs := as.map V.ref)) (fun i σ' H' => ∃ v3 v6, σ' = [some (.ref o), some (.ref L), some (.ref N), v3, some (.int ((cntR (rsOf bs e) i : Nat) : Int)), some (.int (((bkAt (kdsOf (rsOf bs e)) i).S.length : Nat) : Int)), v6] ∧ Ex H H' ∧ H' N = some (.lst (((envAt os (rsOf bs e) i).map (·.1)).map V.str)) ∧ ∀ j, j < i → rowD [newR, copyR] os (rsOf bs e) j = none) ⟨_, _, rfl, e2, by rw [env_zero, envO_names]; exact hN2, fun j hj => absurd hj (Nat.not_lt_zero _)⟩ (fun i σ' H' _ ⟨_, _, _, x, _⟩ => SqL.of (x _ _ hL)) ?_ ?_
      · clear e2 hN2 hno H2 v3 eN hN0 H1
        rintro i y σ' H3' H3 hi ⟨v3, v6, rfl, e3, hN3, hno⟩ ⟨rfl, hy⟩
        rw [List.length_map] at hi
        rw [List.getElem?_map] at hy
        obtain ⟨a, ha, rfl⟩ := Option.map_eq_some_iff.mp hy
        obtain ⟨x, hx, hxa⟩ := hA.get i a ha
        have hx3 : LRAt H3 a x := hxa.mono e3
        have hr := rsOf_at hx
        have hks := ks_at hx
        have hrow := row_due (bs := [newR, copyR]) (os := os) hr
        have bad : ∀ er, rowD [newR, copyR] os (rsOf bs e) i = some er → progD [newR, copyR] os (rsOf bs e) = some er := fun er h => hpd.trans (rows_some hno (by omega) h)
        have next : rowD [newR, copyR] os (rsOf bs e) i = none → ∀ j, j < i + 1 → rowD [newR, copyR] os (rsOf bs e) j = none := fun h j hj => by
          by_cases ej : j = i
          · rw [ej]; exact h
          · exact hno j (by omega)
        have hS := S_len (e := e) ok.ok i (by omega)
        have hs : (bkAt (kdsOf (rsOf bs e)) (i + 1)).S = (if isOpn x.k then [(i + 1, x.k)] else []) ++ (if isClo x.k then (bkAt (kdsOf (rsOf bs e)) i).S.tail else (bkAt (kdsOf (rsOf bs e)) i).S) := by rw [bk_succ hks]; rfl
        have henv := env_succ (os := os) hr
        have htk : cntR (rsOf bs e) (i + 1) = cntR (rsOf bs e) i + x.r.ns.length := by
          unfold cntR
          rw [List.take_add_one, hr, List.map_append, List.sum_append]
          show _ + (x.r.ns.length + 0) = _
          omega
        have at0 : SqL K H3 a [.str (kS x.k), .str x.lb, .str x.wd, .int ((x.sz : Nat) : Int), .str (rT x.r)] := SqL.of hx3
        refine ⟨_, rfl, a, _, 0, .str (kS x.k), rfl, rfl, at0, atI_nat (j := 0) rfl, sz_of (by show 3 ≤ 100000; decide), fun D hD => ⟨D, _, rfl, .inl (SqL.of upd_same), rfl, rfl, _, rfl, ?_⟩⟩
        have eD := Ex.new (o := .lst [V.str "block", V.str "if", V.str "loop"]) hD
        have e4 := e3.trans eD
        have hN4 := eD _ _ hN3
        have hx4 := hx3.mono eD
        generalize upd H3 D (.lst [V.str "block", V.str "if", V.str "loop"]) = H4 at e4 hN4 hx4 ⊢
        clear hx3 at0 hN3 e3 eD hD D
        have at4 : SqL K H4 a [.str (kS x.k), .str x.lb, .str x.wd, .int ((x.sz : Nat) : Int), .str (rT x.r)] := SqL.of hx4
        show if inV (.str (kS x.k)) [V.str "block", V.str "if", V.str "loop"] = true then _ else _
        rw [in_deepK]
        cases hdp : isDeep x.k with
        | true =>
          have hX : isX x.k = false := by cases hk : x.k <;> rw [hk] at hdp <;> first | rfl | cases hdp
          have hop : isOpn x.k = true := by cases hk : x.k <;> rw [hk] at hdp <;> first | rfl | cases hdp
          have hcl : isClo x.k = false := by cases hk : x.k <;> rw [hk] at hdp <;> first | rfl | cases hdp
          have hns : x.r.ns.length = 0 := by show (if isX x.k then chN x.sz x.wd else []).length = 0; rw [hX]; rfl
          have hdc : declR (i + 1) x.r = [] := by
            unfold declR
            rw [if_neg (fun z => by rcases z with z | z <;> (have z : x.k = _ := z; rw [z] at hX; cases hX))]
          have hdu : dueS (bkAt (kdsOf (rsOf bs e)) i).S x.r.k = if (bkAt (kdsOf (rsOf bs e)) i).S.length ≤ 6 then Due.ok else .lg := by
            show dueS _ x.k = _
            cases hk : x.k <;> rw [hk] at hdp <;> first | rfl | cases hdp
          rw [hop, hcl] at hs
          rw [hdu] at hrow
          have hX' : isX x.r.k = false := hX
          refine iteT ⟨_, rfl, _, 1, rfl, rfl, _, rfl, _, _, rfl, rfl, _, rfl, ite2 (fun z => ?_) (fun z => ?_)⟩
          · have z : (7 : Int) < (((bkAt (kdsOf (rsOf bs e)) i).S.length : Nat) : Int) + 1 := of_decide_eq_true z
            rw [if_neg (by omega)] at hrow
            exact ⟨sz_of (by show 2 ≤ 100000; decide), fun D hD => ret H4 _ (some (.lg "depth")) D e4 hD (bad _ hrow) rfl (.inr (.inr (.inl rfl)))⟩
          · have z : ¬ (7 : Int) < (((bkAt (kdsOf (rsOf bs e)) i).S.length : Nat) : Int) + 1 := fun y => z (decide_eq_true y)
            rw [if_pos (by omega), hX'] at hrow
            refine ⟨v3, some (.ref a), ?_, e4, by rw [henv, hdc, List.append_nil]; exact hN4, next hrow⟩
            rw [hs, htk, hns]
            rfl
        | false =>
          refine iteF ⟨_, rfl, a, _, 0, .str (kS x.k), rfl, rfl, at4, atI_nat (j := 0) rfl, rfl, _, rfl, ?_⟩
          rcases rows_at hx with ⟨hib, hbx⟩ | ⟨hib, hie, rfl⟩
          rotate_left
          · refine ite2 (fun _ => ?_) (fun z => absurd (by decide +kernel) z)
            have hpos : 1 ≤ (bkAt (kdsOf (rsOf bs e)) i).S.length := by
              rw [hS, List.take_of_length_le hib]
              rcases ok.eo with h | h <;> omega
            have hl : (((bkAt (kdsOf (rsOf bs e)) (i + 1)).S.length : Nat) : Int) = (((bkAt (kdsOf (rsOf bs e)) i).S.length : Nat) : Int) - 1 := by
              rw [hs]
              show (((bkAt (kdsOf (rsOf bs e)) i).S.tail.length : Nat) : Int) = _
              rw [List.length_tail]
              omega
            have hrn : rowD [newR, copyR] os (rsOf bs e) i = none := by
              rw [hrow]
              cases hSS : (bkAt (kdsOf (rsOf bs e)) i).S with
              | nil => rw [hSS] at hpos; exact absurd hpos (by decide)
              | cons p r => rfl
            refine ⟨_, rfl, _, 1, rfl, rfl, v3, some (.ref a), ?_, e4, by rw [henv, show declR (i + 1) finR.r = [] from rfl, List.append_nil]; exact hN4, next hrn⟩
            rw [hl, htk]
            rfl
          · have hok := ok.ok x (List.mem_of_getElem? hbx)
            have hk : kOk x.k := by
              rcases hok.kd with h | h | h | h
              · exact .inl h
              · exact .inr (.inl h)
              · exact .inr (.inr h)
              · rw [h] at hdp; cases hdp
            have hX : isX x.k = true := by rcases hk with h | h | h <;> rw [h] <;> rfl
            have hop : isOpn x.k = false := by rcases hk with h | h | h <;> rw [h] <;> rfl
            have hns : x.r.ns = chN x.sz x.wd := if_pos hX
            have hsz := hok.sz hX
            have hdu : dueS (bkAt (kdsOf (rsOf bs e)) i).S x.r.k = .ok := by
              show dueS _ x.k = _
              rcases hk with h | h | h <;> rw [h] <;> rfl
            have hl : (bkAt (kdsOf (rsOf bs e)) (i + 1)).S.length = (bkAt (kdsOf (rsOf bs e)) i).S.length := by
              rw [hs, hop, hok.nclo]
              rfl
            have hX' : isX x.r.k = true := hX
            have hks2 : (kdsOf (rsOf bs e)).length = bs.length + e := by rw [kds_len, lR]
            have hsc := sc_all (ks := kdsOf (rsOf bs e)) (E := envAt os (rsOf bs e) i) (w := x.wd) (k := i + 1) (by omega) (fun j kd hj hkd => by
              obtain ⟨y, hy⟩ : ∃ y, (rowsOf bs e)[j]? = some y := ⟨_, List.getElem?_eq_getElem (by rw [rowsOf_len]; omega)⟩
              rw [ks_at hy] at hkd
              cases hkd
              rcases rows_at hy with ⟨_, hby⟩ | ⟨hjb, _⟩
              · exact (ok.ok y (List.mem_of_getElem? hby)).nclo
              · omega) (fun en hen => by have := env_le (os := os) (rs := rsOf bs e) i (by omega) en hen; omega)
            have hnds := nds_ch (KS := kdsOf (rsOf bs e)) (E := envAt os (rsOf bs e) i) (k := i + 1) hsz.1 (hok.wd hX)
            have wf : ∀ r ∈ rsOf bs e, WfRw r := fun r hr => by
              obtain ⟨y, hy, rfl⟩ := List.mem_map.mp hr
              rcases List.mem_append.mp hy with h | h
              · exact (ok.ok y h).wf
              · rw [(List.mem_replicate.mp h).2]; exact fin_wf
            have h16 := (env16 (bs := [newR, copyR]) l16 i (by omega) hno wf).1
            rw [hdu] at hrow
            have hrow : rowD [newR, copyR] os (rsOf bs e) i = if isX x.r.k = true then (if 100 < cntR (rsOf bs e) (i + 1) then some (.lg "nodes") else (match ndsD [newR, copyR] (kdsOf (rsOf bs e)) (envAt os (rsOf bs e) i) (i + 1) x.r.ns with
              | some er => some er
              | none => nmD (kdsOf (rsOf bs e)) (envAt os (rsOf bs e) i) (i + 1) x.r)) else none := hrow
            rw [if_pos hX'] at hrow
            have hcn : (((cntR (rsOf bs e) i : Nat) : Int) + ((x.sz : Nat) : Int)) = ((cntR (rsOf bs e) (i + 1) : Nat) : Int) := by rw [htk, hns, ch_len]; omega
            refine ite2 (fun z => absurd (kS_inj (k' := .fin) (V.str.inj (of_decide_eq_true z))) (fun q => by rw [q] at hX; cases hX)) (fun _ => ?_)
            refine ⟨_, rfl, _, rfl, a, _, 3, .int ((x.sz : Nat) : Int), rfl, rfl, at4, atI_nat (j := 3) rfl, _, _, rfl, rfl, ?_⟩
            refine ⟨_, rfl, _, _, rfl, rfl, _, rfl, ite2 (fun z => ?_) (fun z => ?_)⟩
            · have z : (100 : Int) < ((cntR (rsOf bs e) i : Nat) : Int) + ((x.sz : Nat) : Int) := of_decide_eq_true z
              rw [hcn] at z
              rw [if_pos (by omega)] at hrow
              exact ⟨sz_of (by show 2 ≤ 100000; decide), fun D hD => ret H4 _ (some (.lg "nodes")) D e4 hD (bad _ hrow) rfl (.inr (.inr (.inr rfl)))⟩
            have z : ¬ (100 : Int) < ((cntR (rsOf bs e) i : Nat) : Int) + ((x.sz : Nat) : Int) := fun y => z (decide_eq_true y)
            rw [hcn] at z
            rw [if_neg (by omega), hns, hnds, hsc] at hrow
            refine ⟨fun σ' H' => σ' = [some (.ref o), some (.ref L), some (.ref N), v3, some (.int (((cntR (rsOf bs e) i : Nat) : Int) + ((x.sz : Nat) : Int))), some (.int (((bkAt (kdsOf (rsOf bs e)) i).S.length : Nat) : Int)), some (.ref a)] ∧ H' = H4 ∧ (x.wd = "new()" ∨ x.wd ∈ (envAt os (rsOf bs e) i).map (·.1)), ?_, ?_⟩
            · refine ⟨_, rfl, a, _, 2, .str x.wd, rfl, rfl, at4, atI_nat (j := 2) rfl, rfl, _, rfl, ?_⟩
              by_cases hw : x.wd = "new()"
              · rw [hw]
                exact ite2 (fun z => absurd z (by decide +kernel)) (fun _ => ite2 (fun z => Bool.noConfusion z) (fun _ => ⟨rfl, rfl, .inl rfl⟩))
              · refine ite2 (fun _ => ?_) (fun z => absurd (show (!decide (V.str x.wd = V.str "new()")) = true by rw [decide_eq_false (fun y => hw (V.str.inj y))]; rfl) z)
                refine ⟨_, rfl, a, _, 2, .str x.wd, rfl, rfl, at4, atI_nat (j := 2) rfl, _, rfl, N, _, rfl, .inl (SqL.of hN4), rfl, flat_strs _, _, rfl, ?_⟩
                rw [if_pos rfl, inV_strs]
                by_cases hm : x.wd ∈ (envAt os (rsOf bs e) i).map (·.1)
                · rw [decide_eq_true hm]
                  exact iteF ⟨rfl, rfl, .inr hm⟩
                · rw [decide_eq_false hm]
                  rw [if_neg (fun y => y.elim hw (fun y => hm (of_decide_eq_true y)))] at hrow
                  refine iteT ⟨_, rfl, a, _, 2, .str x.wd, rfl, rfl, at4, atI_nat (j := 2) rfl, sz_of (by show 2 ≤ 100000; decide), fun D hD => ret H4 _ (some (.un x.wd)) D e4 hD (bad _ hrow) rfl ?_⟩
                  rcases hok.wd hX with h | h
                  · exact absurd h hw
                  · exact h
            rintro σ5 H5 ⟨rfl, rfl, hw⟩
            rw [if_pos (hw.imp id decide_eq_true)] at hrow
            have hrow : rowD [newR, copyR] os (rsOf bs e) i = nmD (kdsOf (rsOf bs e)) (envAt os (rsOf bs e) i) (i + 1) x.r := hrow
            refine ⟨_, rfl, a, _, 0, .str (kS x.k), rfl, rfl, at4, atI_nat (j := 0) rfl, rfl, _, rfl, ?_⟩
            by_cases hu : x.k = .use
            · have hnm : nmD (kdsOf (rsOf bs e)) (envAt os (rsOf bs e) i) (i + 1) x.r = none := by
                have hu' : x.r.k = .use := hu
                unfold nmD
                rw [hu']
                rfl
              have hdc : declR (i + 1) x.r = [] := by
                have hu' : x.r.k = .use := hu
                unfold declR
                rw [hu']
                rfl
              refine ite2 (fun z => absurd z (by rw [hu]; decide +kernel)) (fun _ => ⟨v3, some (.ref a), by rw [hl, ← hcn], e4, by rw [henv, hdc, List.append_nil]; exact hN4, next (hrow.trans hnm)⟩)
            · have hvr : x.r.k = .val ∨ x.r.k = .ref := by
                rcases hk with h | h | h
                · exact absurd h hu
                · exact .inl h
                · exact .inr h
              have hB : isB x.k = true := by rcases hvr with h | h <;> (have h : x.k = _ := h; rw [h]; rfl)
              have hnm : nmD (kdsOf (rsOf bs e)) (envAt os (rsOf bs e) i) (i + 1) x.r = if x.lb ∈ (envAt os (rsOf bs e) i).map (·.1) then some (.dn x.lb) else if (envAt os (rsOf bs e) i).length = 16 then some (.lg "names") else none := by
                unfold nmD
                rw [if_neg (fun q => by rcases hvr with h | h <;> rw [h] at q <;> cases q), if_pos hvr]
                rfl
              have hdc : declR (i + 1) x.r = [(x.lb, kS x.k, i + 1)] := if_pos hvr
              rw [hnm] at hrow
              refine ite2 (fun _ => ?_) (fun z => absurd (show (!decide (V.str (kS x.k) = V.str "use")) = true by rw [show decide (V.str (kS x.k) = V.str "use") = false from decide_eq_false (fun y => hu (kS_inj (k' := .use) (V.str.inj y)))]; rfl) z)
              refine ⟨_, rfl, a, _, 1, .str x.lb, rfl, rfl, at4, atI_nat (j := 1) rfl, _, rfl, N, _, rfl, .inl (SqL.of hN4), rfl, flat_strs _, _, rfl, ?_⟩
              rw [if_neg Bool.false_ne_true, inV_strs]
              by_cases hm : x.lb ∈ (envAt os (rsOf bs e) i).map (·.1)
              · rw [decide_eq_true hm]
                rw [if_pos hm] at hrow
                exact iteT ⟨_, rfl, a, _, 1, .str x.lb, rfl, rfl, at4, atI_nat (j := 1) rfl, sz_of (by show 2 ≤ 100000; decide), fun D hD => ret _ _ (some (.dn x.lb)) D e4 hD (bad _ hrow) rfl (hok.b hB)⟩
              · rw [decide_eq_false hm]
                rw [if_neg hm] at hrow
                refine iteF ⟨_, rfl, N, _, rfl, .inl (SqL.of hN4), _, _, rfl, rfl, _, rfl, ite2 (fun z => ?_) (fun z => ?_)⟩
                · have z : (15 : Int) < (((((envAt os (rsOf bs e) i).map (·.1)).map V.str).length : Nat) : Int) := of_decide_eq_true z
                  rw [List.length_map, List.length_map] at z
                  rw [if_pos (by omega)] at hrow
                  exact ⟨sz_of (by show 2 ≤ 100000; decide), fun D hD => ret _ _ (some (.lg "names")) D e4 hD (bad _ hrow) rfl (.inr (.inl rfl))⟩
                · have z : ¬ (15 : Int) < (((((envAt os (rsOf bs e) i).map (·.1)).map V.str).length : Nat) : Int) := fun y => z (decide_eq_true y)
                  rw [List.length_map, List.length_map] at z
                  rw [if_neg (by omega)] at hrow
                  refine ⟨_, rfl, .inl ⟨rfl, _, SqL.of hN4⟩, _, rfl, a, _, 1, .str x.lb, rfl, rfl, at4, atI_nat (j := 1) rfl, N, _, _, rfl, rfl, hN4, sz_lt (by rw [List.length_map, List.length_map]; omega), v3, some (.ref a), by rw [hl, ← hcn], e4.mut hN, by rw [upd_same, henv, hdc, List.map_append, List.map_append]; rfl, next hrow⟩
      · rintro σ' H3 ⟨v3, v6, rfl, e3, hN3, hno⟩
        rw [List.length_map, lA, ← lR] at hno ⊢
        have hrs := rows_none hno
        refine ⟨_, rfl, _, _, rfl, rfl, _, rfl, ite2 (fun z => ?_) (fun z => ?_)⟩
        · have z : (0 : Int) < (((bkAt (kdsOf (rsOf bs e)) (rsOf bs e).length).S.length : Nat) : Int) := of_decide_eq_true z
          rw [if_neg (fun q => by rw [q] at z; exact absurd z (by decide))] at hrs
          refine ⟨_, rfl, L, _, rfl, .inl (SqL.of (e3 _ _ hL)), _, 1, rfl, rfl, sz_of (by show 2 ≤ 100000; decide), fun D hD => ret H3 _ (some (.ub ((rsOf bs e).length + 1))) D e3 hD (hpd.trans hrs) ?_ trivial⟩
          rw [List.length_map, lA, ← lR]
          rfl
        · have z : ¬ (0 : Int) < (((bkAt (kdsOf (rsOf bs e)) (rsOf bs e).length).S.length : Nat) : Int) := fun y => z (decide_eq_true y)
          rw [if_pos (List.length_eq_zero_iff.mp (by omega))] at hrs
          exact ⟨sz_of (by show 2 ≤ 100000; decide), fun D hD => ret H3 _ none D e3 hD (hpd.trans hrs) rfl trivial⟩
end
end K24

set_option Elab.async false
set_option linter.all false
set_option maxRecDepth 100000
namespace K24
open PySem PySem.Spec PyProof.Rows L2 Evl TL UL StX
section
variable {P : Program} {w : World} {K : PySem.W.Frag} {mg : Str → Option Value} {base : Heap} {A : Adr}
/-! ### what is told -/
theorem rs_wf {bs : List LR} {e : Nat} (ok : RsOk bs e) : ∀ r ∈ rsOf bs e, WfRw r := fun r hr => by
  obtain ⟨y, hy, rfl⟩ := List.mem_map.mp hr
  rcases List.mem_append.mp hy with h | h
  · exact (ok.ok y h).wf
  · rw [(List.mem_replicate.mp h).2]; exact fin_wf
def spTold (K : PySem.W.Frag) (A : Adr) : Sp := fun vs H Q _ => ∃ (o L : Addr) (as : List Addr) (bs : List LR) (e : Nat) (os : List Str) (rd : Bool), vs = [.ref o, .ref L, .str (pT [] os (rsOf bs e)), .bl rd] ∧ H o = some (.lst (os.map V.str)) ∧ (∀ z ∈ os, okS z = true) ∧ os.length ≤ 18 ∧ H L = some (.lst (as.map V.ref)) ∧ Al2 (LRAt H) as (rowsOf bs e) ∧ RsOk bs e ∧ kn (progD [newR, copyR] os (rsOf bs e)) ∧ ∀ D H', Ex H H' → H' D = some (.lst (erL (progD [newR, copyR] os (rsOf bs e)))) → Q (.ref D) H'
theorem ok_told (T : Tx0 w K mg A) : FnOk P w K mg base CX0 25 A.told A.d_told p_told (spTold K A) := by
  refine T.F_told.ok sc_told (fun vs H Q E h => ?_) (fun cdv Ar outer s H vs Q E hr h => ?_)
  · obtain ⟨o, L, as, bs, e, os, rd, rfl, _⟩ := h
    rfl
  · obtain ⟨o, L, as, bs, e, os, rd, rfl, ho, hos, l18, hL, hA, ok, hkn, k⟩ := h
    refine ⟨_, (pss_cons (ps_set (i := 4) sc_told.nd rfl (Or.inl rfl) pe_non)
      (pss_cons (ps_set (i := 5) sc_told.nd rfl (Or.inl rfl) (pe_lst (pa_cons pe_str (pa_cons pe_str pa_nil))))
      (Evl.pss_cut (UL.ps_try_asMany (i := 6) rfl rfl sc_told.nd rfl rfl takes0 (fun W pn xe tk _ => (pss_one (ps_if (pt_val (pv 3)) (pss_one (ps_set (i := 4) sc_told.nd rfl (Or.inl rfl) (UL.pe_cmethT (E := WE W) (pe_glob (v := .ref A.Program) (by rfl) T.g_Program rfl) T.cr_Program T.cm_pr_read (ok_pr_read T) (hr.mono (by decide)) T.b_pr_read (fun σ => passAt tk σ) (pa_cons (pv 2) pa_nil)))) (pss_one (ps_set (i := 4) sc_told.nd rfl (Or.inl rfl) (UL.pe_makeT (E := WE W) T.mk_Program (ok_pr_init T) (hr.mono (by decide)) (by rfl) T.g_Program T.b_pr_init (fun σ => passAt tk σ) (pa_cons (UL.pe_makeR0 T.mk_Book (ok_book_init T) (hr.mono (by decide)) (by rfl) T.g_Book passL) (pa_cons (pv 0) (pa_cons (show PE (Cx.tr _ pn xe) _ (tCB (fun xs H Q => ∃ p ys, xs = [V.ref p] ∧ ((SqL K H p ys ∧ ∀ l, H l = none → Q (V.ref l) (upd H l (.tup ys))) ∨ (SqT K H p ys ∧ Q (V.ref p) H))) (tCons (tLc (iList K _) (gName 7) tYes _ [7]) tNil)) from (pe_callTy call_tuple_of (by rfl) T.m_tuple (by decide +kernel) (pa_cons (show PE (Cx.tr _ pn xe) _ (tLc (iList K _) (gName 7) tYes _ [7]) from (pe_lc (own := [("_law_row", 7)]) (g := gName 7) (tt := tYes) rfl sc_told.nd (pi_list (pv 1)) (blkOk_by (N := n_told) (sc := defScope s_told) (by decide +kernel)) (fun _ _ _ _ _ => pg_name (i := 7) sc_told.nd rfl (Or.inl rfl)) (fun _ _ _ _ _ => pts_nil) (fun _ _ _ _ _ => (UL.pe_smS (E := fun _ => E0) (pe_glob (v := .ref A.Row) (by rfl) T.g_Row rfl) T.sm_row_read (ok_row_read T) (hr.mono (by decide)) T.b_row_read (fun σ pins H s e s' I c => pass0 pins σ H s e s' I c) (pa_cons (pe_ix (show IxR _ (rIxL K) from ix_list) (pv 7) pe_int (fun _ _ => rfl)) pa_nil))))) pa_nil))) pa_nil))))))))) (.cons ⟨rfl, by decide, Or.inl T.g_TooLarge⟩ (fun a oe cls d pn hz hf => (pss_one (ps_set (i := 5) sc_told.nd rfl (Or.inl rfl) (pe_lst (pa_cons pe_str (pa_cons (pe_xf T.ex_TooLarge.xf T.ex_TooLarge.nw hz hf (pv 6)) pa_nil)))))) (.cons ⟨rfl, by decide, Or.inl T.g_DuplicateName⟩ (fun a oe cls d pn hz hf => (pss_one (ps_set (i := 5) sc_told.nd rfl (Or.inl rfl) (pe_lst (pa_cons pe_str (pa_cons (pe_xf T.ex_DuplicateName.xf T.ex_DuplicateName.nw hz hf (pv 6)) pa_nil)))))) (.cons ⟨rfl, by decide, Or.inl T.g_UnknownName⟩ (fun a oe cls d pn hz hf => (pss_one (ps_set (i := 5) sc_told.nd rfl (Or.inl rfl) (pe_lst (pa_cons pe_str (pa_cons (pe_xf T.ex_UnknownName.xf T.ex_UnknownName.nw hz hf (pv 6)) pa_nil)))))) (.cons ⟨rfl, by decide, Or.inl T.g_Unbalanced⟩ (fun a oe cls d pn hz hf => (pss_one (ps_set (i := 5) sc_told.nd rfl (Or.inl rfl) (pe_lst (pa_cons pe_str (pa_cons (pe_xf T.ex_Unbalanced.xf T.ex_Unbalanced.nw hz hf (pv 6)) pa_nil)))))) .nil)))))
      (pss_cons (ps_if (PW.pt (pw_and (pt_cmpR op_notN (pv 4) pe_non (nomark _)) (pw_and1 (PW.pt (pw_or (pt_cmpR op_ne (pe_meth0 (pv 4) T.cl_Program T.e_pr_text (ok_pr_text T) (hr.mono (by decide)) T.b_pr_text .nil pass0) (pv 2) (nomark _)) (pw_or1 (pt_cmpR op_ne (pe_callB (UL.call_lenOwn (ok_pr_len T) (hr.mono (by decide)) T.e_pr_len.at_ T.e_pr_len.fn T.b_pr_len pass0) (by rfl) T.m_len PySem.boot_len (pa_cons (pv 4) pa_nil)) (pe_callB call_len_seq (by rfl) T.m_len PySem.boot_len (pa_cons (pv 1) pa_nil)) (nomark _)))))))) (pss_one (ps_ret (pe_lst (pa_cons pe_str (pa_cons (pv 2) pa_nil))))) pss_nil)
      (pss_one (ps_ret (pv 5))))))), ?_⟩
    have lA : as.length = bs.length + e := by rw [hA.len, rowsOf_len]
    have lR := rsOf_len bs e
    have l51 := ok.l
    have e11 := ok.e11
    have wf := rs_wf ok
    have nb : ∀ b ∈ ([] : List Rw), good b ∧ b.1 ≠ "new" ∧ b.1 ≠ "copy" := fun _ h => nomatch h
    refine ⟨sz_of (by show 2 ≤ 100000; decide), fun L0 hL0 => ?_⟩
    have e0 := Ex.new (o := .lst [.str "let", .str ""]) hL0
    have h0 : upd H L0 (.lst [.str "let", .str ""]) L0 = some (.lst [.str "let", .str ""]) := upd_same
    generalize upd H L0 (.lst [.str "let", .str ""]) = H2 at e0 h0 ⊢
    refine ⟨fun σ' H' => ∃ g T v6 v7, σ' = [some (.ref o), some (.ref L), some (.str (pT [] os (rsOf bs e))), some (.bl rd), some g, some (.ref T), v6, v7] ∧ Ex H H' ∧ H' T = some (.lst (erL (progD [newR, copyR] os (rsOf bs e)))) ∧ (g = .non ∨ ∃ p, g = .ref p ∧ PrA K A H' p [] os (rsOf bs e)), ?_, ?_⟩
    · refine ⟨_, rfl, rd, rfl, ?_⟩
      cases rd with
      | true =>
        refine iteT ⟨rfl, _, rfl, [], os, rsOf bs e, rfl, hos, l18, wf, by omega, nb, Nat.zero_le _, List.nodup_nil, fun hpn p H3 e3 hP _ => ?_, ?_⟩
        · exact ⟨.ref p, L0, _, _, rfl, e0.trans e3, by rw [hpn]; exact e3 _ _ h0, .inr ⟨p, rfl, hP⟩⟩
        · intro er her d H3 e3 hd
          rw [her] at hkn
          cases er with
          | lg z =>
            refine ⟨true, T.te_tt, fun _ y hy => ?_, fun q => Bool.noConfusion q⟩
            refine ⟨_, rfl, rfl, rfl, d, _, .str z, rfl, hd, rfl, sz_of (by show 2 ≤ 100000; decide), fun T' hT' => ?_⟩
            exact ⟨.non, T', _, _, rfl, (e0.trans e3).trans (Ex.new hT'), by rw [upd_same, her]; rfl, .inl rfl⟩
          | dn z =>
            refine ⟨false, T.te_dt, fun q => Bool.noConfusion q, fun _ => ⟨true, T.te_dd, fun _ y hy => ?_, fun q => Bool.noConfusion q⟩⟩
            refine ⟨_, rfl, rfl, rfl, d, _, .str z, rfl, hd, rfl, sz_of (by show 2 ≤ 100000; decide), fun T' hT' => ?_⟩
            exact ⟨.non, T', _, _, rfl, (e0.trans e3).trans (Ex.new hT'), by rw [upd_same, her]; rfl, .inl rfl⟩
          | un z =>
            refine ⟨false, T.te_nt, fun q => Bool.noConfusion q, fun _ => ⟨false, T.te_nd, fun q => Bool.noConfusion q, fun _ => ⟨true, T.te_nn, fun _ y hy => ?_, fun q => Bool.noConfusion q⟩⟩⟩
            refine ⟨_, rfl, rfl, rfl, d, _, .str z, rfl, hd, rfl, sz_of (by show 2 ≤ 100000; decide), fun T' hT' => ?_⟩
            exact ⟨.non, T', _, _, rfl, (e0.trans e3).trans (Ex.new hT'), by rw [upd_same, her]; rfl, .inl rfl⟩
          | ub j =>
            refine ⟨false, T.te_ut, fun q => Bool.noConfusion q, fun _ => ⟨false, T.te_ud, fun q => Bool.noConfusion q, fun _ => ⟨false, T.te_un, fun q => Bool.noConfusion q, fun _ => ⟨true, T.te_uu, fun _ y hy => ?_, fun q => Bool.noConfusion q⟩⟩⟩⟩
            refine ⟨_, rfl, rfl, rfl, d, _, .int ((j : Nat) : Int), rfl, hd, rfl, sz_of (by show 2 ≤ 100000; decide), fun T' hT' => ?_⟩
            exact ⟨.non, T', _, _, rfl, (e0.trans e3).trans (Ex.new hT'), by rw [upd_same, her]; rfl, .inl rfl⟩
          | uf z => exact hkn.elim
          | wc z => exact hkn.elim
          | nr z => exact hkn.elim
      | false =>
        refine iteF ?_
        intro xb xbdx hxb hxbd nb'
        have exm : ∀ {H : Hp} {y dy : Addr} {o1 o2 : HO}, H y = none → H dy = none → dy ≠ y → Ex H (upd (upd H dy o1) y o2) := fun h1 h2 n => (Ex.new h2).trans (Ex.new (by rw [upd_ne n.symm]; exact h1))
        have eb := exm (o1 := .own xb) (o2 := .ins A.Book xbdx []) hxb hxbd nb'
        have xb1 : upd (upd H2 xbdx (.own xb)) xb (.ins A.Book xbdx []) xb = some (.ins A.Book xbdx []) := upd_same
        generalize upd (upd H2 xbdx (.own xb)) xb (.ins A.Book xbdx []) = H3 at eb xb1 ⊢
        refine ⟨.ref xb, [], rfl, Nat.zero_le _, fun tp htp => ?_⟩
        refine ⟨xb, xbdx, tp, [], [], rfl, (Ex.new htp) _ _ xb1, upd_same, .nil, (fun r hr => nomatch hr), Nat.zero_le _, fun _ H4 s1 s2 e3 hB => ⟨rfl, ?_⟩, fun X z hz => ?_⟩
        rotate_left
        · exfalso
          have hd : dueOf ([] : List Rw) = (("book" : Str), ("" : Str)) := by decide +kernel
          rw [hd] at hz
          unfold errDue at hz
          rw [if_neg (by decide +kernel), if_neg (by decide +kernel)] at hz
          cases hz
        have e24 : Ex H2 H4 := fun a y h => e3 a y (by
          rw [L2.del_ne (ne_of_none h hxb)]
          exact (Ex.new htp) _ _ (eb _ _ h))
        have e04 := e0.trans e24
        have h04 := e24 _ _ h0
        have hL4 := e04 _ _ hL
        refine ⟨_, rfl, _, rfl, L, rfl, ⟨_, SqL.of hL4⟩, fun D hD => ?_⟩
        refine lc_it (walk_list (xs := as.map V.ref)) (fun i H' => ∃ cs, Ex H4 H' ∧ H' D = some (.lst (cs.map V.ref)) ∧ Al2 (RwAt A.Row A.Expression H') cs ((rsOf bs e).take i)) ⟨[], Ex.new hD, upd_same, .nil⟩ (fun i H' _ ⟨_, e, _⟩ => SqL.of (e _ _ hL4)) ?_ ?_
        · rintro i y H6' H6 hi ⟨cs, e6, hD6, hal⟩ ⟨rfl, hy⟩
          refine ⟨rfl, ?_⟩
          rw [List.length_map] at hi
          rw [List.getElem?_map] at hy
          obtain ⟨a, ha, rfl⟩ := Option.map_eq_some_iff.mp hy
          obtain ⟨x, hx, hxa⟩ := hA.get i a ha
          have hx6 : LRAt _ a x := hxa.mono (e04.trans e6)
          have hr := rsOf_at hx
          have htk : (rsOf bs e).take (i + 1) = (rsOf bs e).take i ++ [x.r] := by rw [List.take_add_one, hr]; rfl
          have lcs : cs.length = ((rsOf bs e).take i).length := hal.len
          rw [List.length_take] at lcs
          refine ⟨rfl, _, rfl, a, _, 4, .str (rT x.r), rfl, rfl, SqL.of hx6, atI_nat (j := 4) rfl, x.r, rfl, wf _ (List.mem_of_getElem? hr), fun c H7 hc7 e7 hrw => ?_⟩
          have hD7 := e7 _ _ hD6
          refine ⟨_, hD7, sz_lt (by rw [List.length_map]; omega), cs ++ [c], (e6.trans e7).mut hD, by rw [upd_same, List.map_append]; rfl, ?_⟩
          rw [htk]
          exact (al2_memW hal fun _ rd hm z => RwAt.put (wf rd (List.mem_of_mem_take hm)) hD7 (RwAt.mono e7 z)).snoc (RwAt.put (wf _ (List.mem_of_getElem? hr)) hD7 hrw)
        · rintro H6 ⟨cs, e6, hD6, hal⟩
          rw [List.length_map, lA, ← lR, List.take_length] at hal
          refine ⟨D, _, rfl, .inl ⟨SqL.of hD6, fun tq htq => ?_⟩⟩
          have e7 := Ex.new (o := .tup (cs.map V.ref)) htq
          have hq7 : upd H6 tq (.tup (cs.map V.ref)) tq = some (.tup (cs.map V.ref)) := upd_same
          have e47 := e6.trans e7
          have e07 := e04.trans e47
          have h07 := e47 _ _ h04
          have hal7 := hal.imp fun _ _ z => RwAt.mono e7 z
          have hB7 := hB.mono e47
          generalize upd H6 tq (.tup (cs.map V.ref)) = H7 at hq7 e07 h07 hal7 hB7 ⊢
          intro p dx hp hdx np
          refine ⟨p, dx, xb, o, tq, _, cs, [], os, rsOf bs e, H7, rfl, exm hp hdx np, hp, upd_same, hB7, e07 _ _ ho, .inr hq7, hal7, hos, by omega, wf, by omega, nc_nodup List.nodup_nil nb, nb, Nat.zero_le _, fun hpn H9 dx' b' o' x' r' kd' hm' e9 hP hPf hkd hhm => ⟨rfl, ?_⟩, ?_⟩
          · exact ⟨.ref p, L0, _, _, rfl, e07.trans e9, by rw [hpn]; exact e9 _ _ h07, .inr ⟨p, rfl, hP⟩⟩
          · intro er her d H3 e3 hd
            rw [her] at hkn
            cases er with
            | lg z =>
              refine ⟨true, T.te_tt, fun _ y hy => ?_, fun q => Bool.noConfusion q⟩
              refine ⟨_, rfl, rfl, rfl, d, _, .str z, rfl, hd, rfl, sz_of (by show 2 ≤ 100000; decide), fun T' hT' => ?_⟩
              exact ⟨.non, T', _, _, rfl, (e07.trans e3).trans (Ex.new hT'), by rw [upd_same, her]; rfl, .inl rfl⟩
            | dn z =>
              refine ⟨false, T.te_dt, fun q => Bool.noConfusion q, fun _ => ⟨true, T.te_dd, fun _ y hy => ?_, fun q => Bool.noConfusion q⟩⟩
              refine ⟨_, rfl, rfl, rfl, d, _, .str z, rfl, hd, rfl, sz_of (by show 2 ≤ 100000; decide), fun T' hT' => ?_⟩
              exact ⟨.non, T', _, _, rfl, (e07.trans e3).trans (Ex.new hT'), by rw [upd_same, her]; rfl, .inl rfl⟩
            | un z =>
              refine ⟨false, T.te_nt, fun q => Bool.noConfusion q, fun _ => ⟨false, T.te_nd, fun q => Bool.noConfusion q, fun _ => ⟨true, T.te_nn, fun _ y hy => ?_, fun q => Bool.noConfusion q⟩⟩⟩
              refine ⟨_, rfl, rfl, rfl, d, _, .str z, rfl, hd, rfl, sz_of (by show 2 ≤ 100000; decide), fun T' hT' => ?_⟩
              exact ⟨.non, T', _, _, rfl, (e07.trans e3).trans (Ex.new hT'), by rw [upd_same, her]; rfl, .inl rfl⟩
            | ub j =>
              refine ⟨false, T.te_ut, fun q => Bool.noConfusion q, fun _ => ⟨false, T.te_ud, fun q => Bool.noConfusion q, fun _ => ⟨false, T.te_un, fun q => Bool.noConfusion q, fun _ => ⟨true, T.te_uu, fun _ y hy => ?_, fun q => Bool.noConfusion q⟩⟩⟩⟩
              refine ⟨_, rfl, rfl, rfl, d, _, .int ((j : Nat) : Int), rfl, hd, rfl, sz_of (by show 2 ≤ 100000; decide), fun T' hT' => ?_⟩
              exact ⟨.non, T', _, _, rfl, (e07.trans e3).trans (Ex.new hT'), by rw [upd_same, her]; rfl, .inl rfl⟩
            | uf z => exact hkn.elim
            | wc z => exact hkn.elim
            | nr z => exact hkn.elim
    · rintro σ' H3 ⟨g, T', v6, v7, rfl, e3, hT, hg⟩
      have nxt : tRet (tVar 5) { nx := fun x H' => Q V.non H', rt := Q } [some (.ref o), some (.ref L), some (.str (pT [] os (rsOf bs e))), some (.bl rd), some g, some (.ref T'), v6, v7] H3 := ⟨_, rfl, k T' H3 e3 hT⟩
      rcases hg with rfl | ⟨p, rfl, hP⟩
      · have nf : (!decide (V.non = V.non)) = false := by rw [decide_eq_true rfl]; rfl
        refine ⟨_, rfl, rfl, _, rfl, ite2 (fun z => absurd z (by rw [nf]; exact Bool.noConfusion)) (fun _ => ite2 (fun z => Bool.noConfusion z) (fun _ => nxt))⟩
      · have nt : (!decide (V.ref p = V.non)) = true := by rw [decide_eq_false (fun e => by cases e)]; rfl
        refine ⟨_, rfl, rfl, _, rfl, ite2 (fun _ => ?_) (fun z => absurd nt z)⟩
        obtain ⟨okp, gb, dx, b, o', x, r, kd, hm, ss, cs, xdx, op, kl, ar, en, h1, _⟩ := id hP
        refine ⟨_, rfl, p, dx, _, rfl, h1, rfl, p, [], os, rsOf bs e, rfl, hP, _, rfl, rfl, _, rfl, ite2 (fun z => absurd z (by rw [decide_eq_true rfl]; exact fun q => Bool.noConfusion q)) (fun _ => ?_)⟩
        have hl : (((as.map V.ref).length : Nat) : Int) = (((rsOf bs e).length : Nat) : Int) := by rw [List.length_map, lA, lR]
        refine ⟨_, rfl, p, dx, _, rfl, h1, p, [], os, rsOf bs e, rfl, hP, _, rfl, by omega, by omega, _, rfl, L, _, rfl, .inl (SqL.of (e3 _ _ hL)), ?_⟩
        rw [hl]
        refine ⟨rfl, _, rfl, ?_⟩
        rw [decide_eq_true rfl]
        exact nxt
end
end K24

set_option Elab.async false
set_option linter.all false
set_option maxRecDepth 100000
namespace K24
open PySem PySem.Spec PyProof.Rows L2 Evl TL UL StX
section
variable {P : Program} {w : World} {K : PySem.W.Frag} {mg : Str → Option Value} {base : Heap} {A : Adr}
/-! ### the law -/
def dE : Option Er → PyData
  | none => .list [.str "let", .str ""]
  | some (.lg z) => .list [.str "large", .str z]
  | some (.dn w) => .list [.str "twice", .str w]
  | some (.un w) => .list [.str "name", .str w]
  | some (.ub j) => .list [.str "unbalanced", .int ((j : Nat) : Int)]
  | some (.uf w) => .list [.str w]
  | some (.wc w) => .list [.str w]
  | some (.nr w) => .list [.str w]
theorem sh_ss {a b : Str} (ha : PyData.strOk a = true) (hb : PyData.strOk b = true) : SeqAt.shaped (.list [.str a, .str b]) = true := by
  unfold SeqAt.shaped
  rw [Bool.and_eq_true]
  refine ⟨by simp only [PyData.canLay0, PyData.canLayAll0, ha, hb, Bool.and_true], decide_eq_true ?_⟩
  simp only [PyData.depth, PyData.depthAll]
  omega
theorem dE_sh {er : Option Er} (h : kn er) : SeqAt.shaped (dE er) = true := by
  cases er with
  | none => decide +kernel
  | some x =>
    cases x with
    | lg z =>
      have h : z = "rows" ∨ z = "names" ∨ z = "depth" ∨ z = "nodes" := h
      rcases h with rfl | rfl | rfl | rfl <;> decide +kernel
    | dn w => exact sh_ss (by decide +kernel) (okS_str h)
    | un w => exact sh_ss (by decide +kernel) (okS_str h)
    | ub j =>
      have o : PyData.strOk (Str.ofString "unbalanced") = true := by decide +kernel
      show SeqAt.shaped (.list [.str "unbalanced", .int ((j : Nat) : Int)]) = true
      unfold SeqAt.shaped
      rw [Bool.and_eq_true]
      refine ⟨by simp only [PyData.canLay0, PyData.canLayAll0, o, Bool.and_true], decide_eq_true ?_⟩
      simp only [PyData.depth, PyData.depthAll]
      omega
    | uf w => exact h.elim
    | wc w => exact h.elim
    | nr w => exact h.elim
theorem dE_at {K : PySem.W.Frag} {H : Hp} {a : Addr} {er : Option Er} (k : kn er) (h : H a = some (.lst (erL er))) : Dp K H (.ref a) (dE er) := by
  cases er with
  | none => exact .lst (SqL.of h) (.cons (.str _) (.cons (.str _) .nil))
  | some x =>
    cases x with
    | lg z => exact .lst (SqL.of h) (.cons (.str _) (.cons (.str _) .nil))
    | dn w => exact .lst (SqL.of h) (.cons (.str _) (.cons (.str _) .nil))
    | un w => exact .lst (SqL.of h) (.cons (.str _) (.cons (.str _) .nil))
    | ub j => exact .lst (SqL.of h) (.cons (.str _) (.cons (.int _) .nil))
    | uf w => exact k.elim
    | wc w => exact k.elim
    | nr w => exact k.elim
theorem sum_le' {b : Nat} : ∀ {l : List Nat}, (∀ x ∈ l, x ≤ b) → l.sum ≤ l.length * b
  | [], _ => Nat.zero_le _
  | x :: r, h => by
    have := sum_le' (l := r) fun y hy => h y (List.mem_cons_of_mem _ hy)
    have h1 := h x List.mem_cons_self
    rw [List.sum_cons, List.length_cons, Nat.succ_mul]
    omega
theorem out_join {os : List Str} (h : os ≠ []) : ("out " : Str) ++ Txt.join " " os = outT os := by
  unfold outT
  refine tl_inj ?_
  rw [tl_append, join_cons " " "out" os h, show tl "out " = tl "out" ++ tl " " by decide +kernel, List.append_assoc]
theorem tlL_at {i : Int} (h0 : 0 ≤ i) (h1 : i < 26) : ∃ c, atI (tl "abcdefghijklmnopqrstuvwxyz") i = some c ∧ c ∈ tlL := by
  obtain ⟨n, rfl⟩ := Int.eq_ofNat_of_zero_le h0
  have hl : (tl "abcdefghijklmnopqrstuvwxyz").length = 26 := by decide +kernel
  have hn : n < (tl "abcdefghijklmnopqrstuvwxyz").length := by omega
  exact ⟨_, atI_nat (List.getElem?_eq_getElem hn), List.getElem_mem hn⟩
def lnR (rs : List Rwd) : List V := rs.map fun r => V.str (rT r)
def spLaw (K : PySem.W.Frag) : Sp := fun vs H Q _ => ∃ (a : Addr) (ns : List Int), vs = [.ref a] ∧ SqL K H a (ns.map V.int) ∧ ns.length ≤ 63 ∧ ∀ H', Q (.bl true) H'
theorem ok_law (T : Tx0 w K mg A) : FnOk P w K mg base CX0 35 A.law A.d_law p_law (spLaw K) := by
  refine T.F_law.ok sc_law (fun vs H Q E h => ?_) (fun cdv Ar outer s H vs Q E hr h => ?_)
  · obtain ⟨a, ns, rfl, _⟩ := h
    rfl
  · obtain ⟨a, ns, rfl, hS, hlen, k⟩ := h
    refine ⟨_, (pss_cons (ps_set (i := 1) sc_law.nd rfl (Or.inl rfl) (pe_call (ok_draws T) (hr.mono (by decide)) (by rfl) T.g_draws T.F_draws.kp T.b_draws .nil pass0 (pa_cons (pv 0) pa_nil)))
      (pss_cons (ps_if (pt_cmpR (op_neD hr.units) (pe_lst (pa_cons (ClX.pe_cval (pe_glob (v := .ref A.Program) (by rfl) T.g_Program rfl)) (pa_cons (ClX.pe_cval (pe_glob (v := .ref A.Program) (by rfl) T.g_Program rfl)) (pa_cons (ClX.pe_cval (pe_glob (v := .ref A.Program) (by rfl) T.g_Program rfl)) (pa_cons (ClX.pe_cval (pe_glob (v := .ref A.Program) (by rfl) T.g_Program rfl)) pa_nil))))) (pe_lst (pa_cons pe_int (pa_cons pe_int (pa_cons pe_int (pa_cons pe_int pa_nil))))) (nomark _)) (pss_one (ps_ret pe_bl)) pss_nil)
      (pss_cons (ps_set (i := 2) sc_law.nd rfl (Or.inl rfl) (pe_call (ok_take T) (hr.mono (by decide)) (by rfl) T.g_take T.F_take.kp T.b_take .nil pass0 (pa_cons (pv 1) (pa_cons pe_int pa_nil))))
      (pss_cons (ps_set (i := 3) sc_law.nd rfl (Or.inr rfl) (pe_ix ix_str pe_str (pe_call (ok_take T) (hr.mono (by decide)) (by rfl) T.g_take T.F_take.kp T.b_take .nil pass0 (pa_cons (pv 1) (pa_cons pe_int pa_nil))) (fun _ _ => rfl)))
      (pss_cons (ps_set (i := 4) sc_law.nd rfl (Or.inl rfl) pe_int)
      (Evl.pss_cut (ps_if (PW.pt (pw_or (pt_cmpR op_eq (pv 2) pe_int (nomark _)) (pw_or1 (pt_cmpR op_eq (pv 2) pe_int (nomark _))))) (pss_one (ps_set (i := 4) sc_law.nd rfl (Or.inl rfl) (pe_call (ok_take T) (hr.mono (by decide)) (by rfl) T.g_take T.F_take.kp T.b_take .nil pass0 (pa_cons (pv 1) (pa_cons pe_int pa_nil))))) pss_nil)
      (pss_cons (ps_setLc (i := 5) (own := [("_law_k", 10)]) (g := gName 10) (tt := tYes) rfl sc_law.nd rfl rfl (sw_true rfl rfl rfl (by decide +kernel)) (pi_range1 (by rfl) T.m_range (pa_cons (pv 4) pa_nil)) (blkOk_by (N := n_law) (sc := defScope s_law) (by decide +kernel)) (fun _ _ _ _ _ => pg_name (i := 10) sc_law.nd rfl (Or.inl rfl)) (fun _ _ _ _ _ => pts_nil) (fun _ _ _ _ _ => (pe_op op_add_str (pv 3) (pe_callTy call_str_int (by rfl) T.m_str (by decide +kernel) (pa_cons (pv 10) pa_nil)))))
      (Evl.pss_cut (ps_if (PW.pt (pw_and (pt_cmpR op_eq (pe_call (ok_take T) (hr.mono (by decide)) (by rfl) T.g_take T.F_take.kp T.b_take .nil pass0 (pa_cons (pv 1) (pa_cons pe_int pa_nil))) pe_int (nomark _)) (pw_and1 (pt_cmpR op_gt (pv 4) pe_int (nomark _))))) (pss_one (ps_asg (pe_ix ix_list (pv 5) pe_int (fun _ _ => rfl)) (pg_sub (pv 5) (pe_op op_sub (pv 4) pe_int) set_list))) pss_nil)
      (pss_cons (ps_set (i := 6) sc_law.nd rfl (Or.inl rfl) (pe_call (ok_srows T) (hr.mono (by decide)) (by rfl) T.g_srows T.F_srows.kp T.b_srows .nil pass0 (pa_cons (pv 1) (pa_cons (pv 2) (pa_cons (pv 3) (pa_cons (pv 5) pa_nil))))))
      (pss_cons (ps_setLc (i := 7) (own := [("_law_row", 11)]) (g := gName 11) (tt := tYes) rfl sc_law.nd rfl rfl (sw_true rfl rfl rfl (by decide +kernel)) (pi_list (pv 6)) (blkOk_by (N := n_law) (sc := defScope s_law) (by decide +kernel)) (fun _ _ _ _ _ => pg_name (i := 11) sc_law.nd rfl (Or.inl rfl)) (fun _ _ _ _ _ => pts_nil) (fun _ _ _ _ _ => (pe_ix (show IxR _ (rIxL K) from ix_list) (pv 11) pe_int (fun _ _ => rfl))))
      (Evl.pss_cut (ps_if (pt_cmpR op_gt (pv 4) pe_int (nomark _)) (pss_one (ps_set (i := 7) sc_law.nd rfl (Or.inl rfl) (pe_op op_cat (pe_lst (pa_cons (pe_op op_add_str pe_str (pe_bm PySem.F.plainAttrs_str PySem.F.slot_str_join PySem.F.type_str_join mt_join pe_str (pa_cons (pv 5) pa_nil))) pa_nil)) (pv 7)))) pss_nil)
      (pss_cons (ps_set (i := 8) sc_law.nd rfl (Or.inl rfl) (pe_bm PySem.F.plainAttrs_str PySem.F.slot_str_join PySem.F.type_str_join mt_join pe_str (pa_cons (pv 7) pa_nil)))
      (pss_cons (ps_set (i := 9) sc_law.nd rfl (Or.inl rfl) (pe_call (ok_due T) (hr.mono (by decide)) (by rfl) T.g_due T.F_due.kp T.b_due .nil pass0 (pa_cons (pv 5) (pa_cons (pv 6) pa_nil))))
      (pss_cons (ps_if (pt_cmpR (op_neD hr.units) (pe_call (ok_told T) (hr.mono (by decide)) (by rfl) T.g_told T.F_told.kp T.b_told .nil pass0 (pa_cons (pe_callTy call_list_of (by rfl) T.m_list (by decide +kernel) (pa_cons (pv 5) pa_nil)) (pa_cons (pv 6) (pa_cons (pv 8) (pa_cons pe_bl pa_nil))))) (pv 9) (nomark _)) (pss_one (ps_ret pe_bl)) pss_nil)
      (pss_one (ps_ret (pe_cmpR (op_eqD hr.units) (pe_call (ok_told T) (hr.mono (by decide)) (by rfl) T.g_told T.F_told.kp T.b_told .nil pass0 (pa_cons (pe_callTy call_list_of (by rfl) T.m_list (by decide +kernel) (pa_cons (pv 5) pa_nil)) (pa_cons (pv 6) (pa_cons (pv 8) (pa_cons pe_bl pa_nil))))) (pv 9) (nomark _)))))))))))))))))), ?_⟩
    refine ⟨_, rfl, a, ns, rfl, hS, hlen, fun d hdn => ?_⟩
    have hd : upd H d (DrO d) d = some (DrO d) := upd_same
    generalize upd H d (DrO d) = H0 at hd ⊢
    obtain ⟨u1, hu1⟩ := T.cv_Program_MOST_ROWS
    obtain ⟨u2, hu2⟩ := T.cv_Program_MOST_NAMES
    obtain ⟨u3, hu3⟩ := T.cv_Program_MOST_NODES
    obtain ⟨u4, hu4⟩ := T.cv_Program_MOST_DEPTH
    refine ⟨A.Program, _, _, u1, rfl, T.cr_Program, hu1, A.Program, _, _, u2, rfl, T.cr_Program, hu2, A.Program, _, _, u3, rfl, T.cr_Program, hu3, A.Program, _, _, u4, rfl, T.cr_Program, hu4, sz_of (by show 4 ≤ 100000; decide), fun D1 hD1 => ⟨sz_of (by show 4 ≤ 100000; decide), fun D2 hD2 => ?_⟩⟩
    have e1 := Ex.new (o := .lst [.int 48, .int 16, .int 100, .int 8]) hD1
    have hd1 : upd H0 D1 (.lst [.int 48, .int 16, .int 100, .int 8]) D1 = some (.lst [.int 48, .int 16, .int 100, .int 8]) := upd_same
    have e2 := Ex.new (o := .lst [.int 48, .int 16, .int 100, .int 8]) hD2
    have hd2 : upd (upd H0 D1 (.lst [.int 48, .int 16, .int 100, .int 8])) D2 (.lst [.int 48, .int 16, .int 100, .int 8]) D2 = some (.lst [.int 48, .int 16, .int 100, .int 8]) := upd_same
    have hd1 := e2 _ _ hd1
    have hd := e2 _ _ (e1 _ _ hd)
    have dI : ∀ {H : Hp} {D : Addr}, H D = some (.lst [.int 48, .int 16, .int 100, .int 8]) → Dp K H (.ref D) (.list [.int 48, .int 16, .int 100, .int 8]) := fun h => .lst (SqL.of h) (.cons (.int _) (.cons (.int _) (.cons (.int _) (.cons (.int _) .nil))))
    have sI : SeqAt.shaped (.list [.int 48, .int 16, .int 100, .int 8]) = true := by decide +kernel
    refine ⟨_, _, dI hd1, dI hd2, sI, sI, _, rfl, ?_⟩
    rw [SeqAt.eqv_refl _ (SeqAt.canLay_of_shaped sI)]
    refine iteF ?_
    generalize upd (upd H0 D1 (.lst [.int 48, .int 16, .int 100, .int 8])) D2 (.lst [.int 48, .int 16, .int 100, .int 8]) = H0 at hd ⊢
    clear dI sI
    refine ⟨_, rfl, d, _, rfl, hd, by decide, fun m m0 m1 => ?_⟩
    refine ⟨_, rfl, d, _, rfl, hd, by decide, fun l l0 l1 => ?_⟩
    obtain ⟨c, hca, hc⟩ := tlL_at l0 l1
    refine ⟨_, _, c, rfl, rfl, sz_of (by decide +kernel), hca, ?_⟩
    refine ⟨fun σ' H' => ∃ f : Int, 0 ≤ f ∧ f ≤ 18 ∧ σ' = [some (.ref a), some (.ref d), some (.int m), some (.str ⟨#[c]⟩), some (.int f), none, none, none, none, none, none, none] ∧ H' = H0, ?_, ?_⟩
    · refine ⟨_, rfl, rfl, _, rfl, ite2 (fun _ => ite2 (fun _ => ?_) (fun z => absurd rfl z)) (fun _ => ⟨_, rfl, rfl, _, rfl, ite2 (fun _ => ?_) (fun _ => ⟨1, by decide, by decide, rfl, rfl⟩)⟩)⟩
      · exact ⟨_, rfl, d, _, rfl, hd, by decide, fun f f0 f1 => ⟨f, f0, by omega, rfl, rfl⟩⟩
      · exact ⟨_, rfl, d, _, rfl, hd, by decide, fun f f0 f1 => ⟨f, f0, by omega, rfl, rfl⟩⟩
    rintro σ1 H1 ⟨f, f0, f18, rfl, rfl⟩
    obtain ⟨fn, rfl⟩ : ∃ fn : Nat, f = (fn : Int) := ⟨f.toNat, by omega⟩
    have lc1 : (⟨#[c]⟩ : Str).length = 1 := rfl
    refine ⟨_, rfl, _, rfl, by omega, by omega, fun O hO => ?_⟩
    refine lc_range (lo := 0) (n := fn) (fun j H' => ∃ os : List Str, Ex H1 H' ∧ H' O = some (.lst (os.map V.str)) ∧ os.length = j ∧ ∀ z ∈ os, okS z = true) ⟨[], Ex.new hO, upd_same, rfl, fun _ h => nomatch h⟩ ?_ ?_
    · rintro j H2 hj ⟨os, e2, hO2, hl, hos⟩
      have z0 : (0 : Int) + (j : Int) = (j : Int) := Int.zero_add _
      have w := wd_num (k := (j : Int)) hc (by omega) (by omega)
      have nl := (num_ok (k := (j : Int)) (by omega) (by omega)).2.2
      rw [← len_tl] at nl
      refine ⟨rfl, ?_⟩
      rw [z0]
      refine ⟨_, rfl, _, rfl, _, rfl, Nat.lt_of_le_of_lt (Nat.log2_le_self _) (by show j < 1920; omega), _, _, rfl, rfl, sz_of (by rw [lc1]; omega), os.map V.str, hO2, sz_lt (by rw [List.length_map]; omega), os ++ [(⟨#[c]⟩ : Str) ++ Str.ofString (toString (j : Int))], e2.mut hO, by rw [upd_same, List.map_append]; rfl, by rw [List.length_append, hl]; rfl, fun z hz => ?_⟩
      rcases List.mem_append.mp hz with hz | hz
      · exact hos z hz
      · rw [List.mem_singleton.mp hz]; exact w.1.ok
    rintro H2 ⟨os, e2, hO2, hl, hos⟩
    have hd2 := e2 _ _ hd
    refine ⟨fun σ' H' => ∃ os : List Str, σ' = [some (.ref a), some (.ref d), some (.int m), some (.str ⟨#[c]⟩), some (.int (fn : Int)), some (.ref O), none, none, none, none, none, none] ∧ Ex H1 H' ∧ H' O = some (.lst (os.map V.str)) ∧ os.length = fn ∧ ∀ z ∈ os, okS z = true, ?_, ?_⟩
    · refine ⟨_, rfl, d, _, rfl, hd2, by decide, fun q q0 q1 => ⟨rfl, _, rfl, ite2 (fun _ => ?_) (fun _ => ite2 (fun z => Bool.noConfusion z) (fun _ => ⟨os, rfl, e2, hO2, hl, hos⟩))⟩⟩
      refine ⟨_, rfl, _, _, rfl, rfl, _, rfl, ite2 (fun z => ?_) (fun _ => ⟨os, rfl, e2, hO2, hl, hos⟩)⟩
      have z : (1 : Int) < (fn : Int) := of_decide_eq_true z
      obtain ⟨x, hx, hm⟩ := at_strs (xs := os) (n := 0) (by decide) (by omega)
      refine ⟨_, rfl, O, _, 0, _, rfl, rfl, SqL.of hO2, hx, _, rfl, _, rfl, _, _, rfl, rfl, O, _, _, fn - 1, rfl, rfl, hO2, ?_, os.set (fn - 1) x, rfl, e2.mut hO, by rw [upd_same, List.map_set], by rw [List.length_set, hl], fun y hy => ?_⟩
      · unfold ixN
        rw [List.length_map, hl, if_pos (by omega), if_pos (by omega)]
        exact congrArg some (by omega)
      · rcases List.mem_or_eq_of_mem_set hy with h | h
        · exact hos y h
        · rw [h]; exact hos x hm
    clear e2 hO2 hl hos os hd2 H2
    rintro σ1 H2 ⟨os, rfl, e2, hO2, hl, hos⟩
    have hd2 := e2 _ _ hd
    refine ⟨_, rfl, _, rfl, _, rfl, _, rfl, d, O, m, c, os, rfl, hd2, hc, hO2, hos, by omega, fun L as bs e H3 b51 e11 heo hok e3 hL3 hA3 => ?_⟩
    have ok : RsOk bs e := ⟨b51, e11, heo, hok⟩
    replace hA3 : Al2 (LRAt H3) as (rowsOf bs e) := hA3
    have hO3 := e3 _ _ hO2
    have lA : as.length = bs.length + e := by rw [hA3.len, rowsOf_len]
    have lR := rsOf_len bs e
    have wf := rs_wf ok
    clear hd hd2 e2 hO2 e3 H2 hca hO
    refine ⟨_, rfl, L, rfl, ⟨_, SqL.of hL3⟩, fun M hM => ?_⟩
    refine lc_it (walk_list (xs := as.map V.ref)) (fun i H' => Ex H3 H' ∧ H' M = some (.lst (lnR ((rsOf bs e).take i)))) ⟨Ex.new hM, upd_same⟩ (fun i H' _ ⟨x, _⟩ => SqL.of (x _ _ hL3)) ?_ ?_
    · rintro i y H4' H4 hi ⟨e4, hM4⟩ ⟨rfl, hy⟩
      refine ⟨rfl, ?_⟩
      rw [List.length_map] at hi
      rw [List.getElem?_map] at hy
      obtain ⟨b, hb, rfl⟩ := Option.map_eq_some_iff.mp hy
      obtain ⟨x, hx, hxb⟩ := hA3.get i b hb
      have hx4 : LRAt _ b x := hxb.mono e4
      have hr := rsOf_at hx
      refine ⟨_, rfl, b, _, 4, .str (rT x.r), rfl, rfl, SqL.of hx4, atI_nat (j := 4) rfl, _, hM4, sz_lt ?_, e4.mut hM, ?_⟩
      · unfold lnR
        rw [List.length_map, List.length_take]
        omega
      · rw [upd_same, show (rsOf bs e).take (i + 1) = (rsOf bs e).take i ++ [x.r] by rw [List.take_add_one, hr]; rfl]
        unfold lnR
        rw [List.map_append]
        rfl
    rintro H4 ⟨e4, hM4⟩
    rw [List.length_map, lA, ← lR, List.take_length] at hM4
    have hO4 := e4 _ _ hO3
    have hL4 := e4 _ _ hL3
    have hA4 := hA3.imp fun _ _ z => LRAt.mono e4 z
    clear hO3 hL3 hA3 hM e4 H3
    have hrl : ∀ r ∈ rsOf bs e, (rT r).length ≤ 300 := fun r hr => rT_len (wf r hr)
    refine ⟨fun σ' H' => ∃ M2, σ' = [some (.ref a), some (.ref d), some (.int m), some (.str ⟨#[c]⟩), some (.int (fn : Int)), some (.ref O), some (.ref L), some (.ref M2), none, none, none, none] ∧ Ex H4 H' ∧ H' M2 = some (.lst ((prL [] os (rsOf bs e)).map V.str)), ?_, ?_⟩
    · have hpl : lnR (rsOf bs e) = ((rsOf bs e).map rT).map V.str := by unfold lnR; rw [List.map_map]; rfl
      refine ⟨_, rfl, _, _, rfl, rfl, _, rfl, ite2 (fun z => ?_) (fun z => ?_)⟩
      · have z : (0 : Int) < (fn : Int) := of_decide_eq_true z
        have hone : os ≠ [] := fun q => by rw [q] at hl; have hl : 0 = fn := hl; omega
        have lO := (out_facts hos hone (by omega)).2.1
        have s8 : ∀ x ∈ os.map fun x => x.length, x ≤ 8 := fun x hx => by
          obtain ⟨z, hz, rfl⟩ := List.mem_map.mp hx
          exact okS_len (hos z hz)
        have sm := sum_le' s8
        rw [List.length_map] at sm
        have s1 : (" " : Str).length = 1 := by decide +kernel
        refine ⟨rfl, _, rfl, _, O, os, rfl, rfl, .inl (SqL.of hO4), by rw [s1]; omega, _, _, rfl, rfl, ?_, ?_⟩
        · have := len_app ("out " : Str) (Txt.join " " os)
          rw [out_join hone] at this
          exact sz_of (by omega)
        refine ⟨sz_of (by show 1 ≤ 100000; decide), fun N hN => ?_⟩
        rw [out_join hone]
        have eN := Ex.new (o := .lst [.str (outT os)]) hN
        refine ⟨_, rfl, N, M, _, _, rfl, rfl, upd_same, eN _ _ hM4, ?_, fun M2 hM2 => ⟨M2, rfl, eN.trans (Ex.new hM2), ?_⟩⟩
        · rw [hpl, List.length_map, List.length_map]
          exact sz_of (by show 1 + (rsOf bs e).length ≤ 100000; omega)
        · rw [upd_same, hpl]
          unfold prL
          rw [if_neg hone]
          rfl
      · have z : ¬ (0 : Int) < (fn : Int) := fun y => z (decide_eq_true y)
        have hone : os = [] := List.length_eq_zero_iff.mp (by omega)
        refine ⟨M, rfl, Ex.refl _, ?_⟩
        rw [hM4, hpl]
        unfold prL
        rw [if_pos hone]
        rfl
    rintro σ1 H5 ⟨M2, rfl, e5, hM5⟩
    have hO5 := e5 _ _ hO4
    have hL5 := e5 _ _ hL4
    have hA5 := hA4.imp fun _ _ z => LRAt.mono e5 z
    clear hO4 hL4 hA4 hM4 e5
    have b300 : ∀ w ∈ prL [] os (rsOf bs e), w.length ≤ 300 := fun w hw => by
      unfold prL at hw
      rcases List.mem_append.mp hw with hw | hw
      · cases hw
      · rcases List.mem_append.mp hw with hw | hw
        · split at hw
          · cases hw
          · rename_i hne
            rw [List.mem_singleton.mp hw]
            have := (out_facts hos hne (by omega)).2.1
            omega
        · obtain ⟨r, hr, rfl⟩ := List.mem_map.mp hw
          exact hrl r hr
    have l64 : (prL [] os (rsOf bs e)).length ≤ 64 := by
      unfold prL
      rw [List.length_append, List.length_append, List.length_map, List.length_map]
      have lO : (if os = [] then ([] : List Str) else [outT os]).length ≤ 1 := by
        split
        · exact Nat.zero_le 1
        · exact Nat.le_refl 1
      have : ([] : List Rw).length = 0 := rfl
      omega
    have sm := sum_le' (l := (prL [] os (rsOf bs e)).map fun x => x.length) (b := 300) fun x hx => by
      obtain ⟨z, hz, rfl⟩ := List.mem_map.mp hx
      exact b300 z hz
    rw [List.length_map] at sm
    have s1 : ("\n" : Str).length = 1 := by decide +kernel
    refine ⟨rfl, _, rfl, _, M2, prL [] os (rsOf bs e), rfl, rfl, .inl (SqL.of hM5), by rw [s1]; omega, ?_⟩
    have ht : Txt.join "\n" (prL [] os (rsOf bs e)) = pT [] os (rsOf bs e) := rfl
    rw [ht]
    clear sm hM5 b300
    refine ⟨_, rfl, _, rfl, O, L, as, bs, e, os, rfl, hO5, hos, by omega, hL5, hA5, ok, fun D H6 e6 hD6 hkn => ?_⟩
    have hO6 := e6 _ _ hO5
    have hL6 := e6 _ _ hL5
    have hA6 := hA5.imp fun _ _ z => LRAt.mono e6 z
    clear hO5 hL5 hA5 e6
    have sh := dE_sh hkn
    refine ⟨_, rfl, O, _, rfl, .inl (SqL.of hO6), fun O2 hO2 => ?_⟩
    have e7 := Ex.new (o := .lst (os.map V.str)) hO2
    refine ⟨_, rfl, _, rfl, O2, L, as, bs, e, os, true, rfl, upd_same, hos, by omega, e7 _ _ hL6, hA6.imp (fun _ _ z => LRAt.mono e7 z), ok, hkn, fun D2 H8 e8 hD8 => ?_⟩
    have e68 := e7.trans e8
    have hD68 := e68 _ _ hD6
    refine ⟨_, rfl, _, _, dE_at hkn hD8, dE_at hkn hD68, sh, sh, _, rfl, ?_⟩
    rw [SeqAt.eqv_refl _ (SeqAt.canLay_of_shaped sh)]
    refine iteF ?_
    have hO8 := e68 _ _ hO6
    have hL8 := e68 _ _ hL6
    have hA8 := hA6.imp fun _ _ z => LRAt.mono e68 z
    clear hO6 hL6 hA6 hD8 e8 e7 hO2 O2
    refine ⟨_, rfl, O, _, rfl, .inl (SqL.of hO8), fun O2 hO2 => ?_⟩
    have e9 := Ex.new (o := .lst (os.map V.str)) hO2
    refine ⟨_, rfl, _, rfl, O2, L, as, bs, e, os, false, rfl, upd_same, hos, by omega, e9 _ _ hL8, hA8.imp (fun _ _ z => LRAt.mono e9 z), ok, hkn, fun D3 H10 e10 hD10 => ?_⟩
    refine ⟨_, rfl, _, _, dE_at hkn hD10, dE_at hkn ((e9.trans e10) _ _ hD68), sh, sh, ?_⟩
    rw [SeqAt.eqv_refl _ (SeqAt.canLay_of_shaped sh)]
    exact k _

end
set_option maxHeartbeats 4000000 in
theorem all_mk {l : PySem.W.OpenLaw} {w : World} {K : PySem.W.Frag} {h : Heap} {mg : Str → Option Value} {fa : Addr} (X : K.In h) (G : h.Ns mainGlobals mg) (hfa : mg "law" = some (.ref fa))
    {f0 f1 f2 f3 f4 f5 f6 f7 f8 f9 f10 f11 f12 f13 f14 f15 f16 f17 f18 f19 f20 f21 f22 f23 f24 f25 f26 f27 f28 f29 f30 f31 f32 f33 f34 f35 f36 f37 f38 f39 f40 f41 f42 f43 f44 f45 f46 f47 f48 f49 f50 f51 f52 f53 f54 f55 f56 f57 f58 f59 f60 : Addr}
    {od0 an0 od1 an1 od2 an2 od3 an3 od4 an4 od5 an5 od6 an6 od7 an7 od8 an8 od9 an9 od10 an10 od11 an11 od12 an12 od13 an13 od14 an14 od15 an15 od16 an16 od17 an17 od18 an18 od19 an19 od20 an20 od21 an21 od22 an22 od23 an23 od24 an24 od25 an25 od26 an26 od27 an27 od28 an28 od29 an29 od30 an30 od31 an31 od32 an32 od33 an33 od34 an34 od35 an35 od36 an36 od37 an37 od38 an38 od39 an39 od40 an40 od41 an41 od42 an42 od43 an43 od44 an44 od45 an45 od46 an46 od47 an47 od48 an48 od49 an49 od50 an50 od51 an51 od52 an52 od53 an53 od54 an54 od55 an55 od56 an56 od57 an57 od58 an58 od59 an59 od60 an60 : Option Addr}
    {sl0 sl1 sl2 sl3 sl4 sl5 sl6 sl7 sl8 sl9 sl10 sl11 sl12 sl13 sl14 sl15 sl16 sl17 sl18 sl19 sl20 sl21 sl22 sl23 sl24 sl25 sl26 sl27 sl28 sl29 sl30 sl31 sl32 sl33 sl34 sl35 sl36 sl37 sl38 sl39 sl40 sl41 sl42 sl43 sl44 sl45 sl46 sl47 sl48 sl49 sl50 sl51 sl52 sl53 sl54 sl55 sl56 sl57 sl58 sl59 sl60 : Array (Option Value)}
    {oc0 kV0 dc0 pm0 cd0 ct0 oc1 kV1 dc1 pm1 cd1 ct1 oc2 kV2 dc2 pm2 cd2 ct2 oc3 kV3 dc3 pm3 cd3 ct3 oc4 kV4 dc4 pm4 cd4 ct4 oc5 kV5 dc5 pm5 cd5 ct5 oc6 kV6 dc6 pm6 cd6 ct6 oc7 dc7 pm7 cd7 ct7 oc8 kV8 dc8 pm8 cd8 ct8 oc9 kV9 dc9 pm9 cd9 ct9 oc10 kV10 dc10 pm10 cd10 ct10 oc11 kV11 dc11 pm11 cd11 ct11 oc12 kV12 dc12 pm12 cd12 ct12 oc13 kV13 dc13 pm13 cd13 ct13 oc14 kV14 dc14 pm14 cd14 ct14 oc15 kV15 dc15 pm15 cd15 ct15 oc16 kV16 dc16 pm16 cd16 ct16 oc17 kV17 dc17 pm17 cd17 ct17 oc18 kV18 dc18 pm18 cd18 ct18 oc19 kV19 dc19 pm19 cd19 ct19 oc20 kV20 dc20 pm20 cd20 ct20 oc21 kV21 dc21 pm21 cd21 ct21 oc22 kV22 dc22 pm22 cd22 ct22 oc23 kV23 dc23 pm23 cd23 ct23 oc24 kV24 dc24 pm24 cd24 ct24 oc25 kV25 dc25 pm25 cd25 ct25 oc26 kV26 dc26 pm26 cd26 ct26 oc27 dc27 pm27 cd27 ct27 oc28 kV28 dc28 pm28 cd28 ct28 oc29 kV29 dc29 pm29 cd29 ct29 oc30 kV30 dc30 pm30 cd30 ct30 oc31 dc31 pm31 cd31 ct31 oc32 kV32 dc32 pm32 cd32 ct32 oc33 kV33 dc33 pm33 cd33 ct33 oc34 kV34 dc34 pm34 cd34 ct34 oc35 kV35 dc35 pm35 cd35 ct35 oc36 kV36 dc36 pm36 cd36 ct36 oc37 kV37 dc37 pm37 cd37 ct37 oc38 kV38 dc38 pm38 cd38 ct38 oc39 kV39 dc39 pm39 cd39 ct39 oc40 kV40 dc40 pm40 cd40 ct40 oc41 kV41 dc41 pm41 cd41 ct41 oc42 kV42 dc42 pm42 cd42 ct42 oc43 kV43 dc43 pm43 cd43 ct43 oc44 kV44 dc44 pm44 cd44 ct44 oc45 kV45 dc45 pm45 cd45 ct45 oc46 kV46 dc46 pm46 cd46 ct46 oc47 kV47 dc47 pm47 cd47 ct47 oc48 kV48 dc48 pm48 cd48 ct48 oc49 kV49 dc49 pm49 cd49 ct49 oc50 kV50 dc50 pm50 cd50 ct50 oc51 kV51 dc51 pm51 cd51 ct51 oc52 kV52 dc52 pm52 cd52 ct52 oc53 kV53 dc53 pm53 cd53 ct53 oc54 kV54 dc54 pm54 cd54 ct54 oc55 kV55 dc55 pm55 cd55 ct55 oc56 kV56 dc56 pm56 cd56 ct56 oc57 kV57 dc57 pm57 cd57 ct57 oc58 kV58 dc58 pm58 cd58 ct58 oc59 kV59 dc59 pm59 cd59 ct59 oc60 kV60 dc60 pm60 cd60 ct60 : Value}
    {xLivesError : Addr}
    {xInvalidSignature : Addr}
    {xUnknownFunction : Addr}
    {xTooLarge : Addr}
    {xDuplicateFunction : Addr}
    {xSignature : Addr}
    {xBook : Addr}
    {xExpression : Addr}
    {xRow : Addr}
    {xBlocks : Addr}
    {xProgram : Addr}
    {xUnbalanced : Addr}
    {xDuplicateName : Addr}
    {xUnknownName : Addr}
    {xNotReference : Addr}
    {xWrongCount : Addr}
    {xBARE : Addr} {vBARE : List Value} {odBARE : Option Addr} {nnBARE : Nat} {slBARE : Array (Option Value)}
    {xBINDING : Addr} {vBINDING : List Value} {odBINDING : Option Addr} {nnBINDING : Nat} {slBINDING : Array (Option Value)}
    {tDIGITS : Nat}
    {tLETTERS : Nat}
    {tMOST_ARGUMENTS : Nat}
    {tMOST_CHARACTERS : Nat}
    {tMOST_GIVEN : Nat}
    {tMOST_PARAMETERS : Nat}
    {xNUMERALS : Addr} {vNUMERALS : List Value} {odNUMERALS : Option Addr} {nnNUMERALS : Nat} {slNUMERALS : Array (Option Value)}
    {xOPERATIONS : Addr} {esOPERATIONS : Array DictEntry} {nnOPERATIONS : Nat}
    {xRESERVED : Addr} {vRESERVED : List Value} {odRESERVED : Option Addr} {nnRESERVED : Nat} {slRESERVED : Array (Option Value)}
    {dT0 : Addr} {dO0 : Option Addr} {dN0 : Nat} {dS0 : Array (Option Value)} {dt0x0 : Nat}
    {kD7 : Addr}
    {kT7sources : Addr} {kO7sources : Option Addr} {kN7sources : Nat} {kS7sources : Array (Option Value)}
    {pr9 : Addr} {re9 : List Value}
    {pr23 : Addr} {re23 : List Value}
    {pr24 : Addr} {re24 : List Value}
    {kD27 : Addr}
    {kD31 : Addr}
    {kt31name : Nat}
    {pr33 : Addr} {re33 : List Value}
    {pr53 : Addr} {re53 : List Value}
    {nmLivesError qLivesError : Str} {NLivesError : Addr} {bsLivesError bmLivesError : List Value} {snLivesError : List Str} {subLivesError : List Value} {abLivesError : Bool} {colLivesError : Option Bool} {ddLivesError : Option Addr} {m0LivesError m1LivesError m2LivesError m3LivesError m5LivesError : Option Value}
    {nmInvalidSignature qInvalidSignature : Str} {NInvalidSignature : Addr} {bsInvalidSignature bmInvalidSignature : List Value} {snInvalidSignature : List Str} {subInvalidSignature : List Value} {abInvalidSignature : Bool} {colInvalidSignature : Option Bool} {ddInvalidSignature : Option Addr} {m0InvalidSignature m1InvalidSignature m2InvalidSignature m3InvalidSignature m5InvalidSignature : Option Value}
    {nmUnknownFunction qUnknownFunction : Str} {NUnknownFunction : Addr} {bsUnknownFunction bmUnknownFunction : List Value} {snUnknownFunction : List Str} {subUnknownFunction : List Value} {abUnknownFunction : Bool} {colUnknownFunction : Option Bool} {ddUnknownFunction : Option Addr} {m0UnknownFunction m1UnknownFunction m2UnknownFunction m3UnknownFunction m5UnknownFunction : Option Value}
    {nmTooLarge qTooLarge : Str} {NTooLarge : Addr} {bsTooLarge bmTooLarge : List Value} {snTooLarge : List Str} {subTooLarge : List Value} {abTooLarge : Bool} {colTooLarge : Option Bool} {ddTooLarge : Option Addr} {m0TooLarge m1TooLarge m2TooLarge m3TooLarge m5TooLarge : Option Value}
    {nmDuplicateFunction qDuplicateFunction : Str} {NDuplicateFunction : Addr} {bsDuplicateFunction bmDuplicateFunction : List Value} {snDuplicateFunction : List Str} {subDuplicateFunction : List Value} {abDuplicateFunction : Bool} {colDuplicateFunction : Option Bool} {ddDuplicateFunction : Option Addr} {m0DuplicateFunction m1DuplicateFunction m2DuplicateFunction m3DuplicateFunction m5DuplicateFunction : Option Value}
    {cuExpressionMOST_NODES : Nat}
    {cuProgramMOST_ROWS : Nat}
    {cuProgramMOST_NAMES : Nat}
    {cuProgramMOST_NODES : Nat}
    {cuProgramMOST_DEPTH : Nat}
    {cwProgramMOST_ROWS : Nat}
    {cwProgramMOST_NAMES : Nat}
    {cwProgramMOST_NODES : Nat}
    {cwProgramMOST_DEPTH : Nat}
    {nmUnbalanced qUnbalanced : Str} {NUnbalanced : Addr} {bsUnbalanced bmUnbalanced : List Value} {snUnbalanced : List Str} {subUnbalanced : List Value} {abUnbalanced : Bool} {colUnbalanced : Option Bool} {ddUnbalanced : Option Addr} {m0Unbalanced m1Unbalanced m2Unbalanced m3Unbalanced m5Unbalanced : Option Value}
    {nmDuplicateName qDuplicateName : Str} {NDuplicateName : Addr} {bsDuplicateName bmDuplicateName : List Value} {snDuplicateName : List Str} {subDuplicateName : List Value} {abDuplicateName : Bool} {colDuplicateName : Option Bool} {ddDuplicateName : Option Addr} {m0DuplicateName m1DuplicateName m2DuplicateName m3DuplicateName m5DuplicateName : Option Value}
    {nmUnknownName qUnknownName : Str} {NUnknownName : Addr} {bsUnknownName bmUnknownName : List Value} {snUnknownName : List Str} {subUnknownName : List Value} {abUnknownName : Bool} {colUnknownName : Option Bool} {ddUnknownName : Option Addr} {m0UnknownName m1UnknownName m2UnknownName m3UnknownName m5UnknownName : Option Value}
    {nmNotReference qNotReference : Str} {NNotReference : Addr} {bsNotReference bmNotReference : List Value} {snNotReference : List Str} {subNotReference : List Value} {abNotReference : Bool} {colNotReference : Option Bool} {ddNotReference : Option Addr} {m0NotReference m1NotReference m2NotReference m3NotReference m5NotReference : Option Value}
    {nmWrongCount qWrongCount : Str} {NWrongCount : Addr} {bsWrongCount bmWrongCount : List Value} {snWrongCount : List Str} {subWrongCount : List Value} {abWrongCount : Bool} {colWrongCount : Option Bool} {ddWrongCount : Option Addr} {m0WrongCount m1WrongCount m2WrongCount m3WrongCount m5WrongCount : Option Value}
    (aCLivesError : PySem.W.nsIn K mainGlobals "LivesError" = some (some (.ref xLivesError)))
    (aCInvalidSignature : PySem.W.nsIn K mainGlobals "InvalidSignature" = some (some (.ref xInvalidSignature)))
    (aCUnknownFunction : PySem.W.nsIn K mainGlobals "UnknownFunction" = some (some (.ref xUnknownFunction)))
    (aCTooLarge : PySem.W.nsIn K mainGlobals "TooLarge" = some (some (.ref xTooLarge)))
    (aCDuplicateFunction : PySem.W.nsIn K mainGlobals "DuplicateFunction" = some (some (.ref xDuplicateFunction)))
    (aCSignature : PySem.W.nsIn K mainGlobals "Signature" = some (some (.ref xSignature)))
    (aCBook : PySem.W.nsIn K mainGlobals "Book" = some (some (.ref xBook)))
    (aCExpression : PySem.W.nsIn K mainGlobals "Expression" = some (some (.ref xExpression)))
    (aCRow : PySem.W.nsIn K mainGlobals "Row" = some (some (.ref xRow)))
    (aCBlocks : PySem.W.nsIn K mainGlobals "Blocks" = some (some (.ref xBlocks)))
    (aCProgram : PySem.W.nsIn K mainGlobals "Program" = some (some (.ref xProgram)))
    (aCUnbalanced : PySem.W.nsIn K mainGlobals "Unbalanced" = some (some (.ref xUnbalanced)))
    (aCDuplicateName : PySem.W.nsIn K mainGlobals "DuplicateName" = some (some (.ref xDuplicateName)))
    (aCUnknownName : PySem.W.nsIn K mainGlobals "UnknownName" = some (some (.ref xUnknownName)))
    (aCNotReference : PySem.W.nsIn K mainGlobals "NotReference" = some (some (.ref xNotReference)))
    (aCWrongCount : PySem.W.nsIn K mainGlobals "WrongCount" = some (some (.ref xWrongCount)))
    (a0 : PySem.W.nsIn K mainGlobals "copied" = some (some (.ref f0)))
    (l0 : K.lookup f0 = some ⟨oc0, od0, .func (PySem.W.fnOf "copied" "copied" (defArgs s_copied) (defBody s_copied) (defScope s_copied) (.ref dT0) kV0 dc0 pm0 an0 cd0 ct0), sl0⟩)
    (dl0 : K.lookup dT0 = some ⟨.type "tuple", dO0, .seq ([.int 4 dt0x0] : List Value).toArray dN0, dS0⟩)
    (c0 : PySem.W.codeIn K cd0 "copied" = true)
    (k0 : PySem.W.keepIn K (.ref f0) = true)
    (a1 : PySem.W.findIn K (.ref xLivesError) "__init__" = some (some (.ref f1)))
    (i1 : PySem.W.typeIn K (.ref f1) = some (.type "function"))
    (l1 : K.lookup f1 = some ⟨oc1, od1, .func (PySem.W.fnOf "__init__" "LivesError.__init__" (defArgs s_lives_init) (defBody s_lives_init) (defScope s_lives_init) .none kV1 dc1 pm1 an1 cd1 ct1), sl1⟩)
    (c1 : PySem.W.codeIn K cd1 "LivesError.__init__" = true)
    (k1 : PySem.W.keepIn K (.ref f1) = true)
    (a2 : PySem.W.nsIn K mainGlobals "is_whole" = some (some (.ref f2)))
    (l2 : K.lookup f2 = some ⟨oc2, od2, .func (PySem.W.fnOf "is_whole" "is_whole" (defArgs s_is_whole) (defBody s_is_whole) (defScope s_is_whole) .none kV2 dc2 pm2 an2 cd2 ct2), sl2⟩)
    (c2 : PySem.W.codeIn K cd2 "is_whole" = true)
    (k2 : PySem.W.keepIn K (.ref f2) = true)
    (a3 : PySem.W.nsIn K mainGlobals "is_integer_in" = some (some (.ref f3)))
    (l3 : K.lookup f3 = some ⟨oc3, od3, .func (PySem.W.fnOf "is_integer_in" "is_integer_in" (defArgs s_is_int) (defBody s_is_int) (defScope s_is_int) .none kV3 dc3 pm3 an3 cd3 ct3), sl3⟩)
    (c3 : PySem.W.codeIn K cd3 "is_integer_in" = true)
    (k3 : PySem.W.keepIn K (.ref f3) = true)
    (a4 : PySem.W.nsIn K mainGlobals "is_name" = some (some (.ref f4)))
    (l4 : K.lookup f4 = some ⟨oc4, od4, .func (PySem.W.fnOf "is_name" "is_name" (defArgs s_is_name) (defBody s_is_name) (defScope s_is_name) .none kV4 dc4 pm4 an4 cd4 ct4), sl4⟩)
    (c4 : PySem.W.codeIn K cd4 "is_name" = true)
    (k4 : PySem.W.keepIn K (.ref f4) = true)
    (a5 : PySem.W.nsIn K mainGlobals "are_sources" = some (some (.ref f5)))
    (l5 : K.lookup f5 = some ⟨oc5, od5, .func (PySem.W.fnOf "are_sources" "are_sources" (defArgs s_are_sources) (defBody s_are_sources) (defScope s_are_sources) .none kV5 dc5 pm5 an5 cd5 ct5), sl5⟩)
    (c5 : PySem.W.codeIn K cd5 "are_sources" = true)
    (k5 : PySem.W.keepIn K (.ref f5) = true)
    (a6 : PySem.W.nsIn K mainGlobals "is_signature" = some (some (.ref f6)))
    (l6 : K.lookup f6 = some ⟨oc6, od6, .func (PySem.W.fnOf "is_signature" "is_signature" (defArgs s_is_signature) (defBody s_is_signature) (defScope s_is_signature) .none kV6 dc6 pm6 an6 cd6 ct6), sl6⟩)
    (c6 : PySem.W.codeIn K cd6 "is_signature" = true)
    (k6 : PySem.W.keepIn K (.ref f6) = true)
    (a7 : PySem.W.findIn K (.ref xSignature) "__init__" = some (some (.ref f7)))
    (i7 : PySem.W.isFn K (.ref f7) = true)
    (l7 : K.lookup f7 = some ⟨oc7, od7, .func (PySem.W.fnOf "__init__" "Signature.__init__" (defArgs s_sig_init) (defBody s_sig_init) (defScope s_sig_init) .none (.ref kD7) dc7 pm7 an7 cd7 ct7), sl7⟩)
    (c7 : PySem.W.codeIn K cd7 "Signature.__init__" = true)
    (k7 : PySem.W.keepIn K (.ref f7) = true)
    (kw7sources : PySem.W.nsIn K kD7 "sources" = some (some (.ref kT7sources)))
    (kl7sources : K.lookup kT7sources = some ⟨.type "tuple", kO7sources, .seq (([] : List Value).toArray) kN7sources, kS7sources⟩)
    (a8 : PySem.W.findIn K (.ref xSignature) "text" = some (some (.ref f8)))
    (i8 : PySem.W.isFn K (.ref f8) = true)
    (l8 : K.lookup f8 = some ⟨oc8, od8, .func (PySem.W.fnOf "text" "Signature.text" (defArgs s_sig_text) (defBody s_sig_text) (defScope s_sig_text) .none kV8 dc8 pm8 an8 cd8 ct8), sl8⟩)
    (c8 : PySem.W.codeIn K cd8 "Signature.text" = true)
    (k8 : PySem.W.keepIn K (.ref f8) = true)
    (a9 : PySem.W.findCls K (.ref xSignature) (.type "type") "read" = some (.get (.builtin "staticmethod.__get__") (.ref pr9) .none (.ref xSignature)))
    (pc9 : PySem.W.recIn K pr9 "staticmethod" = some (.ref f9 :: re9))
    (rd9 : PySem.W.readsIn K xSignature (.type "type") = true)
    (rg9 : PySem.W.specialIn K (.ref xSignature) "__getattribute__" = some (some (.builtin "type.__getattribute__")))
    (l9 : K.lookup f9 = some ⟨oc9, od9, .func (PySem.W.fnOf "read" "Signature.read" (defArgs s_sig_read) (defBody s_sig_read) (defScope s_sig_read) .none kV9 dc9 pm9 an9 cd9 ct9), sl9⟩)
    (c9 : PySem.W.codeIn K cd9 "Signature.read" = true)
    (k9 : PySem.W.keepIn K (.ref f9) = true)
    (a10 : PySem.W.findIn K (.ref xBook) "__init__" = some (some (.ref f10)))
    (i10 : PySem.W.isFn K (.ref f10) = true)
    (l10 : K.lookup f10 = some ⟨oc10, od10, .func (PySem.W.fnOf "__init__" "Book.__init__" (defArgs s_book_init) (defBody s_book_init) (defScope s_book_init) .none kV10 dc10 pm10 an10 cd10 ct10), sl10⟩)
    (c10 : PySem.W.codeIn K cd10 "Book.__init__" = true)
    (k10 : PySem.W.keepIn K (.ref f10) = true)
    (a11 : PySem.W.findIn K (.ref xBook) "__contains__" = some (some (.ref f11)))
    (i11 : PySem.W.isFn K (.ref f11) = true)
    (l11 : K.lookup f11 = some ⟨oc11, od11, .func (PySem.W.fnOf "__contains__" "Book.__contains__" (defArgs s_book_has) (defBody s_book_has) (defScope s_book_has) .none kV11 dc11 pm11 an11 cd11 ct11), sl11⟩)
    (c11 : PySem.W.codeIn K cd11 "Book.__contains__" = true)
    (k11 : PySem.W.keepIn K (.ref f11) = true)
    (a12 : PySem.W.findIn K (.ref xBook) "__getitem__" = some (some (.ref f12)))
    (i12 : PySem.W.isFn K (.ref f12) = true)
    (l12 : K.lookup f12 = some ⟨oc12, od12, .func (PySem.W.fnOf "__getitem__" "Book.__getitem__" (defArgs s_book_get) (defBody s_book_get) (defScope s_book_get) .none kV12 dc12 pm12 an12 cd12 ct12), sl12⟩)
    (c12 : PySem.W.codeIn K cd12 "Book.__getitem__" = true)
    (k12 : PySem.W.keepIn K (.ref f12) = true)
    (a13 : PySem.W.findIn K (.ref xBook) "__iter__" = some (some (.ref f13)))
    (i13 : PySem.W.isFn K (.ref f13) = true)
    (l13 : K.lookup f13 = some ⟨oc13, od13, .func (PySem.W.fnOf "__iter__" "Book.__iter__" (defArgs s_book_iter) (defBody s_book_iter) (defScope s_book_iter) .none kV13 dc13 pm13 an13 cd13 ct13), sl13⟩)
    (c13 : PySem.W.codeIn K cd13 "Book.__iter__" = true)
    (k13 : PySem.W.keepIn K (.ref f13) = true)
    (a14 : PySem.W.nsIn K mainGlobals "cut" = some (some (.ref f14)))
    (l14 : K.lookup f14 = some ⟨oc14, od14, .func (PySem.W.fnOf "cut" "cut" (defArgs s_cut) (defBody s_cut) (defScope s_cut) .none kV14 dc14 pm14 an14 cd14 ct14), sl14⟩)
    (c14 : PySem.W.codeIn K cd14 "cut" = true)
    (k14 : PySem.W.keepIn K (.ref f14) = true)
    (a15 : PySem.W.nsIn K mainGlobals "operation" = some (some (.ref f15)))
    (l15 : K.lookup f15 = some ⟨oc15, od15, .func (PySem.W.fnOf "operation" "operation" (defArgs s_operation) (defBody s_operation) (defScope s_operation) .none kV15 dc15 pm15 an15 cd15 ct15), sl15⟩)
    (c15 : PySem.W.codeIn K cd15 "operation" = true)
    (k15 : PySem.W.keepIn K (.ref f15) = true)
    (a16 : PySem.W.nsIn K mainGlobals "closed" = some (some (.ref f16)))
    (l16 : K.lookup f16 = some ⟨oc16, od16, .func (PySem.W.fnOf "closed" "closed" (defArgs s_closed) (defBody s_closed) (defScope s_closed) .none kV16 dc16 pm16 an16 cd16 ct16), sl16⟩)
    (c16 : PySem.W.codeIn K cd16 "closed" = true)
    (k16 : PySem.W.keepIn K (.ref f16) = true)
    (a17 : PySem.W.nsIn K mainGlobals "add_node" = some (some (.ref f17)))
    (l17 : K.lookup f17 = some ⟨oc17, od17, .func (PySem.W.fnOf "add_node" "add_node" (defArgs s_add_node) (defBody s_add_node) (defScope s_add_node) .none kV17 dc17 pm17 an17 cd17 ct17), sl17⟩)
    (c17 : PySem.W.codeIn K cd17 "add_node" = true)
    (k17 : PySem.W.keepIn K (.ref f17) = true)
    (a18 : PySem.W.nsIn K mainGlobals "nodes_of" = some (some (.ref f18)))
    (l18 : K.lookup f18 = some ⟨oc18, od18, .func (PySem.W.fnOf "nodes_of" "nodes_of" (defArgs s_nodes_of) (defBody s_nodes_of) (defScope s_nodes_of) .none kV18 dc18 pm18 an18 cd18 ct18), sl18⟩)
    (c18 : PySem.W.codeIn K cd18 "nodes_of" = true)
    (k18 : PySem.W.keepIn K (.ref f18) = true)
    (a19 : PySem.W.nsIn K mainGlobals "operands_of" = some (some (.ref f19)))
    (l19 : K.lookup f19 = some ⟨oc19, od19, .func (PySem.W.fnOf "operands_of" "operands_of" (defArgs s_operands_of) (defBody s_operands_of) (defScope s_operands_of) .none kV19 dc19 pm19 an19 cd19 ct19), sl19⟩)
    (c19 : PySem.W.codeIn K cd19 "operands_of" = true)
    (k19 : PySem.W.keepIn K (.ref f19) = true)
    (a20 : PySem.W.nsIn K mainGlobals "firsts_of" = some (some (.ref f20)))
    (l20 : K.lookup f20 = some ⟨oc20, od20, .func (PySem.W.fnOf "firsts_of" "firsts_of" (defArgs s_firsts_of) (defBody s_firsts_of) (defScope s_firsts_of) .none kV20 dc20 pm20 an20 cd20 ct20), sl20⟩)
    (c20 : PySem.W.codeIn K cd20 "firsts_of" = true)
    (k20 : PySem.W.keepIn K (.ref f20) = true)
    (a21 : PySem.W.nsIn K mainGlobals "node_text" = some (some (.ref f21)))
    (l21 : K.lookup f21 = some ⟨oc21, od21, .func (PySem.W.fnOf "node_text" "node_text" (defArgs s_node_text) (defBody s_node_text) (defScope s_node_text) .none kV21 dc21 pm21 an21 cd21 ct21), sl21⟩)
    (c21 : PySem.W.codeIn K cd21 "node_text" = true)
    (k21 : PySem.W.keepIn K (.ref f21) = true)
    (a22 : PySem.W.findIn K (.ref xExpression) "__init__" = some (some (.ref f22)))
    (i22 : PySem.W.isFn K (.ref f22) = true)
    (l22 : K.lookup f22 = some ⟨oc22, od22, .func (PySem.W.fnOf "__init__" "Expression.__init__" (defArgs s_ex_init) (defBody s_ex_init) (defScope s_ex_init) .none kV22 dc22 pm22 an22 cd22 ct22), sl22⟩)
    (c22 : PySem.W.codeIn K cd22 "Expression.__init__" = true)
    (k22 : PySem.W.keepIn K (.ref f22) = true)
    (a23 : PySem.W.findCls K (.ref xExpression) (.type "type") "read" = some (.get (.builtin "classmethod.__get__") (.ref pr23) .none (.ref xExpression)))
    (pc23 : PySem.W.recIn K pr23 "classmethod" = some (.ref f23 :: re23))
    (fi23 : PySem.W.fnIn K f23 = true)
    (l23 : K.lookup f23 = some ⟨oc23, od23, .func (PySem.W.fnOf "read" "Expression.read" (defArgs s_ex_read) (defBody s_ex_read) (defScope s_ex_read) .none kV23 dc23 pm23 an23 cd23 ct23), sl23⟩)
    (c23 : PySem.W.codeIn K cd23 "Expression.read" = true)
    (k23 : PySem.W.keepIn K (.ref f23) = true)
    (a24 : PySem.W.findIn K (.ref xExpression) "nodes" = some (some (.ref pr24)))
    (pg24 : PySem.W.specialIn K (.ref pr24) "__get__" = some (some (.builtin "property.__get__")))
    (pt24 : PySem.W.takesIn K (.ref pr24) = some true)
    (pc24 : PySem.W.recIn K pr24 "property" = some (.ref f24 :: re24))
    (l24 : K.lookup f24 = some ⟨oc24, od24, .func (PySem.W.fnOf "nodes" "Expression.nodes" (defArgs s_ex_nodes) (defBody s_ex_nodes) (defScope s_ex_nodes) .none kV24 dc24 pm24 an24 cd24 ct24), sl24⟩)
    (c24 : PySem.W.codeIn K cd24 "Expression.nodes" = true)
    (k24 : PySem.W.keepIn K (.ref f24) = true)
    (a25 : PySem.W.findIn K (.ref xExpression) "__len__" = some (some (.ref f25)))
    (i25 : PySem.W.isFn K (.ref f25) = true)
    (l25 : K.lookup f25 = some ⟨oc25, od25, .func (PySem.W.fnOf "__len__" "Expression.__len__" (defArgs s_ex_len) (defBody s_ex_len) (defScope s_ex_len) .none kV25 dc25 pm25 an25 cd25 ct25), sl25⟩)
    (c25 : PySem.W.codeIn K cd25 "Expression.__len__" = true)
    (k25 : PySem.W.keepIn K (.ref f25) = true)
    (a26 : PySem.W.findIn K (.ref xExpression) "first" = some (some (.ref f26)))
    (i26 : PySem.W.isFn K (.ref f26) = true)
    (l26 : K.lookup f26 = some ⟨oc26, od26, .func (PySem.W.fnOf "first" "Expression.first" (defArgs s_ex_first) (defBody s_ex_first) (defScope s_ex_first) .none kV26 dc26 pm26 an26 cd26 ct26), sl26⟩)
    (c26 : PySem.W.codeIn K cd26 "Expression.first" = true)
    (k26 : PySem.W.keepIn K (.ref f26) = true)
    (a27 : PySem.W.findIn K (.ref xExpression) "part_text" = some (some (.ref f27)))
    (i27 : PySem.W.isFn K (.ref f27) = true)
    (l27 : K.lookup f27 = some ⟨oc27, od27, .func (PySem.W.fnOf "part_text" "Expression.part_text" (defArgs s_part_text) (defBody s_part_text) (defScope s_part_text) .none (.ref kD27) dc27 pm27 an27 cd27 ct27), sl27⟩)
    (c27 : PySem.W.codeIn K cd27 "Expression.part_text" = true)
    (k27 : PySem.W.keepIn K (.ref f27) = true)
    (kw27named : PySem.W.nsIn K kD27 "named" = some (some (.none)))
    (a28 : PySem.W.findIn K (.ref xExpression) "text" = some (some (.ref f28)))
    (i28 : PySem.W.isFn K (.ref f28) = true)
    (l28 : K.lookup f28 = some ⟨oc28, od28, .func (PySem.W.fnOf "text" "Expression.text" (defArgs s_ex_text) (defBody s_ex_text) (defScope s_ex_text) .none kV28 dc28 pm28 an28 cd28 ct28), sl28⟩)
    (c28 : PySem.W.codeIn K cd28 "Expression.text" = true)
    (k28 : PySem.W.keepIn K (.ref f28) = true)
    (a29 : PySem.W.nsIn K mainGlobals "is_row" = some (some (.ref f29)))
    (l29 : K.lookup f29 = some ⟨oc29, od29, .func (PySem.W.fnOf "is_row" "is_row" (defArgs s_is_row) (defBody s_is_row) (defScope s_is_row) .none kV29 dc29 pm29 an29 cd29 ct29), sl29⟩)
    (c29 : PySem.W.codeIn K cd29 "is_row" = true)
    (k29 : PySem.W.keepIn K (.ref f29) = true)
    (a30 : PySem.W.nsIn K mainGlobals "parts_of" = some (some (.ref f30)))
    (l30 : K.lookup f30 = some ⟨oc30, od30, .func (PySem.W.fnOf "parts_of" "parts_of" (defArgs s_parts_of) (defBody s_parts_of) (defScope s_parts_of) .none kV30 dc30 pm30 an30 cd30 ct30), sl30⟩)
    (c30 : PySem.W.codeIn K cd30 "parts_of" = true)
    (k30 : PySem.W.keepIn K (.ref f30) = true)
    (a31 : PySem.W.findIn K (.ref xRow) "__init__" = some (some (.ref f31)))
    (i31 : PySem.W.isFn K (.ref f31) = true)
    (l31 : K.lookup f31 = some ⟨oc31, od31, .func (PySem.W.fnOf "__init__" "Row.__init__" (defArgs s_row_init) (defBody s_row_init) (defScope s_row_init) .none (.ref kD31) dc31 pm31 an31 cd31 ct31), sl31⟩)
    (c31 : PySem.W.codeIn K cd31 "Row.__init__" = true)
    (k31 : PySem.W.keepIn K (.ref f31) = true)
    (kw31name : PySem.W.nsIn K kD31 "name" = some (some (.str "" kt31name)))
    (kw31expression : PySem.W.nsIn K kD31 "expression" = some (some (.none)))
    (a32 : PySem.W.findIn K (.ref xRow) "text" = some (some (.ref f32)))
    (i32 : PySem.W.isFn K (.ref f32) = true)
    (l32 : K.lookup f32 = some ⟨oc32, od32, .func (PySem.W.fnOf "text" "Row.text" (defArgs s_row_text) (defBody s_row_text) (defScope s_row_text) .none kV32 dc32 pm32 an32 cd32 ct32), sl32⟩)
    (c32 : PySem.W.codeIn K cd32 "Row.text" = true)
    (k32 : PySem.W.keepIn K (.ref f32) = true)
    (a33 : PySem.W.findCls K (.ref xRow) (.type "type") "read" = some (.get (.builtin "staticmethod.__get__") (.ref pr33) .none (.ref xRow)))
    (pc33 : PySem.W.recIn K pr33 "staticmethod" = some (.ref f33 :: re33))
    (rd33 : PySem.W.readsIn K xRow (.type "type") = true)
    (rg33 : PySem.W.specialIn K (.ref xRow) "__getattribute__" = some (some (.builtin "type.__getattribute__")))
    (l33 : K.lookup f33 = some ⟨oc33, od33, .func (PySem.W.fnOf "read" "Row.read" (defArgs s_row_read) (defBody s_row_read) (defScope s_row_read) .none kV33 dc33 pm33 an33 cd33 ct33), sl33⟩)
    (c33 : PySem.W.codeIn K cd33 "Row.read" = true)
    (k33 : PySem.W.keepIn K (.ref f33) = true)
    (a34 : PySem.W.nsIn K mainGlobals "text_of" = some (some (.ref f34)))
    (l34 : K.lookup f34 = some ⟨oc34, od34, .func (PySem.W.fnOf "text_of" "text_of" (defArgs s_text_of) (defBody s_text_of) (defScope s_text_of) .none kV34 dc34 pm34 an34 cd34 ct34), sl34⟩)
    (c34 : PySem.W.codeIn K cd34 "text_of" = true)
    (k34 : PySem.W.keepIn K (.ref f34) = true)
    (a35 : PySem.W.nsIn K mainGlobals "read_signature" = some (some (.ref f35)))
    (l35 : K.lookup f35 = some ⟨oc35, od35, .func (PySem.W.fnOf "read_signature" "read_signature" (defArgs s_read_signature) (defBody s_read_signature) (defScope s_read_signature) .none kV35 dc35 pm35 an35 cd35 ct35), sl35⟩)
    (c35 : PySem.W.codeIn K cd35 "read_signature" = true)
    (k35 : PySem.W.keepIn K (.ref f35) = true)
    (a36 : PySem.W.nsIn K mainGlobals "read_outs" = some (some (.ref f36)))
    (l36 : K.lookup f36 = some ⟨oc36, od36, .func (PySem.W.fnOf "read_outs" "read_outs" (defArgs s_read_outs) (defBody s_read_outs) (defScope s_read_outs) .none kV36 dc36 pm36 an36 cd36 ct36), sl36⟩)
    (c36 : PySem.W.codeIn K cd36 "read_outs" = true)
    (k36 : PySem.W.keepIn K (.ref f36) = true)
    (a37 : PySem.W.nsIn K mainGlobals "read_row" = some (some (.ref f37)))
    (l37 : K.lookup f37 = some ⟨oc37, od37, .func (PySem.W.fnOf "read_row" "read_row" (defArgs s_read_row) (defBody s_read_row) (defScope s_read_row) .none kV37 dc37 pm37 an37 cd37 ct37), sl37⟩)
    (c37 : PySem.W.codeIn K cd37 "read_row" = true)
    (k37 : PySem.W.keepIn K (.ref f37) = true)
    (a38 : PySem.W.nsIn K mainGlobals "read_lines" = some (some (.ref f38)))
    (l38 : K.lookup f38 = some ⟨oc38, od38, .func (PySem.W.fnOf "read_lines" "read_lines" (defArgs s_read_lines) (defBody s_read_lines) (defScope s_read_lines) .none kV38 dc38 pm38 an38 cd38 ct38), sl38⟩)
    (c38 : PySem.W.codeIn K cd38 "read_lines" = true)
    (k38 : PySem.W.keepIn K (.ref f38) = true)
    (a39 : PySem.W.findIn K (.ref xBlocks) "__init__" = some (some (.ref f39)))
    (i39 : PySem.W.isFn K (.ref f39) = true)
    (l39 : K.lookup f39 = some ⟨oc39, od39, .func (PySem.W.fnOf "__init__" "Blocks.__init__" (defArgs s_bl_init) (defBody s_bl_init) (defScope s_bl_init) .none kV39 dc39 pm39 an39 cd39 ct39), sl39⟩)
    (c39 : PySem.W.codeIn K cd39 "Blocks.__init__" = true)
    (k39 : PySem.W.keepIn K (.ref f39) = true)
    (a40 : PySem.W.findIn K (.ref xBlocks) "take" = some (some (.ref f40)))
    (i40 : PySem.W.isFn K (.ref f40) = true)
    (l40 : K.lookup f40 = some ⟨oc40, od40, .func (PySem.W.fnOf "take" "Blocks.take" (defArgs s_bl_take) (defBody s_bl_take) (defScope s_bl_take) .none kV40 dc40 pm40 an40 cd40 ct40), sl40⟩)
    (c40 : PySem.W.codeIn K cd40 "Blocks.take" = true)
    (k40 : PySem.W.keepIn K (.ref f40) = true)
    (a41 : PySem.W.findIn K (.ref xBlocks) "finish" = some (some (.ref f41)))
    (i41 : PySem.W.isFn K (.ref f41) = true)
    (l41 : K.lookup f41 = some ⟨oc41, od41, .func (PySem.W.fnOf "finish" "Blocks.finish" (defArgs s_bl_fin) (defBody s_bl_fin) (defScope s_bl_fin) .none kV41 dc41 pm41 an41 cd41 ct41), sl41⟩)
    (c41 : PySem.W.codeIn K cd41 "Blocks.finish" = true)
    (k41 : PySem.W.keepIn K (.ref f41) = true)
    (a42 : PySem.W.findIn K (.ref xBlocks) "around" = some (some (.ref f42)))
    (i42 : PySem.W.isFn K (.ref f42) = true)
    (l42 : K.lookup f42 = some ⟨oc42, od42, .func (PySem.W.fnOf "around" "Blocks.around" (defArgs s_bl_around) (defBody s_bl_around) (defScope s_bl_around) .none kV42 dc42 pm42 an42 cd42 ct42), sl42⟩)
    (c42 : PySem.W.codeIn K cd42 "Blocks.around" = true)
    (k42 : PySem.W.keepIn K (.ref f42) = true)
    (a43 : PySem.W.findIn K (.ref xBlocks) "inner" = some (some (.ref f43)))
    (i43 : PySem.W.isFn K (.ref f43) = true)
    (l43 : K.lookup f43 = some ⟨oc43, od43, .func (PySem.W.fnOf "inner" "Blocks.inner" (defArgs s_bl_inner) (defBody s_bl_inner) (defScope s_bl_inner) .none kV43 dc43 pm43 an43 cd43 ct43), sl43⟩)
    (c43 : PySem.W.codeIn K cd43 "Blocks.inner" = true)
    (k43 : PySem.W.keepIn K (.ref f43) = true)
    (a44 : PySem.W.findIn K (.ref xProgram) "__init__" = some (some (.ref f44)))
    (i44 : PySem.W.isFn K (.ref f44) = true)
    (l44 : K.lookup f44 = some ⟨oc44, od44, .func (PySem.W.fnOf "__init__" "Program.__init__" (defArgs s_pr_init) (defBody s_pr_init) (defScope s_pr_init) .none kV44 dc44 pm44 an44 cd44 ct44), sl44⟩)
    (c44 : PySem.W.codeIn K cd44 "Program.__init__" = true)
    (k44 : PySem.W.keepIn K (.ref f44) = true)
    (a45 : PySem.W.findIn K (.ref xProgram) "_take_outs" = some (some (.ref f45)))
    (i45 : PySem.W.isFn K (.ref f45) = true)
    (l45 : K.lookup f45 = some ⟨oc45, od45, .func (PySem.W.fnOf "_take_outs" "Program._take_outs" (defArgs s_pr_outs) (defBody s_pr_outs) (defScope s_pr_outs) .none kV45 dc45 pm45 an45 cd45 ct45), sl45⟩)
    (c45 : PySem.W.codeIn K cd45 "Program._take_outs" = true)
    (k45 : PySem.W.keepIn K (.ref f45) = true)
    (a46 : PySem.W.findIn K (.ref xProgram) "_check_scope" = some (some (.ref f46)))
    (i46 : PySem.W.isFn K (.ref f46) = true)
    (l46 : K.lookup f46 = some ⟨oc46, od46, .func (PySem.W.fnOf "_check_scope" "Program._check_scope" (defArgs s_pr_check) (defBody s_pr_check) (defScope s_pr_check) .none kV46 dc46 pm46 an46 cd46 ct46), sl46⟩)
    (c46 : PySem.W.codeIn K cd46 "Program._check_scope" = true)
    (k46 : PySem.W.keepIn K (.ref f46) = true)
    (a47 : PySem.W.findIn K (.ref xProgram) "is_in_scope" = some (some (.ref f47)))
    (i47 : PySem.W.isFn K (.ref f47) = true)
    (l47 : K.lookup f47 = some ⟨oc47, od47, .func (PySem.W.fnOf "is_in_scope" "Program.is_in_scope" (defArgs s_pr_scope) (defBody s_pr_scope) (defScope s_pr_scope) .none kV47 dc47 pm47 an47 cd47 ct47), sl47⟩)
    (c47 : PySem.W.codeIn K cd47 "Program.is_in_scope" = true)
    (k47 : PySem.W.keepIn K (.ref f47) = true)
    (a48 : PySem.W.findIn K (.ref xProgram) "_take_rows" = some (some (.ref f48)))
    (i48 : PySem.W.isFn K (.ref f48) = true)
    (l48 : K.lookup f48 = some ⟨oc48, od48, .func (PySem.W.fnOf "_take_rows" "Program._take_rows" (defArgs s_pr_rows) (defBody s_pr_rows) (defScope s_pr_rows) .none kV48 dc48 pm48 an48 cd48 ct48), sl48⟩)
    (c48 : PySem.W.codeIn K cd48 "Program._take_rows" = true)
    (k48 : PySem.W.keepIn K (.ref f48) = true)
    (a49 : PySem.W.findIn K (.ref xProgram) "_check_nodes" = some (some (.ref f49)))
    (i49 : PySem.W.isFn K (.ref f49) = true)
    (l49 : K.lookup f49 = some ⟨oc49, od49, .func (PySem.W.fnOf "_check_nodes" "Program._check_nodes" (defArgs s_pr_nodes) (defBody s_pr_nodes) (defScope s_pr_nodes) .none kV49 dc49 pm49 an49 cd49 ct49), sl49⟩)
    (c49 : PySem.W.codeIn K cd49 "Program._check_nodes" = true)
    (k49 : PySem.W.keepIn K (.ref f49) = true)
    (a50 : PySem.W.findIn K (.ref xProgram) "_take_name" = some (some (.ref f50)))
    (i50 : PySem.W.isFn K (.ref f50) = true)
    (l50 : K.lookup f50 = some ⟨oc50, od50, .func (PySem.W.fnOf "_take_name" "Program._take_name" (defArgs s_pr_name) (defBody s_pr_name) (defScope s_pr_name) .none kV50 dc50 pm50 an50 cd50 ct50), sl50⟩)
    (c50 : PySem.W.codeIn K cd50 "Program._take_name" = true)
    (k50 : PySem.W.keepIn K (.ref f50) = true)
    (a51 : PySem.W.findIn K (.ref xProgram) "__len__" = some (some (.ref f51)))
    (i51 : PySem.W.isFn K (.ref f51) = true)
    (l51 : K.lookup f51 = some ⟨oc51, od51, .func (PySem.W.fnOf "__len__" "Program.__len__" (defArgs s_pr_len) (defBody s_pr_len) (defScope s_pr_len) .none kV51 dc51 pm51 an51 cd51 ct51), sl51⟩)
    (c51 : PySem.W.codeIn K cd51 "Program.__len__" = true)
    (k51 : PySem.W.keepIn K (.ref f51) = true)
    (a52 : PySem.W.findIn K (.ref xProgram) "text" = some (some (.ref f52)))
    (i52 : PySem.W.isFn K (.ref f52) = true)
    (l52 : K.lookup f52 = some ⟨oc52, od52, .func (PySem.W.fnOf "text" "Program.text" (defArgs s_pr_text) (defBody s_pr_text) (defScope s_pr_text) .none kV52 dc52 pm52 an52 cd52 ct52), sl52⟩)
    (c52 : PySem.W.codeIn K cd52 "Program.text" = true)
    (k52 : PySem.W.keepIn K (.ref f52) = true)
    (a53 : PySem.W.findCls K (.ref xProgram) (.type "type") "read" = some (.get (.builtin "classmethod.__get__") (.ref pr53) .none (.ref xProgram)))
    (pc53 : PySem.W.recIn K pr53 "classmethod" = some (.ref f53 :: re53))
    (fi53 : PySem.W.fnIn K f53 = true)
    (l53 : K.lookup f53 = some ⟨oc53, od53, .func (PySem.W.fnOf "read" "Program.read" (defArgs s_pr_read) (defBody s_pr_read) (defScope s_pr_read) .none kV53 dc53 pm53 an53 cd53 ct53), sl53⟩)
    (c53 : PySem.W.codeIn K cd53 "Program.read" = true)
    (k53 : PySem.W.keepIn K (.ref f53) = true)
    (a54 : PySem.W.nsIn K mainGlobals "_law_draws" = some (some (.ref f54)))
    (l54 : K.lookup f54 = some ⟨oc54, od54, .func (PySem.W.fnOf "_law_draws" "_law_draws" (defArgs s_draws) (defBody s_draws) (defScope s_draws) .none kV54 dc54 pm54 an54 cd54 ct54), sl54⟩)
    (c54 : PySem.W.codeIn K cd54 "_law_draws" = true)
    (k54 : PySem.W.keepIn K (.ref f54) = true)
    (a55 : PySem.W.nsIn K mainGlobals "_law_take" = some (some (.ref f55)))
    (l55 : K.lookup f55 = some ⟨oc55, od55, .func (PySem.W.fnOf "_law_take" "_law_take" (defArgs s_take) (defBody s_take) (defScope s_take) .none kV55 dc55 pm55 an55 cd55 ct55), sl55⟩)
    (c55 : PySem.W.codeIn K cd55 "_law_take" = true)
    (k55 : PySem.W.keepIn K (.ref f55) = true)
    (a56 : PySem.W.nsIn K mainGlobals "_law_sizes" = some (some (.ref f56)))
    (l56 : K.lookup f56 = some ⟨oc56, od56, .func (PySem.W.fnOf "_law_sizes" "_law_sizes" (defArgs s_sizes) (defBody s_sizes) (defScope s_sizes) .none kV56 dc56 pm56 an56 cd56 ct56), sl56⟩)
    (c56 : PySem.W.codeIn K cd56 "_law_sizes" = true)
    (k56 : PySem.W.keepIn K (.ref f56) = true)
    (a57 : PySem.W.nsIn K mainGlobals "_law_sized_rows" = some (some (.ref f57)))
    (l57 : K.lookup f57 = some ⟨oc57, od57, .func (PySem.W.fnOf "_law_sized_rows" "_law_sized_rows" (defArgs s_srows) (defBody s_srows) (defScope s_srows) .none kV57 dc57 pm57 an57 cd57 ct57), sl57⟩)
    (c57 : PySem.W.codeIn K cd57 "_law_sized_rows" = true)
    (k57 : PySem.W.keepIn K (.ref f57) = true)
    (a58 : PySem.W.nsIn K mainGlobals "_law_due" = some (some (.ref f58)))
    (l58 : K.lookup f58 = some ⟨oc58, od58, .func (PySem.W.fnOf "_law_due" "_law_due" (defArgs s_due) (defBody s_due) (defScope s_due) .none kV58 dc58 pm58 an58 cd58 ct58), sl58⟩)
    (c58 : PySem.W.codeIn K cd58 "_law_due" = true)
    (k58 : PySem.W.keepIn K (.ref f58) = true)
    (a59 : PySem.W.nsIn K mainGlobals "_law_told" = some (some (.ref f59)))
    (l59 : K.lookup f59 = some ⟨oc59, od59, .func (PySem.W.fnOf "_law_told" "_law_told" (defArgs s_told) (defBody s_told) (defScope s_told) .none kV59 dc59 pm59 an59 cd59 ct59), sl59⟩)
    (c59 : PySem.W.codeIn K cd59 "_law_told" = true)
    (k59 : PySem.W.keepIn K (.ref f59) = true)
    (a60 : PySem.W.nsIn K mainGlobals "law" = some (some (.ref f60)))
    (l60 : K.lookup f60 = some ⟨oc60, od60, .func (PySem.W.fnOf "law" "law" (defArgs s_law) (defBody s_law) (defScope s_law) .none kV60 dc60 pm60 an60 cd60 ct60), sl60⟩)
    (c60 : PySem.W.codeIn K cd60 "law" = true)
    (k60 : PySem.W.keepIn K (.ref f60) = true)
    (zValueError : PySem.W.nsIn K mainGlobals "ValueError" = some none)
    (zabs : PySem.W.nsIn K mainGlobals "abs" = some none)
    (zall : PySem.W.nsIn K mainGlobals "all" = some none)
    (zbool : PySem.W.nsIn K mainGlobals "bool" = some none)
    (zdict : PySem.W.nsIn K mainGlobals "dict" = some none)
    (zenumerate : PySem.W.nsIn K mainGlobals "enumerate" = some none)
    (zint : PySem.W.nsIn K mainGlobals "int" = some none)
    (zisinstance : PySem.W.nsIn K mainGlobals "isinstance" = some none)
    (ziter : PySem.W.nsIn K mainGlobals "iter" = some none)
    (zlen : PySem.W.nsIn K mainGlobals "len" = some none)
    (zlist : PySem.W.nsIn K mainGlobals "list" = some none)
    (zmax : PySem.W.nsIn K mainGlobals "max" = some none)
    (zmin : PySem.W.nsIn K mainGlobals "min" = some none)
    (zrange : PySem.W.nsIn K mainGlobals "range" = some none)
    (zreversed : PySem.W.nsIn K mainGlobals "reversed" = some none)
    (zstr : PySem.W.nsIn K mainGlobals "str" = some none)
    (ztuple : PySem.W.nsIn K mainGlobals "tuple" = some none)
    (xL_LivesError : K.lookup xLivesError = some (excClassObj nmLivesError qLivesError xLivesError NLivesError bsLivesError bmLivesError true snLivesError subLivesError abLivesError colLivesError ddLivesError m0LivesError m1LivesError m2LivesError m3LivesError m5LivesError "ValueError.__new__"))
    (xR_LivesError : PySem.HandSPX.refsVE bmLivesError = true)
    (sa_LivesError : PySem.W.findIn K (.ref xLivesError) "__setattr__" = some (some (.builtin "object.__setattr__")))
    (eC_LivesError : PySem.W.subIn K (.ref xLivesError) (.type "BaseException") = some true)
    (tC_LivesError : PySem.W.typeIn K (.ref xLivesError) = some (.type "type"))
    (kc_LivesError : PySem.W.keepIn K (.ref xLivesError) = true)
    (nw_LivesError : PySem.W.findIn K (.ref xLivesError) "what" = some none)
    (ii_LivesError : PySem.W.findIn K (.ref xLivesError) "__init__" = some (some (.ref f1)))
    (ga_LivesError : PySem.W.findIn K (.ref xLivesError) "__getattribute__" = some (some (.builtin "BaseException.__getattribute__")))
    (gg_LivesError : PySem.W.findIn K (.ref xLivesError) "__getattr__" = some none)
    (hd_LivesError : PySem.W.hasDictIn K xLivesError = true)
    (xL_InvalidSignature : K.lookup xInvalidSignature = some (excClassObj nmInvalidSignature qInvalidSignature xInvalidSignature NInvalidSignature bsInvalidSignature bmInvalidSignature true snInvalidSignature subInvalidSignature abInvalidSignature colInvalidSignature ddInvalidSignature m0InvalidSignature m1InvalidSignature m2InvalidSignature m3InvalidSignature m5InvalidSignature "ValueError.__new__"))
    (xR_InvalidSignature : PySem.HandSPX.refsVE bmInvalidSignature = true)
    (sa_InvalidSignature : PySem.W.findIn K (.ref xInvalidSignature) "__setattr__" = some (some (.builtin "object.__setattr__")))
    (eC_InvalidSignature : PySem.W.subIn K (.ref xInvalidSignature) (.type "BaseException") = some true)
    (tC_InvalidSignature : PySem.W.typeIn K (.ref xInvalidSignature) = some (.type "type"))
    (kc_InvalidSignature : PySem.W.keepIn K (.ref xInvalidSignature) = true)
    (nw_InvalidSignature : PySem.W.findIn K (.ref xInvalidSignature) "what" = some none)
    (ii_InvalidSignature : PySem.W.findIn K (.ref xInvalidSignature) "__init__" = some (some (.ref f1)))
    (ga_InvalidSignature : PySem.W.findIn K (.ref xInvalidSignature) "__getattribute__" = some (some (.builtin "BaseException.__getattribute__")))
    (gg_InvalidSignature : PySem.W.findIn K (.ref xInvalidSignature) "__getattr__" = some none)
    (hd_InvalidSignature : PySem.W.hasDictIn K xInvalidSignature = true)
    (xL_UnknownFunction : K.lookup xUnknownFunction = some (excClassObj nmUnknownFunction qUnknownFunction xUnknownFunction NUnknownFunction bsUnknownFunction bmUnknownFunction true snUnknownFunction subUnknownFunction abUnknownFunction colUnknownFunction ddUnknownFunction m0UnknownFunction m1UnknownFunction m2UnknownFunction m3UnknownFunction m5UnknownFunction "ValueError.__new__"))
    (xR_UnknownFunction : PySem.HandSPX.refsVE bmUnknownFunction = true)
    (sa_UnknownFunction : PySem.W.findIn K (.ref xUnknownFunction) "__setattr__" = some (some (.builtin "object.__setattr__")))
    (eC_UnknownFunction : PySem.W.subIn K (.ref xUnknownFunction) (.type "BaseException") = some true)
    (tC_UnknownFunction : PySem.W.typeIn K (.ref xUnknownFunction) = some (.type "type"))
    (kc_UnknownFunction : PySem.W.keepIn K (.ref xUnknownFunction) = true)
    (nw_UnknownFunction : PySem.W.findIn K (.ref xUnknownFunction) "what" = some none)
    (ii_UnknownFunction : PySem.W.findIn K (.ref xUnknownFunction) "__init__" = some (some (.ref f1)))
    (ga_UnknownFunction : PySem.W.findIn K (.ref xUnknownFunction) "__getattribute__" = some (some (.builtin "BaseException.__getattribute__")))
    (gg_UnknownFunction : PySem.W.findIn K (.ref xUnknownFunction) "__getattr__" = some none)
    (hd_UnknownFunction : PySem.W.hasDictIn K xUnknownFunction = true)
    (ha_UnknownFunction : PySem.W.findIn K (.ref xUnknownFunction) "__class__" = some (some (.builtin "object.__class__")))
    (hm_UnknownFunction : PySem.W.mroIn K xUnknownFunction (.type "object") = some true)
    (xL_TooLarge : K.lookup xTooLarge = some (excClassObj nmTooLarge qTooLarge xTooLarge NTooLarge bsTooLarge bmTooLarge true snTooLarge subTooLarge abTooLarge colTooLarge ddTooLarge m0TooLarge m1TooLarge m2TooLarge m3TooLarge m5TooLarge "ValueError.__new__"))
    (xR_TooLarge : PySem.HandSPX.refsVE bmTooLarge = true)
    (sa_TooLarge : PySem.W.findIn K (.ref xTooLarge) "__setattr__" = some (some (.builtin "object.__setattr__")))
    (eC_TooLarge : PySem.W.subIn K (.ref xTooLarge) (.type "BaseException") = some true)
    (tC_TooLarge : PySem.W.typeIn K (.ref xTooLarge) = some (.type "type"))
    (kc_TooLarge : PySem.W.keepIn K (.ref xTooLarge) = true)
    (nw_TooLarge : PySem.W.findIn K (.ref xTooLarge) "what" = some none)
    (ii_TooLarge : PySem.W.findIn K (.ref xTooLarge) "__init__" = some (some (.ref f1)))
    (ga_TooLarge : PySem.W.findIn K (.ref xTooLarge) "__getattribute__" = some (some (.builtin "BaseException.__getattribute__")))
    (gg_TooLarge : PySem.W.findIn K (.ref xTooLarge) "__getattr__" = some none)
    (hd_TooLarge : PySem.W.hasDictIn K xTooLarge = true)
    (ha_TooLarge : PySem.W.findIn K (.ref xTooLarge) "__class__" = some (some (.builtin "object.__class__")))
    (hm_TooLarge : PySem.W.mroIn K xTooLarge (.type "object") = some true)
    (xL_DuplicateFunction : K.lookup xDuplicateFunction = some (excClassObj nmDuplicateFunction qDuplicateFunction xDuplicateFunction NDuplicateFunction bsDuplicateFunction bmDuplicateFunction true snDuplicateFunction subDuplicateFunction abDuplicateFunction colDuplicateFunction ddDuplicateFunction m0DuplicateFunction m1DuplicateFunction m2DuplicateFunction m3DuplicateFunction m5DuplicateFunction "ValueError.__new__"))
    (xR_DuplicateFunction : PySem.HandSPX.refsVE bmDuplicateFunction = true)
    (sa_DuplicateFunction : PySem.W.findIn K (.ref xDuplicateFunction) "__setattr__" = some (some (.builtin "object.__setattr__")))
    (eC_DuplicateFunction : PySem.W.subIn K (.ref xDuplicateFunction) (.type "BaseException") = some true)
    (tC_DuplicateFunction : PySem.W.typeIn K (.ref xDuplicateFunction) = some (.type "type"))
    (kc_DuplicateFunction : PySem.W.keepIn K (.ref xDuplicateFunction) = true)
    (nw_DuplicateFunction : PySem.W.findIn K (.ref xDuplicateFunction) "what" = some none)
    (ii_DuplicateFunction : PySem.W.findIn K (.ref xDuplicateFunction) "__init__" = some (some (.ref f1)))
    (ga_DuplicateFunction : PySem.W.findIn K (.ref xDuplicateFunction) "__getattribute__" = some (some (.builtin "BaseException.__getattribute__")))
    (gg_DuplicateFunction : PySem.W.findIn K (.ref xDuplicateFunction) "__getattr__" = some none)
    (hd_DuplicateFunction : PySem.W.hasDictIn K xDuplicateFunction = true)
    (pg_Signature : PySem.W.plainGet K xSignature Str.empty = true)
    (hd_Signature : PySem.W.hasDictIn K xSignature = true)
    (po_Signature : PySem.W.plainOver K xSignature = true)
    (sa_Signature : PySem.W.findIn K (.ref xSignature) "__setattr__" = some (some (.builtin "object.__setattr__")))
    (mk_Signature : PySem.W.makesIn K xSignature = true)
    (kc_Signature : PySem.W.keepIn K (.ref xSignature) = true)
    (ha_Signature : PySem.W.findIn K (.ref xSignature) "__class__" = some (some (.builtin "object.__class__")))
    (hm_Signature : PySem.W.mroIn K xSignature (.type "object") = some true)
    (na_Signature_name : PySem.W.findIn K (.ref xSignature) "name" = some none)
    (na_Signature_count : PySem.W.findIn K (.ref xSignature) "count" = some none)
    (na_Signature_sources : PySem.W.findIn K (.ref xSignature) "sources" = some none)
    (pg_Book : PySem.W.plainGet K xBook Str.empty = true)
    (hd_Book : PySem.W.hasDictIn K xBook = true)
    (po_Book : PySem.W.plainOver K xBook = true)
    (sa_Book : PySem.W.findIn K (.ref xBook) "__setattr__" = some (some (.builtin "object.__setattr__")))
    (mk_Book : PySem.W.makesIn K xBook = true)
    (kc_Book : PySem.W.keepIn K (.ref xBook) = true)
    (ha_Book : PySem.W.findIn K (.ref xBook) "__class__" = some (some (.builtin "object.__class__")))
    (hm_Book : PySem.W.mroIn K xBook (.type "object") = some true)
    (na_Book__given : PySem.W.findIn K (.ref xBook) "_given" = some none)
    (na_Book__every : PySem.W.findIn K (.ref xBook) "_every" = some none)
    (na_Book__by_name : PySem.W.findIn K (.ref xBook) "_by_name" = some none)
    (pg_Expression : PySem.W.plainGet K xExpression Str.empty = true)
    (hd_Expression : PySem.W.hasDictIn K xExpression = true)
    (po_Expression : PySem.W.plainOver K xExpression = true)
    (sa_Expression : PySem.W.findIn K (.ref xExpression) "__setattr__" = some (some (.builtin "object.__setattr__")))
    (mk_Expression : PySem.W.makesIn K xExpression = true)
    (kc_Expression : PySem.W.keepIn K (.ref xExpression) = true)
    (ha_Expression : PySem.W.findIn K (.ref xExpression) "__class__" = some (some (.builtin "object.__class__")))
    (hm_Expression : PySem.W.mroIn K xExpression (.type "object") = some true)
    (rd_Expression : PySem.W.readsIn K xExpression (.type "type") = true)
    (rg_Expression : PySem.W.specialIn K (.ref xExpression) "__getattribute__" = some (some (.builtin "type.__getattribute__")))
    (cx_Expression_MOST_NODES : PySem.W.findCls K (.ref xExpression) (.type "type") "MOST_NODES" = some (.val (.int 20 cuExpressionMOST_NODES)))
    (na_Expression__nodes : PySem.W.findIn K (.ref xExpression) "_nodes" = some none)
    (na_Expression__firsts : PySem.W.findIn K (.ref xExpression) "_firsts" = some none)
    (pg_Row : PySem.W.plainGet K xRow Str.empty = true)
    (hd_Row : PySem.W.hasDictIn K xRow = true)
    (po_Row : PySem.W.plainOver K xRow = true)
    (sa_Row : PySem.W.findIn K (.ref xRow) "__setattr__" = some (some (.builtin "object.__setattr__")))
    (mk_Row : PySem.W.makesIn K xRow = true)
    (kc_Row : PySem.W.keepIn K (.ref xRow) = true)
    (ha_Row : PySem.W.findIn K (.ref xRow) "__class__" = some (some (.builtin "object.__class__")))
    (hm_Row : PySem.W.mroIn K xRow (.type "object") = some true)
    (na_Row_kind : PySem.W.findIn K (.ref xRow) "kind" = some none)
    (na_Row_name : PySem.W.findIn K (.ref xRow) "name" = some none)
    (na_Row_expression : PySem.W.findIn K (.ref xRow) "expression" = some none)
    (pg_Blocks : PySem.W.plainGet K xBlocks Str.empty = true)
    (hd_Blocks : PySem.W.hasDictIn K xBlocks = true)
    (po_Blocks : PySem.W.plainOver K xBlocks = true)
    (sa_Blocks : PySem.W.findIn K (.ref xBlocks) "__setattr__" = some (some (.builtin "object.__setattr__")))
    (mk_Blocks : PySem.W.makesIn K xBlocks = true)
    (kc_Blocks : PySem.W.keepIn K (.ref xBlocks) = true)
    (ha_Blocks : PySem.W.findIn K (.ref xBlocks) "__class__" = some (some (.builtin "object.__class__")))
    (hm_Blocks : PySem.W.mroIn K xBlocks (.type "object") = some true)
    (na_Blocks__most_depth : PySem.W.findIn K (.ref xBlocks) "_most_depth" = some none)
    (na_Blocks__opened : PySem.W.findIn K (.ref xBlocks) "_opened" = some none)
    (na_Blocks__kinds : PySem.W.findIn K (.ref xBlocks) "_kinds" = some none)
    (na_Blocks__around : PySem.W.findIn K (.ref xBlocks) "_around" = some none)
    (na_Blocks__enders : PySem.W.findIn K (.ref xBlocks) "_enders" = some none)
    (pg_Program : PySem.W.plainGet K xProgram Str.empty = true)
    (hd_Program : PySem.W.hasDictIn K xProgram = true)
    (po_Program : PySem.W.plainOver K xProgram = true)
    (sa_Program : PySem.W.findIn K (.ref xProgram) "__setattr__" = some (some (.builtin "object.__setattr__")))
    (mk_Program : PySem.W.makesIn K xProgram = true)
    (kc_Program : PySem.W.keepIn K (.ref xProgram) = true)
    (ha_Program : PySem.W.findIn K (.ref xProgram) "__class__" = some (some (.builtin "object.__class__")))
    (hm_Program : PySem.W.mroIn K xProgram (.type "object") = some true)
    (rd_Program : PySem.W.readsIn K xProgram (.type "type") = true)
    (rg_Program : PySem.W.specialIn K (.ref xProgram) "__getattribute__" = some (some (.builtin "type.__getattribute__")))
    (cx_Program_MOST_ROWS : PySem.W.findCls K (.ref xProgram) (.type "type") "MOST_ROWS" = some (.val (.int 48 cuProgramMOST_ROWS)))
    (cx_Program_MOST_NAMES : PySem.W.findCls K (.ref xProgram) (.type "type") "MOST_NAMES" = some (.val (.int 16 cuProgramMOST_NAMES)))
    (cx_Program_MOST_NODES : PySem.W.findCls K (.ref xProgram) (.type "type") "MOST_NODES" = some (.val (.int 100 cuProgramMOST_NODES)))
    (cx_Program_MOST_DEPTH : PySem.W.findCls K (.ref xProgram) (.type "type") "MOST_DEPTH" = some (.val (.int 8 cuProgramMOST_DEPTH)))
    (cn_Program_MOST_ROWS : PySem.W.findIn K (.ref xProgram) "MOST_ROWS" = some (some (.int 48 cwProgramMOST_ROWS)))
    (cg_Program_MOST_ROWS : PySem.W.specialIn K (.int 48 cwProgramMOST_ROWS) "__get__" = some none)
    (cn_Program_MOST_NAMES : PySem.W.findIn K (.ref xProgram) "MOST_NAMES" = some (some (.int 16 cwProgramMOST_NAMES)))
    (cg_Program_MOST_NAMES : PySem.W.specialIn K (.int 16 cwProgramMOST_NAMES) "__get__" = some none)
    (cn_Program_MOST_NODES : PySem.W.findIn K (.ref xProgram) "MOST_NODES" = some (some (.int 100 cwProgramMOST_NODES)))
    (cg_Program_MOST_NODES : PySem.W.specialIn K (.int 100 cwProgramMOST_NODES) "__get__" = some none)
    (cn_Program_MOST_DEPTH : PySem.W.findIn K (.ref xProgram) "MOST_DEPTH" = some (some (.int 8 cwProgramMOST_DEPTH)))
    (cg_Program_MOST_DEPTH : PySem.W.specialIn K (.int 8 cwProgramMOST_DEPTH) "__get__" = some none)
    (na_Program_book : PySem.W.findIn K (.ref xProgram) "book" = some none)
    (na_Program_outs : PySem.W.findIn K (.ref xProgram) "outs" = some none)
    (na_Program_blocks : PySem.W.findIn K (.ref xProgram) "blocks" = some none)
    (na_Program__rows : PySem.W.findIn K (.ref xProgram) "_rows" = some none)
    (na_Program__kinds : PySem.W.findIn K (.ref xProgram) "_kinds" = some none)
    (na_Program__homes : PySem.W.findIn K (.ref xProgram) "_homes" = some none)
    (na_Program__text : PySem.W.findIn K (.ref xProgram) "_text" = some none)
    (xL_Unbalanced : K.lookup xUnbalanced = some (excClassObj nmUnbalanced qUnbalanced xUnbalanced NUnbalanced bsUnbalanced bmUnbalanced true snUnbalanced subUnbalanced abUnbalanced colUnbalanced ddUnbalanced m0Unbalanced m1Unbalanced m2Unbalanced m3Unbalanced m5Unbalanced "ValueError.__new__"))
    (xR_Unbalanced : PySem.HandSPX.refsVE bmUnbalanced = true)
    (sa_Unbalanced : PySem.W.findIn K (.ref xUnbalanced) "__setattr__" = some (some (.builtin "object.__setattr__")))
    (eC_Unbalanced : PySem.W.subIn K (.ref xUnbalanced) (.type "BaseException") = some true)
    (tC_Unbalanced : PySem.W.typeIn K (.ref xUnbalanced) = some (.type "type"))
    (kc_Unbalanced : PySem.W.keepIn K (.ref xUnbalanced) = true)
    (nw_Unbalanced : PySem.W.findIn K (.ref xUnbalanced) "what" = some none)
    (ii_Unbalanced : PySem.W.findIn K (.ref xUnbalanced) "__init__" = some (some (.ref f1)))
    (ga_Unbalanced : PySem.W.findIn K (.ref xUnbalanced) "__getattribute__" = some (some (.builtin "BaseException.__getattribute__")))
    (gg_Unbalanced : PySem.W.findIn K (.ref xUnbalanced) "__getattr__" = some none)
    (hd_Unbalanced : PySem.W.hasDictIn K xUnbalanced = true)
    (ha_Unbalanced : PySem.W.findIn K (.ref xUnbalanced) "__class__" = some (some (.builtin "object.__class__")))
    (hm_Unbalanced : PySem.W.mroIn K xUnbalanced (.type "object") = some true)
    (xL_DuplicateName : K.lookup xDuplicateName = some (excClassObj nmDuplicateName qDuplicateName xDuplicateName NDuplicateName bsDuplicateName bmDuplicateName true snDuplicateName subDuplicateName abDuplicateName colDuplicateName ddDuplicateName m0DuplicateName m1DuplicateName m2DuplicateName m3DuplicateName m5DuplicateName "ValueError.__new__"))
    (xR_DuplicateName : PySem.HandSPX.refsVE bmDuplicateName = true)
    (sa_DuplicateName : PySem.W.findIn K (.ref xDuplicateName) "__setattr__" = some (some (.builtin "object.__setattr__")))
    (eC_DuplicateName : PySem.W.subIn K (.ref xDuplicateName) (.type "BaseException") = some true)
    (tC_DuplicateName : PySem.W.typeIn K (.ref xDuplicateName) = some (.type "type"))
    (kc_DuplicateName : PySem.W.keepIn K (.ref xDuplicateName) = true)
    (nw_DuplicateName : PySem.W.findIn K (.ref xDuplicateName) "what" = some none)
    (ii_DuplicateName : PySem.W.findIn K (.ref xDuplicateName) "__init__" = some (some (.ref f1)))
    (ga_DuplicateName : PySem.W.findIn K (.ref xDuplicateName) "__getattribute__" = some (some (.builtin "BaseException.__getattribute__")))
    (gg_DuplicateName : PySem.W.findIn K (.ref xDuplicateName) "__getattr__" = some none)
    (hd_DuplicateName : PySem.W.hasDictIn K xDuplicateName = true)
    (ha_DuplicateName : PySem.W.findIn K (.ref xDuplicateName) "__class__" = some (some (.builtin "object.__class__")))
    (hm_DuplicateName : PySem.W.mroIn K xDuplicateName (.type "object") = some true)
    (xL_UnknownName : K.lookup xUnknownName = some (excClassObj nmUnknownName qUnknownName xUnknownName NUnknownName bsUnknownName bmUnknownName true snUnknownName subUnknownName abUnknownName colUnknownName ddUnknownName m0UnknownName m1UnknownName m2UnknownName m3UnknownName m5UnknownName "ValueError.__new__"))
    (xR_UnknownName : PySem.HandSPX.refsVE bmUnknownName = true)
    (sa_UnknownName : PySem.W.findIn K (.ref xUnknownName) "__setattr__" = some (some (.builtin "object.__setattr__")))
    (eC_UnknownName : PySem.W.subIn K (.ref xUnknownName) (.type "BaseException") = some true)
    (tC_UnknownName : PySem.W.typeIn K (.ref xUnknownName) = some (.type "type"))
    (kc_UnknownName : PySem.W.keepIn K (.ref xUnknownName) = true)
    (nw_UnknownName : PySem.W.findIn K (.ref xUnknownName) "what" = some none)
    (ii_UnknownName : PySem.W.findIn K (.ref xUnknownName) "__init__" = some (some (.ref f1)))
    (ga_UnknownName : PySem.W.findIn K (.ref xUnknownName) "__getattribute__" = some (some (.builtin "BaseException.__getattribute__")))
    (gg_UnknownName : PySem.W.findIn K (.ref xUnknownName) "__getattr__" = some none)
    (hd_UnknownName : PySem.W.hasDictIn K xUnknownName = true)
    (ha_UnknownName : PySem.W.findIn K (.ref xUnknownName) "__class__" = some (some (.builtin "object.__class__")))
    (hm_UnknownName : PySem.W.mroIn K xUnknownName (.type "object") = some true)
    (xL_NotReference : K.lookup xNotReference = some (excClassObj nmNotReference qNotReference xNotReference NNotReference bsNotReference bmNotReference true snNotReference subNotReference abNotReference colNotReference ddNotReference m0NotReference m1NotReference m2NotReference m3NotReference m5NotReference "ValueError.__new__"))
    (xR_NotReference : PySem.HandSPX.refsVE bmNotReference = true)
    (sa_NotReference : PySem.W.findIn K (.ref xNotReference) "__setattr__" = some (some (.builtin "object.__setattr__")))
    (eC_NotReference : PySem.W.subIn K (.ref xNotReference) (.type "BaseException") = some true)
    (tC_NotReference : PySem.W.typeIn K (.ref xNotReference) = some (.type "type"))
    (kc_NotReference : PySem.W.keepIn K (.ref xNotReference) = true)
    (nw_NotReference : PySem.W.findIn K (.ref xNotReference) "what" = some none)
    (ii_NotReference : PySem.W.findIn K (.ref xNotReference) "__init__" = some (some (.ref f1)))
    (ga_NotReference : PySem.W.findIn K (.ref xNotReference) "__getattribute__" = some (some (.builtin "BaseException.__getattribute__")))
    (gg_NotReference : PySem.W.findIn K (.ref xNotReference) "__getattr__" = some none)
    (hd_NotReference : PySem.W.hasDictIn K xNotReference = true)
    (ha_NotReference : PySem.W.findIn K (.ref xNotReference) "__class__" = some (some (.builtin "object.__class__")))
    (hm_NotReference : PySem.W.mroIn K xNotReference (.type "object") = some true)
    (xL_WrongCount : K.lookup xWrongCount = some (excClassObj nmWrongCount qWrongCount xWrongCount NWrongCount bsWrongCount bmWrongCount true snWrongCount subWrongCount abWrongCount colWrongCount ddWrongCount m0WrongCount m1WrongCount m2WrongCount m3WrongCount m5WrongCount "ValueError.__new__"))
    (xR_WrongCount : PySem.HandSPX.refsVE bmWrongCount = true)
    (sa_WrongCount : PySem.W.findIn K (.ref xWrongCount) "__setattr__" = some (some (.builtin "object.__setattr__")))
    (eC_WrongCount : PySem.W.subIn K (.ref xWrongCount) (.type "BaseException") = some true)
    (tC_WrongCount : PySem.W.typeIn K (.ref xWrongCount) = some (.type "type"))
    (kc_WrongCount : PySem.W.keepIn K (.ref xWrongCount) = true)
    (nw_WrongCount : PySem.W.findIn K (.ref xWrongCount) "what" = some none)
    (ii_WrongCount : PySem.W.findIn K (.ref xWrongCount) "__init__" = some (some (.ref f1)))
    (ga_WrongCount : PySem.W.findIn K (.ref xWrongCount) "__getattribute__" = some (some (.builtin "BaseException.__getattribute__")))
    (gg_WrongCount : PySem.W.findIn K (.ref xWrongCount) "__getattr__" = some none)
    (hd_WrongCount : PySem.W.hasDictIn K xWrongCount = true)
    (ha_WrongCount : PySem.W.findIn K (.ref xWrongCount) "__class__" = some (some (.builtin "object.__class__")))
    (hm_WrongCount : PySem.W.mroIn K xWrongCount (.type "object") = some true)
    (hnO : PySem.W.specialIn K (.builtin "object.__class__") "__get__" = some (some (.builtin "getset_descriptor.__get__")))
    (htO : PySem.W.takesIn K (.builtin "object.__class__") = some true)
    (fa_fi_book_get : PySem.W.fnIn K f12 = true)
    (fa_si_tt : PySem.W.subIn K (.ref xTooLarge) (.ref xTooLarge) = some true)
    (fa_si_dt : PySem.W.subIn K (.ref xDuplicateName) (.ref xTooLarge) = some false)
    (fa_si_dd : PySem.W.subIn K (.ref xDuplicateName) (.ref xDuplicateName) = some true)
    (fa_si_nt : PySem.W.subIn K (.ref xUnknownName) (.ref xTooLarge) = some false)
    (fa_si_nd : PySem.W.subIn K (.ref xUnknownName) (.ref xDuplicateName) = some false)
    (fa_si_nn : PySem.W.subIn K (.ref xUnknownName) (.ref xUnknownName) = some true)
    (fa_si_ut : PySem.W.subIn K (.ref xUnbalanced) (.ref xTooLarge) = some false)
    (fa_si_ud : PySem.W.subIn K (.ref xUnbalanced) (.ref xDuplicateName) = some false)
    (fa_si_un : PySem.W.subIn K (.ref xUnbalanced) (.ref xUnknownName) = some false)
    (fa_si_uu : PySem.W.subIn K (.ref xUnbalanced) (.ref xUnbalanced) = some true)
    (eBARE : PySem.W.nsIn K mainGlobals "BARE" = some (some (.ref xBARE)))
    (oBARE : K.lookup xBARE = some ⟨.type "tuple", odBARE, .seq vBARE.toArray nnBARE, slBARE⟩)
    (wBARE : Vals k_BARE vBARE)
    (eBINDING : PySem.W.nsIn K mainGlobals "BINDING" = some (some (.ref xBINDING)))
    (oBINDING : K.lookup xBINDING = some ⟨.type "tuple", odBINDING, .seq vBINDING.toArray nnBINDING, slBINDING⟩)
    (wBINDING : Vals k_BINDING vBINDING)
    (eDIGITS : PySem.W.nsIn K mainGlobals "DIGITS" = some (some (.str "0123456789" tDIGITS)))
    (eLETTERS : PySem.W.nsIn K mainGlobals "LETTERS" = some (some (.str "abcdefghijklmnopqrstuvwxyz" tLETTERS)))
    (eMOST_ARGUMENTS : PySem.W.nsIn K mainGlobals "MOST_ARGUMENTS" = some (some (.int 4 tMOST_ARGUMENTS)))
    (eMOST_CHARACTERS : PySem.W.nsIn K mainGlobals "MOST_CHARACTERS" = some (some (.int 8 tMOST_CHARACTERS)))
    (eMOST_GIVEN : PySem.W.nsIn K mainGlobals "MOST_GIVEN" = some (some (.int 12 tMOST_GIVEN)))
    (eMOST_PARAMETERS : PySem.W.nsIn K mainGlobals "MOST_PARAMETERS" = some (some (.int 4 tMOST_PARAMETERS)))
    (eNUMERALS : PySem.W.nsIn K mainGlobals "NUMERALS" = some (some (.ref xNUMERALS)))
    (oNUMERALS : K.lookup xNUMERALS = some ⟨.type "tuple", odNUMERALS, .seq vNUMERALS.toArray nnNUMERALS, slNUMERALS⟩)
    (wNUMERALS : Vals k_NUMERALS vNUMERALS)
    (eOPERATIONS : PySem.W.nsIn K mainGlobals "OPERATIONS" = some (some (.ref xOPERATIONS)))
    (oOPERATIONS : K.lookup xOPERATIONS = some ⟨.type "dict", none, .dict esOPERATIONS nnOPERATIONS, #[]⟩)
    (yOPERATIONS : PySem.W.KeysLit w.params esOPERATIONS.toList)
    (pOPERATIONS : Paired (fun (e : DictEntry) (kv : Str × Int) => ∃ t u, e.key = .str kv.1 t ∧ e.val = .int kv.2 u) esOPERATIONS.toList k_OPERATIONS)
    (sOPERATIONS : (xOPERATIONS == sysModules) = false)
    (eRESERVED : PySem.W.nsIn K mainGlobals "RESERVED" = some (some (.ref xRESERVED)))
    (oRESERVED : K.lookup xRESERVED = some ⟨.type "tuple", odRESERVED, .seq vRESERVED.toArray nnRESERVED, slRESERVED⟩)
    (wRESERVED : Vals k_RESERVED vRESERVED)
    : ∃ fd : FuncData, (∀ (s : Shared) (v : Value), BindsTo s fd ⟨[v], []⟩ [("_law_script", v)]) ∧ ∀ base : Heap, K.In base → base.Ns mainGlobals mg → FnOk l.prog w K mg base CX0 35 fa fd ["_law_script"] (spLaw K) := by
  have e := hfa.symm.trans (PySem.W.mg_of X G a60)
  cases e
  have F1 := fun_mk (st := s_lives_init) l1 c1 k1
  have b1 := F1.binds (ps := p_lives_init) fun _ _ _ _ _ _ us hl => match us, hl with | [_, _], _ => rfl
  have F2 := fun_mk (st := s_is_whole) l2 c2 k2
  have b2 := F2.binds (ps := p_is_whole) fun _ _ _ _ _ _ us hl => match us, hl with | [_], _ => rfl
  have F3 := fun_mk (st := s_is_int) l3 c3 k3
  have b3 := F3.binds (ps := p_is_int) fun _ _ _ _ _ _ us hl => match us, hl with | [_, _, _], _ => rfl
  have F4 := fun_mk (st := s_is_name) l4 c4 k4
  have b4 := F4.binds (ps := p_is_name) fun _ _ _ _ _ _ us hl => match us, hl with | [_], _ => rfl
  have F5 := fun_mk (st := s_are_sources) l5 c5 k5
  have b5 := F5.binds (ps := p_are_sources) fun _ _ _ _ _ _ us hl => match us, hl with | [_, _], _ => rfl
  have F6 := fun_mk (st := s_is_signature) l6 c6 k6
  have b6 := F6.binds (ps := p_is_signature) fun _ _ _ _ _ _ us hl => match us, hl with | [_, _, _], _ => rfl
  have F8 := fun_mk (st := s_sig_text) l8 c8 k8
  have b8 := F8.binds (ps := p_sig_text) fun _ _ _ _ _ _ us hl => match us, hl with | [_], _ => rfl
  have F9 := fun_mk (st := s_sig_read) l9 c9 k9
  have b9 := F9.binds (ps := p_sig_read) fun _ _ _ _ _ _ us hl => match us, hl with | [_], _ => rfl
  have F10 := fun_mk (st := s_book_init) l10 c10 k10
  have F11 := fun_mk (st := s_book_has) l11 c11 k11
  have b11 := F11.binds (ps := p_book_has) fun _ _ _ _ _ _ us hl => match us, hl with | [_, _], _ => rfl
  have F12 := fun_mk (st := s_book_get) l12 c12 k12
  have b12 := F12.binds (ps := p_book_get) fun _ _ _ _ _ _ us hl => match us, hl with | [_, _], _ => rfl
  have F13 := fun_mk (st := s_book_iter) l13 c13 k13
  have b13 := F13.binds (ps := p_book_iter) fun _ _ _ _ _ _ us hl => match us, hl with | [_], _ => rfl
  have F14 := fun_mk (st := s_cut) l14 c14 k14
  have b14 := F14.binds (ps := p_cut) fun _ _ _ _ _ _ us hl => match us, hl with | [_], _ => rfl
  have F15 := fun_mk (st := s_operation) l15 c15 k15
  have b15 := F15.binds (ps := p_operation) fun _ _ _ _ _ _ us hl => match us, hl with | [_, _], _ => rfl
  have F16 := fun_mk (st := s_closed) l16 c16 k16
  have b16 := F16.binds (ps := p_closed) fun _ _ _ _ _ _ us hl => match us, hl with | [_, _], _ => rfl
  have F17 := fun_mk (st := s_add_node) l17 c17 k17
  have b17 := F17.binds (ps := p_add_node) fun _ _ _ _ _ _ us hl => match us, hl with | [_, _, _], _ => rfl
  have F18 := fun_mk (st := s_nodes_of) l18 c18 k18
  have b18 := F18.binds (ps := p_nodes_of) fun _ _ _ _ _ _ us hl => match us, hl with | [_], _ => rfl
  have F19 := fun_mk (st := s_operands_of) l19 c19 k19
  have b19 := F19.binds (ps := p_operands_of) fun _ _ _ _ _ _ us hl => match us, hl with | [_], _ => rfl
  have F20 := fun_mk (st := s_firsts_of) l20 c20 k20
  have b20 := F20.binds (ps := p_firsts_of) fun _ _ _ _ _ _ us hl => match us, hl with | [_], _ => rfl
  have F21 := fun_mk (st := s_node_text) l21 c21 k21
  have b21 := F21.binds (ps := p_node_text) fun _ _ _ _ _ _ us hl => match us, hl with | [_, _], _ => rfl
  have F22 := fun_mk (st := s_ex_init) l22 c22 k22
  have b22 := F22.binds (ps := p_ex_init) fun _ _ _ _ _ _ us hl => match us, hl with | [_, _], _ => rfl
  have F23 := fun_mk (st := s_ex_read) l23 c23 k23
  have b23 := F23.binds (ps := p_ex_read) fun _ _ _ _ _ _ us hl => match us, hl with | [_, _], _ => rfl
  have F24 := fun_mk (st := s_ex_nodes) l24 c24 k24
  have b24 := F24.binds (ps := p_ex_nodes) fun _ _ _ _ _ _ us hl => match us, hl with | [_], _ => rfl
  have F25 := fun_mk (st := s_ex_len) l25 c25 k25
  have b25 := F25.binds (ps := p_ex_len) fun _ _ _ _ _ _ us hl => match us, hl with | [_], _ => rfl
  have F26 := fun_mk (st := s_ex_first) l26 c26 k26
  have b26 := F26.binds (ps := p_ex_first) fun _ _ _ _ _ _ us hl => match us, hl with | [_, _], _ => rfl
  have F28 := fun_mk (st := s_ex_text) l28 c28 k28
  have b28 := F28.binds (ps := p_ex_text) fun _ _ _ _ _ _ us hl => match us, hl with | [_], _ => rfl
  have F29 := fun_mk (st := s_is_row) l29 c29 k29
  have b29 := F29.binds (ps := p_is_row) fun _ _ _ _ _ _ us hl => match us, hl with | [_, _, _], _ => rfl
  have F30 := fun_mk (st := s_parts_of) l30 c30 k30
  have b30 := F30.binds (ps := p_parts_of) fun _ _ _ _ _ _ us hl => match us, hl with | [_], _ => rfl
  have F32 := fun_mk (st := s_row_text) l32 c32 k32
  have b32 := F32.binds (ps := p_row_text) fun _ _ _ _ _ _ us hl => match us, hl with | [_], _ => rfl
  have F33 := fun_mk (st := s_row_read) l33 c33 k33
  have b33 := F33.binds (ps := p_row_read) fun _ _ _ _ _ _ us hl => match us, hl with | [_], _ => rfl
  have F34 := fun_mk (st := s_text_of) l34 c34 k34
  have b34 := F34.binds (ps := p_text_of) fun _ _ _ _ _ _ us hl => match us, hl with | [_, _, _], _ => rfl
  have F35 := fun_mk (st := s_read_signature) l35 c35 k35
  have b35 := F35.binds (ps := p_read_signature) fun _ _ _ _ _ _ us hl => match us, hl with | [_, _], _ => rfl
  have F36 := fun_mk (st := s_read_outs) l36 c36 k36
  have b36 := F36.binds (ps := p_read_outs) fun _ _ _ _ _ _ us hl => match us, hl with | [_, _], _ => rfl
  have F37 := fun_mk (st := s_read_row) l37 c37 k37
  have b37 := F37.binds (ps := p_read_row) fun _ _ _ _ _ _ us hl => match us, hl with | [_, _], _ => rfl
  have F38 := fun_mk (st := s_read_lines) l38 c38 k38
  have b38 := F38.binds (ps := p_read_lines) fun _ _ _ _ _ _ us hl => match us, hl with | [_], _ => rfl
  have F39 := fun_mk (st := s_bl_init) l39 c39 k39
  have b39 := F39.binds (ps := p_bl_init) fun _ _ _ _ _ _ us hl => match us, hl with | [_, _], _ => rfl
  have F40 := fun_mk (st := s_bl_take) l40 c40 k40
  have b40 := F40.binds (ps := p_bl_take) fun _ _ _ _ _ _ us hl => match us, hl with | [_, _], _ => rfl
  have F41 := fun_mk (st := s_bl_fin) l41 c41 k41
  have b41 := F41.binds (ps := p_bl_fin) fun _ _ _ _ _ _ us hl => match us, hl with | [_], _ => rfl
  have F42 := fun_mk (st := s_bl_around) l42 c42 k42
  have b42 := F42.binds (ps := p_bl_around) fun _ _ _ _ _ _ us hl => match us, hl with | [_, _], _ => rfl
  have F43 := fun_mk (st := s_bl_inner) l43 c43 k43
  have b43 := F43.binds (ps := p_bl_inner) fun _ _ _ _ _ _ us hl => match us, hl with | [_, _], _ => rfl
  have F44 := fun_mk (st := s_pr_init) l44 c44 k44
  have b44 := F44.binds (ps := p_pr_init) fun _ _ _ _ _ _ us hl => match us, hl with | [_, _, _, _], _ => rfl
  have F45 := fun_mk (st := s_pr_outs) l45 c45 k45
  have b45 := F45.binds (ps := p_pr_outs) fun _ _ _ _ _ _ us hl => match us, hl with | [_], _ => rfl
  have F46 := fun_mk (st := s_pr_check) l46 c46 k46
  have b46 := F46.binds (ps := p_pr_check) fun _ _ _ _ _ _ us hl => match us, hl with | [_, _, _], _ => rfl
  have F47 := fun_mk (st := s_pr_scope) l47 c47 k47
  have b47 := F47.binds (ps := p_pr_scope) fun _ _ _ _ _ _ us hl => match us, hl with | [_, _, _], _ => rfl
  have F48 := fun_mk (st := s_pr_rows) l48 c48 k48
  have b48 := F48.binds (ps := p_pr_rows) fun _ _ _ _ _ _ us hl => match us, hl with | [_], _ => rfl
  have F49 := fun_mk (st := s_pr_nodes) l49 c49 k49
  have b49 := F49.binds (ps := p_pr_nodes) fun _ _ _ _ _ _ us hl => match us, hl with | [_, _, _], _ => rfl
  have F50 := fun_mk (st := s_pr_name) l50 c50 k50
  have b50 := F50.binds (ps := p_pr_name) fun _ _ _ _ _ _ us hl => match us, hl with | [_, _, _], _ => rfl
  have F51 := fun_mk (st := s_pr_len) l51 c51 k51
  have b51 := F51.binds (ps := p_pr_len) fun _ _ _ _ _ _ us hl => match us, hl with | [_], _ => rfl
  have F52 := fun_mk (st := s_pr_text) l52 c52 k52
  have b52 := F52.binds (ps := p_pr_text) fun _ _ _ _ _ _ us hl => match us, hl with | [_], _ => rfl
  have F53 := fun_mk (st := s_pr_read) l53 c53 k53
  have b53 := F53.binds (ps := p_pr_read) fun _ _ _ _ _ _ us hl => match us, hl with | [_, _], _ => rfl
  have F54 := fun_mk (st := s_draws) l54 c54 k54
  have b54 := F54.binds (ps := p_draws) fun _ _ _ _ _ _ us hl => match us, hl with | [_], _ => rfl
  have F55 := fun_mk (st := s_take) l55 c55 k55
  have b55 := F55.binds (ps := p_take) fun _ _ _ _ _ _ us hl => match us, hl with | [_, _], _ => rfl
  have F56 := fun_mk (st := s_sizes) l56 c56 k56
  have b56 := F56.binds (ps := p_sizes) fun _ _ _ _ _ _ us hl => match us, hl with | [_, _, _], _ => rfl
  have F57 := fun_mk (st := s_srows) l57 c57 k57
  have b57 := F57.binds (ps := p_srows) fun _ _ _ _ _ _ us hl => match us, hl with | [_, _, _, _], _ => rfl
  have F58 := fun_mk (st := s_due) l58 c58 k58
  have b58 := F58.binds (ps := p_due) fun _ _ _ _ _ _ us hl => match us, hl with | [_, _], _ => rfl
  have F59 := fun_mk (st := s_told) l59 c59 k59
  have b59 := F59.binds (ps := p_told) fun _ _ _ _ _ _ us hl => match us, hl with | [_, _, _, _], _ => rfl
  have F60 := fun_mk (st := s_law) l60 c60 k60
  have b60 := F60.binds (ps := p_law) fun _ _ _ _ _ _ us hl => match us, hl with | [_], _ => rfl
  let A : Adr := ⟨f0, (PySem.W.fnOf "copied" "copied" (defArgs s_copied) (defBody s_copied) (defScope s_copied) (.ref dT0) kV0 dc0 pm0 an0 cd0 ct0), f1, (PySem.W.fnOf "__init__" "LivesError.__init__" (defArgs s_lives_init) (defBody s_lives_init) (defScope s_lives_init) .none kV1 dc1 pm1 an1 cd1 ct1), f2, (PySem.W.fnOf "is_whole" "is_whole" (defArgs s_is_whole) (defBody s_is_whole) (defScope s_is_whole) .none kV2 dc2 pm2 an2 cd2 ct2), f3, (PySem.W.fnOf "is_integer_in" "is_integer_in" (defArgs s_is_int) (defBody s_is_int) (defScope s_is_int) .none kV3 dc3 pm3 an3 cd3 ct3), f4, (PySem.W.fnOf "is_name" "is_name" (defArgs s_is_name) (defBody s_is_name) (defScope s_is_name) .none kV4 dc4 pm4 an4 cd4 ct4), f5, (PySem.W.fnOf "are_sources" "are_sources" (defArgs s_are_sources) (defBody s_are_sources) (defScope s_are_sources) .none kV5 dc5 pm5 an5 cd5 ct5), f6, (PySem.W.fnOf "is_signature" "is_signature" (defArgs s_is_signature) (defBody s_is_signature) (defScope s_is_signature) .none kV6 dc6 pm6 an6 cd6 ct6), f7, (PySem.W.fnOf "__init__" "Signature.__init__" (defArgs s_sig_init) (defBody s_sig_init) (defScope s_sig_init) .none (.ref kD7) dc7 pm7 an7 cd7 ct7), f8, (PySem.W.fnOf "text" "Signature.text" (defArgs s_sig_text) (defBody s_sig_text) (defScope s_sig_text) .none kV8 dc8 pm8 an8 cd8 ct8), f9, (PySem.W.fnOf "read" "Signature.read" (defArgs s_sig_read) (defBody s_sig_read) (defScope s_sig_read) .none kV9 dc9 pm9 an9 cd9 ct9), f10, (PySem.W.fnOf "__init__" "Book.__init__" (defArgs s_book_init) (defBody s_book_init) (defScope s_book_init) .none kV10 dc10 pm10 an10 cd10 ct10), f11, (PySem.W.fnOf "__contains__" "Book.__contains__" (defArgs s_book_has) (defBody s_book_has) (defScope s_book_has) .none kV11 dc11 pm11 an11 cd11 ct11), f12, (PySem.W.fnOf "__getitem__" "Book.__getitem__" (defArgs s_book_get) (defBody s_book_get) (defScope s_book_get) .none kV12 dc12 pm12 an12 cd12 ct12), f13, (PySem.W.fnOf "__iter__" "Book.__iter__" (defArgs s_book_iter) (defBody s_book_iter) (defScope s_book_iter) .none kV13 dc13 pm13 an13 cd13 ct13), f14, (PySem.W.fnOf "cut" "cut" (defArgs s_cut) (defBody s_cut) (defScope s_cut) .none kV14 dc14 pm14 an14 cd14 ct14), f15, (PySem.W.fnOf "operation" "operation" (defArgs s_operation) (defBody s_operation) (defScope s_operation) .none kV15 dc15 pm15 an15 cd15 ct15), f16, (PySem.W.fnOf "closed" "closed" (defArgs s_closed) (defBody s_closed) (defScope s_closed) .none kV16 dc16 pm16 an16 cd16 ct16), f17, (PySem.W.fnOf "add_node" "add_node" (defArgs s_add_node) (defBody s_add_node) (defScope s_add_node) .none kV17 dc17 pm17 an17 cd17 ct17), f18, (PySem.W.fnOf "nodes_of" "nodes_of" (defArgs s_nodes_of) (defBody s_nodes_of) (defScope s_nodes_of) .none kV18 dc18 pm18 an18 cd18 ct18), f19, (PySem.W.fnOf "operands_of" "operands_of" (defArgs s_operands_of) (defBody s_operands_of) (defScope s_operands_of) .none kV19 dc19 pm19 an19 cd19 ct19), f20, (PySem.W.fnOf "firsts_of" "firsts_of" (defArgs s_firsts_of) (defBody s_firsts_of) (defScope s_firsts_of) .none kV20 dc20 pm20 an20 cd20 ct20), f21, (PySem.W.fnOf "node_text" "node_text" (defArgs s_node_text) (defBody s_node_text) (defScope s_node_text) .none kV21 dc21 pm21 an21 cd21 ct21), f22, (PySem.W.fnOf "__init__" "Expression.__init__" (defArgs s_ex_init) (defBody s_ex_init) (defScope s_ex_init) .none kV22 dc22 pm22 an22 cd22 ct22), f23, (PySem.W.fnOf "read" "Expression.read" (defArgs s_ex_read) (defBody s_ex_read) (defScope s_ex_read) .none kV23 dc23 pm23 an23 cd23 ct23), f24, (PySem.W.fnOf "nodes" "Expression.nodes" (defArgs s_ex_nodes) (defBody s_ex_nodes) (defScope s_ex_nodes) .none kV24 dc24 pm24 an24 cd24 ct24), f25, (PySem.W.fnOf "__len__" "Expression.__len__" (defArgs s_ex_len) (defBody s_ex_len) (defScope s_ex_len) .none kV25 dc25 pm25 an25 cd25 ct25), f26, (PySem.W.fnOf "first" "Expression.first" (defArgs s_ex_first) (defBody s_ex_first) (defScope s_ex_first) .none kV26 dc26 pm26 an26 cd26 ct26), f27, (PySem.W.fnOf "part_text" "Expression.part_text" (defArgs s_part_text) (defBody s_part_text) (defScope s_part_text) .none (.ref kD27) dc27 pm27 an27 cd27 ct27), f28, (PySem.W.fnOf "text" "Expression.text" (defArgs s_ex_text) (defBody s_ex_text) (defScope s_ex_text) .none kV28 dc28 pm28 an28 cd28 ct28), f29, (PySem.W.fnOf "is_row" "is_row" (defArgs s_is_row) (defBody s_is_row) (defScope s_is_row) .none kV29 dc29 pm29 an29 cd29 ct29), f30, (PySem.W.fnOf "parts_of" "parts_of" (defArgs s_parts_of) (defBody s_parts_of) (defScope s_parts_of) .none kV30 dc30 pm30 an30 cd30 ct30), f31, (PySem.W.fnOf "__init__" "Row.__init__" (defArgs s_row_init) (defBody s_row_init) (defScope s_row_init) .none (.ref kD31) dc31 pm31 an31 cd31 ct31), f32, (PySem.W.fnOf "text" "Row.text" (defArgs s_row_text) (defBody s_row_text) (defScope s_row_text) .none kV32 dc32 pm32 an32 cd32 ct32), f33, (PySem.W.fnOf "read" "Row.read" (defArgs s_row_read) (defBody s_row_read) (defScope s_row_read) .none kV33 dc33 pm33 an33 cd33 ct33), f34, (PySem.W.fnOf "text_of" "text_of" (defArgs s_text_of) (defBody s_text_of) (defScope s_text_of) .none kV34 dc34 pm34 an34 cd34 ct34), f35, (PySem.W.fnOf "read_signature" "read_signature" (defArgs s_read_signature) (defBody s_read_signature) (defScope s_read_signature) .none kV35 dc35 pm35 an35 cd35 ct35), f36, (PySem.W.fnOf "read_outs" "read_outs" (defArgs s_read_outs) (defBody s_read_outs) (defScope s_read_outs) .none kV36 dc36 pm36 an36 cd36 ct36), f37, (PySem.W.fnOf "read_row" "read_row" (defArgs s_read_row) (defBody s_read_row) (defScope s_read_row) .none kV37 dc37 pm37 an37 cd37 ct37), f38, (PySem.W.fnOf "read_lines" "read_lines" (defArgs s_read_lines) (defBody s_read_lines) (defScope s_read_lines) .none kV38 dc38 pm38 an38 cd38 ct38), f39, (PySem.W.fnOf "__init__" "Blocks.__init__" (defArgs s_bl_init) (defBody s_bl_init) (defScope s_bl_init) .none kV39 dc39 pm39 an39 cd39 ct39), f40, (PySem.W.fnOf "take" "Blocks.take" (defArgs s_bl_take) (defBody s_bl_take) (defScope s_bl_take) .none kV40 dc40 pm40 an40 cd40 ct40), f41, (PySem.W.fnOf "finish" "Blocks.finish" (defArgs s_bl_fin) (defBody s_bl_fin) (defScope s_bl_fin) .none kV41 dc41 pm41 an41 cd41 ct41), f42, (PySem.W.fnOf "around" "Blocks.around" (defArgs s_bl_around) (defBody s_bl_around) (defScope s_bl_around) .none kV42 dc42 pm42 an42 cd42 ct42), f43, (PySem.W.fnOf "inner" "Blocks.inner" (defArgs s_bl_inner) (defBody s_bl_inner) (defScope s_bl_inner) .none kV43 dc43 pm43 an43 cd43 ct43), f44, (PySem.W.fnOf "__init__" "Program.__init__" (defArgs s_pr_init) (defBody s_pr_init) (defScope s_pr_init) .none kV44 dc44 pm44 an44 cd44 ct44), f45, (PySem.W.fnOf "_take_outs" "Program._take_outs" (defArgs s_pr_outs) (defBody s_pr_outs) (defScope s_pr_outs) .none kV45 dc45 pm45 an45 cd45 ct45), f46, (PySem.W.fnOf "_check_scope" "Program._check_scope" (defArgs s_pr_check) (defBody s_pr_check) (defScope s_pr_check) .none kV46 dc46 pm46 an46 cd46 ct46), f47, (PySem.W.fnOf "is_in_scope" "Program.is_in_scope" (defArgs s_pr_scope) (defBody s_pr_scope) (defScope s_pr_scope) .none kV47 dc47 pm47 an47 cd47 ct47), f48, (PySem.W.fnOf "_take_rows" "Program._take_rows" (defArgs s_pr_rows) (defBody s_pr_rows) (defScope s_pr_rows) .none kV48 dc48 pm48 an48 cd48 ct48), f49, (PySem.W.fnOf "_check_nodes" "Program._check_nodes" (defArgs s_pr_nodes) (defBody s_pr_nodes) (defScope s_pr_nodes) .none kV49 dc49 pm49 an49 cd49 ct49), f50, (PySem.W.fnOf "_take_name" "Program._take_name" (defArgs s_pr_name) (defBody s_pr_name) (defScope s_pr_name) .none kV50 dc50 pm50 an50 cd50 ct50), f51, (PySem.W.fnOf "__len__" "Program.__len__" (defArgs s_pr_len) (defBody s_pr_len) (defScope s_pr_len) .none kV51 dc51 pm51 an51 cd51 ct51), f52, (PySem.W.fnOf "text" "Program.text" (defArgs s_pr_text) (defBody s_pr_text) (defScope s_pr_text) .none kV52 dc52 pm52 an52 cd52 ct52), f53, (PySem.W.fnOf "read" "Program.read" (defArgs s_pr_read) (defBody s_pr_read) (defScope s_pr_read) .none kV53 dc53 pm53 an53 cd53 ct53), f54, (PySem.W.fnOf "_law_draws" "_law_draws" (defArgs s_draws) (defBody s_draws) (defScope s_draws) .none kV54 dc54 pm54 an54 cd54 ct54), f55, (PySem.W.fnOf "_law_take" "_law_take" (defArgs s_take) (defBody s_take) (defScope s_take) .none kV55 dc55 pm55 an55 cd55 ct55), f56, (PySem.W.fnOf "_law_sizes" "_law_sizes" (defArgs s_sizes) (defBody s_sizes) (defScope s_sizes) .none kV56 dc56 pm56 an56 cd56 ct56), f57, (PySem.W.fnOf "_law_sized_rows" "_law_sized_rows" (defArgs s_srows) (defBody s_srows) (defScope s_srows) .none kV57 dc57 pm57 an57 cd57 ct57), f58, (PySem.W.fnOf "_law_due" "_law_due" (defArgs s_due) (defBody s_due) (defScope s_due) .none kV58 dc58 pm58 an58 cd58 ct58), f59, (PySem.W.fnOf "_law_told" "_law_told" (defArgs s_told) (defBody s_told) (defScope s_told) .none kV59 dc59 pm59 an59 cd59 ct59), fa, (PySem.W.fnOf "law" "law" (defArgs s_law) (defBody s_law) (defScope s_law) .none kV60 dc60 pm60 an60 cd60 ct60), kT7sources, pr9, pr23, pr24, pr33, pr53, xLivesError, xInvalidSignature, xUnknownFunction, xTooLarge, xDuplicateFunction, xSignature, xBook, xExpression, xRow, xBlocks, xProgram, xUnbalanced, xDuplicateName, xUnknownName, xNotReference, xWrongCount, xBARE, xBINDING, tDIGITS, tLETTERS, tMOST_ARGUMENTS, tMOST_CHARACTERS, tMOST_GIVEN, tMOST_PARAMETERS, xNUMERALS, xOPERATIONS, xRESERVED⟩
  have T : Tx0 w K mg A := {
    F_copied := ⟨⟨_, _, _, _, _, _, _, _, _, _, rfl, l0, c0, .inr ⟨(fun z => nomatch z), _, _, _, _, rfl, dl0, rfl, (.cons ⟨_, rfl⟩ .nil)⟩, .inl rfl⟩, k0⟩,
    g_copied := PySem.W.mg_of X G a0,
    F_lives_init := F1,
    b_lives_init := b1,
    ti_lives_init := i1,
    F_is_whole := F2,
    b_is_whole := b2,
    g_is_whole := PySem.W.mg_of X G a2,
    F_is_int := F3,
    b_is_int := b3,
    g_is_int := PySem.W.mg_of X G a3,
    F_is_name := F4,
    b_is_name := b4,
    g_is_name := PySem.W.mg_of X G a4,
    F_are_sources := F5,
    b_are_sources := b5,
    g_are_sources := PySem.W.mg_of X G a5,
    F_is_signature := F6,
    b_is_signature := b6,
    g_is_signature := PySem.W.mg_of X G a6,
    F_sig_init := ⟨⟨_, _, _, _, _, _, _, _, _, _, rfl, l7, c7, .inl ⟨rfl, rfl⟩, .inr ⟨_, rfl, fun q hq => by
      simp only [List.mem_cons, List.not_mem_nil, or_false] at hq
      rcases hq with rfl
      · exact ⟨_, kw7sources, rfl⟩⟩⟩, k7⟩,
    q_sig_init_sources := fun H => .inr ⟨_, _, _, kl7sources, rfl, rfl, by decide, .nil⟩,
    o_sig_init_sources := ⟨_, kl7sources, rfl⟩,
    e_sig_init := ⟨a7, i7, k7⟩,
    F_sig_text := F8,
    b_sig_text := b8,
    e_sig_text := ⟨a8, i8, k8⟩,
    F_sig_read := F9,
    b_sig_read := b9,
    sm_sig_read := ⟨rd9, rg9, a9, ⟨_, pc9⟩, k9⟩,
    F_book_init := F10,
    e_book_init := ⟨a10, i10, k10⟩,
    F_book_has := F11,
    b_book_has := b11,
    e_book_has := ⟨a11, i11, k11⟩,
    F_book_get := F12,
    b_book_get := b12,
    e_book_get := ⟨a12, i12, k12⟩,
    F_book_iter := F13,
    b_book_iter := b13,
    e_book_iter := ⟨a13, i13, k13⟩,
    F_cut := F14,
    b_cut := b14,
    g_cut := PySem.W.mg_of X G a14,
    F_operation := F15,
    b_operation := b15,
    g_operation := PySem.W.mg_of X G a15,
    F_closed := F16,
    b_closed := b16,
    g_closed := PySem.W.mg_of X G a16,
    F_add_node := F17,
    b_add_node := b17,
    g_add_node := PySem.W.mg_of X G a17,
    F_nodes_of := F18,
    b_nodes_of := b18,
    g_nodes_of := PySem.W.mg_of X G a18,
    F_operands_of := F19,
    b_operands_of := b19,
    g_operands_of := PySem.W.mg_of X G a19,
    F_firsts_of := F20,
    b_firsts_of := b20,
    g_firsts_of := PySem.W.mg_of X G a20,
    F_node_text := F21,
    b_node_text := b21,
    g_node_text := PySem.W.mg_of X G a21,
    F_ex_init := F22,
    b_ex_init := b22,
    e_ex_init := ⟨a22, i22, k22⟩,
    F_ex_read := F23,
    b_ex_read := b23,
    cm_ex_read := ⟨a23, ⟨_, pc23⟩, fi23⟩,
    F_ex_nodes := F24,
    b_ex_nodes := b24,
    r_ex_nodes := ⟨a24, pg24, pt24, _, pc24⟩,
    F_ex_len := F25,
    b_ex_len := b25,
    e_ex_len := ⟨a25, i25, k25⟩,
    F_ex_first := F26,
    b_ex_first := b26,
    e_ex_first := ⟨a26, i26, k26⟩,
    F_part_text := ⟨⟨_, _, _, _, _, _, _, _, _, _, rfl, l27, c27, .inl ⟨rfl, rfl⟩, .inr ⟨_, rfl, fun q hq => by
      simp only [List.mem_cons, List.not_mem_nil, or_false] at hq
      rcases hq with rfl
      · exact ⟨_, kw27named, rfl⟩⟩⟩, k27⟩,
    e_part_text := ⟨a27, i27, k27⟩,
    F_ex_text := F28,
    b_ex_text := b28,
    e_ex_text := ⟨a28, i28, k28⟩,
    F_is_row := F29,
    b_is_row := b29,
    g_is_row := PySem.W.mg_of X G a29,
    F_parts_of := F30,
    b_parts_of := b30,
    g_parts_of := PySem.W.mg_of X G a30,
    F_row_init := ⟨⟨_, _, _, _, _, _, _, _, _, _, rfl, l31, c31, .inl ⟨rfl, rfl⟩, .inr ⟨_, rfl, fun q hq => by
      simp only [List.mem_cons, List.not_mem_nil, or_false] at hq
      rcases hq with rfl | rfl
      · exact ⟨_, kw31name, ⟨_, rfl⟩⟩
      · exact ⟨_, kw31expression, rfl⟩⟩⟩, k31⟩,
    e_row_init := ⟨a31, i31, k31⟩,
    F_row_text := F32,
    b_row_text := b32,
    e_row_text := ⟨a32, i32, k32⟩,
    F_row_read := F33,
    b_row_read := b33,
    sm_row_read := ⟨rd33, rg33, a33, ⟨_, pc33⟩, k33⟩,
    F_text_of := F34,
    b_text_of := b34,
    g_text_of := PySem.W.mg_of X G a34,
    F_read_signature := F35,
    b_read_signature := b35,
    g_read_signature := PySem.W.mg_of X G a35,
    F_read_outs := F36,
    b_read_outs := b36,
    g_read_outs := PySem.W.mg_of X G a36,
    F_read_row := F37,
    b_read_row := b37,
    g_read_row := PySem.W.mg_of X G a37,
    F_read_lines := F38,
    b_read_lines := b38,
    g_read_lines := PySem.W.mg_of X G a38,
    F_bl_init := F39,
    b_bl_init := b39,
    e_bl_init := ⟨a39, i39, k39⟩,
    F_bl_take := F40,
    b_bl_take := b40,
    e_bl_take := ⟨a40, i40, k40⟩,
    F_bl_fin := F41,
    b_bl_fin := b41,
    e_bl_fin := ⟨a41, i41, k41⟩,
    F_bl_around := F42,
    b_bl_around := b42,
    e_bl_around := ⟨a42, i42, k42⟩,
    F_bl_inner := F43,
    b_bl_inner := b43,
    e_bl_inner := ⟨a43, i43, k43⟩,
    F_pr_init := F44,
    b_pr_init := b44,
    e_pr_init := ⟨a44, i44, k44⟩,
    F_pr_outs := F45,
    b_pr_outs := b45,
    e_pr_outs := ⟨a45, i45, k45⟩,
    F_pr_check := F46,
    b_pr_check := b46,
    e_pr_check := ⟨a46, i46, k46⟩,
    F_pr_scope := F47,
    b_pr_scope := b47,
    e_pr_scope := ⟨a47, i47, k47⟩,
    F_pr_rows := F48,
    b_pr_rows := b48,
    e_pr_rows := ⟨a48, i48, k48⟩,
    F_pr_nodes := F49,
    b_pr_nodes := b49,
    e_pr_nodes := ⟨a49, i49, k49⟩,
    F_pr_name := F50,
    b_pr_name := b50,
    e_pr_name := ⟨a50, i50, k50⟩,
    F_pr_len := F51,
    b_pr_len := b51,
    e_pr_len := ⟨a51, i51, k51⟩,
    F_pr_text := F52,
    b_pr_text := b52,
    e_pr_text := ⟨a52, i52, k52⟩,
    F_pr_read := F53,
    b_pr_read := b53,
    cm_pr_read := ⟨a53, ⟨_, pc53⟩, fi53⟩,
    F_draws := F54,
    b_draws := b54,
    g_draws := PySem.W.mg_of X G a54,
    F_take := F55,
    b_take := b55,
    g_take := PySem.W.mg_of X G a55,
    F_sizes := F56,
    b_sizes := b56,
    g_sizes := PySem.W.mg_of X G a56,
    F_srows := F57,
    b_srows := b57,
    g_srows := PySem.W.mg_of X G a57,
    F_due := F58,
    b_due := b58,
    g_due := PySem.W.mg_of X G a58,
    F_told := F59,
    b_told := b59,
    g_told := PySem.W.mg_of X G a59,
    F_law := F60,
    b_law := b60,
    g_law := PySem.W.mg_of X G a60,
    m_ValueError := PySem.W.mg_none_of X G zValueError,
    m_abs := PySem.W.mg_none_of X G zabs,
    m_all := PySem.W.mg_none_of X G zall,
    m_bool := PySem.W.mg_none_of X G zbool,
    m_dict := PySem.W.mg_none_of X G zdict,
    m_enumerate := PySem.W.mg_none_of X G zenumerate,
    m_int := PySem.W.mg_none_of X G zint,
    m_isinstance := PySem.W.mg_none_of X G zisinstance,
    m_iter := PySem.W.mg_none_of X G ziter,
    m_len := PySem.W.mg_none_of X G zlen,
    m_list := PySem.W.mg_none_of X G zlist,
    m_max := PySem.W.mg_none_of X G zmax,
    m_min := PySem.W.mg_none_of X G zmin,
    m_range := PySem.W.mg_none_of X G zrange,
    m_reversed := PySem.W.mg_none_of X G zreversed,
    m_str := PySem.W.mg_none_of X G zstr,
    m_tuple := PySem.W.mg_none_of X G ztuple,
    g_LivesError := PySem.W.mg_of X G aCLivesError,
    ex_LivesError := ⟨⟨⟨_, _, _, _, _, _, _, _, _, _, _, _, _, _, _, xL_LivesError, xR_LivesError⟩, sa_LivesError, eC_LivesError, tC_LivesError, kc_LivesError⟩, ii_LivesError, nw_LivesError, ⟨ga_LivesError, gg_LivesError, eC_LivesError, hd_LivesError⟩⟩,
    g_InvalidSignature := PySem.W.mg_of X G aCInvalidSignature,
    ex_InvalidSignature := ⟨⟨⟨_, _, _, _, _, _, _, _, _, _, _, _, _, _, _, xL_InvalidSignature, xR_InvalidSignature⟩, sa_InvalidSignature, eC_InvalidSignature, tC_InvalidSignature, kc_InvalidSignature⟩, ii_InvalidSignature, nw_InvalidSignature, ⟨ga_InvalidSignature, gg_InvalidSignature, eC_InvalidSignature, hd_InvalidSignature⟩⟩,
    g_UnknownFunction := PySem.W.mg_of X G aCUnknownFunction,
    ex_UnknownFunction := ⟨⟨⟨_, _, _, _, _, _, _, _, _, _, _, _, _, _, _, xL_UnknownFunction, xR_UnknownFunction⟩, sa_UnknownFunction, eC_UnknownFunction, tC_UnknownFunction, kc_UnknownFunction⟩, ii_UnknownFunction, nw_UnknownFunction, ⟨ga_UnknownFunction, gg_UnknownFunction, eC_UnknownFunction, hd_UnknownFunction⟩⟩,
    xi_UnknownFunction := ⟨UL.cls_some hd_UnknownFunction, ga_UnknownFunction, gg_UnknownFunction, eC_UnknownFunction, ha_UnknownFunction, hnO, htO, hm_UnknownFunction⟩,
    g_TooLarge := PySem.W.mg_of X G aCTooLarge,
    ex_TooLarge := ⟨⟨⟨_, _, _, _, _, _, _, _, _, _, _, _, _, _, _, xL_TooLarge, xR_TooLarge⟩, sa_TooLarge, eC_TooLarge, tC_TooLarge, kc_TooLarge⟩, ii_TooLarge, nw_TooLarge, ⟨ga_TooLarge, gg_TooLarge, eC_TooLarge, hd_TooLarge⟩⟩,
    xi_TooLarge := ⟨UL.cls_some hd_TooLarge, ga_TooLarge, gg_TooLarge, eC_TooLarge, ha_TooLarge, hnO, htO, hm_TooLarge⟩,
    g_DuplicateFunction := PySem.W.mg_of X G aCDuplicateFunction,
    ex_DuplicateFunction := ⟨⟨⟨_, _, _, _, _, _, _, _, _, _, _, _, _, _, _, xL_DuplicateFunction, xR_DuplicateFunction⟩, sa_DuplicateFunction, eC_DuplicateFunction, tC_DuplicateFunction, kc_DuplicateFunction⟩, ii_DuplicateFunction, nw_DuplicateFunction, ⟨ga_DuplicateFunction, gg_DuplicateFunction, eC_DuplicateFunction, hd_DuplicateFunction⟩⟩,
    g_Signature := PySem.W.mg_of X G aCSignature,
    cl_Signature := ⟨pg_Signature, hd_Signature, po_Signature, sa_Signature⟩,
    ty_Signature := ⟨ha_Signature, hnO, htO, hm_Signature⟩,
    mk_Signature := ⟨mk_Signature, a7, i7, kc_Signature⟩,
    na_Signature_name := na_Signature_name,
    na_Signature_count := na_Signature_count,
    na_Signature_sources := na_Signature_sources,
    g_Book := PySem.W.mg_of X G aCBook,
    cl_Book := ⟨pg_Book, hd_Book, po_Book, sa_Book⟩,
    ty_Book := ⟨ha_Book, hnO, htO, hm_Book⟩,
    mk_Book := ⟨mk_Book, a10, i10, kc_Book⟩,
    na_Book__given := na_Book__given,
    na_Book__every := na_Book__every,
    na_Book__by_name := na_Book__by_name,
    g_Expression := PySem.W.mg_of X G aCExpression,
    cl_Expression := ⟨pg_Expression, hd_Expression, po_Expression, sa_Expression⟩,
    ty_Expression := ⟨ha_Expression, hnO, htO, hm_Expression⟩,
    mk_Expression := ⟨mk_Expression, a22, i22, kc_Expression⟩,
    cr_Expression := ⟨rd_Expression, rg_Expression⟩,
    cv_Expression_MOST_NODES := ⟨_, cx_Expression_MOST_NODES, ⟨_, rfl⟩⟩,
    na_Expression__nodes := na_Expression__nodes,
    na_Expression__firsts := na_Expression__firsts,
    g_Row := PySem.W.mg_of X G aCRow,
    cl_Row := ⟨pg_Row, hd_Row, po_Row, sa_Row⟩,
    ty_Row := ⟨ha_Row, hnO, htO, hm_Row⟩,
    mk_Row := ⟨mk_Row, a31, i31, kc_Row⟩,
    na_Row_kind := na_Row_kind,
    na_Row_name := na_Row_name,
    na_Row_expression := na_Row_expression,
    g_Blocks := PySem.W.mg_of X G aCBlocks,
    cl_Blocks := ⟨pg_Blocks, hd_Blocks, po_Blocks, sa_Blocks⟩,
    ty_Blocks := ⟨ha_Blocks, hnO, htO, hm_Blocks⟩,
    mk_Blocks := ⟨mk_Blocks, a39, i39, kc_Blocks⟩,
    na_Blocks__most_depth := na_Blocks__most_depth,
    na_Blocks__opened := na_Blocks__opened,
    na_Blocks__kinds := na_Blocks__kinds,
    na_Blocks__around := na_Blocks__around,
    na_Blocks__enders := na_Blocks__enders,
    g_Program := PySem.W.mg_of X G aCProgram,
    cl_Program := ⟨pg_Program, hd_Program, po_Program, sa_Program⟩,
    ty_Program := ⟨ha_Program, hnO, htO, hm_Program⟩,
    mk_Program := ⟨mk_Program, a44, i44, kc_Program⟩,
    cr_Program := ⟨rd_Program, rg_Program⟩,
    cv_Program_MOST_ROWS := ⟨_, cx_Program_MOST_ROWS, ⟨_, rfl⟩⟩,
    cv_Program_MOST_NAMES := ⟨_, cx_Program_MOST_NAMES, ⟨_, rfl⟩⟩,
    cv_Program_MOST_NODES := ⟨_, cx_Program_MOST_NODES, ⟨_, rfl⟩⟩,
    cv_Program_MOST_DEPTH := ⟨_, cx_Program_MOST_DEPTH, ⟨_, rfl⟩⟩,
    co_Program_MOST_ROWS := ⟨_, cn_Program_MOST_ROWS, ⟨_, rfl⟩, cg_Program_MOST_ROWS, by decide +kernel⟩,
    co_Program_MOST_NAMES := ⟨_, cn_Program_MOST_NAMES, ⟨_, rfl⟩, cg_Program_MOST_NAMES, by decide +kernel⟩,
    co_Program_MOST_NODES := ⟨_, cn_Program_MOST_NODES, ⟨_, rfl⟩, cg_Program_MOST_NODES, by decide +kernel⟩,
    co_Program_MOST_DEPTH := ⟨_, cn_Program_MOST_DEPTH, ⟨_, rfl⟩, cg_Program_MOST_DEPTH, by decide +kernel⟩,
    na_Program_book := na_Program_book,
    na_Program_outs := na_Program_outs,
    na_Program_blocks := na_Program_blocks,
    na_Program__rows := na_Program__rows,
    na_Program__kinds := na_Program__kinds,
    na_Program__homes := na_Program__homes,
    na_Program__text := na_Program__text,
    g_Unbalanced := PySem.W.mg_of X G aCUnbalanced,
    ex_Unbalanced := ⟨⟨⟨_, _, _, _, _, _, _, _, _, _, _, _, _, _, _, xL_Unbalanced, xR_Unbalanced⟩, sa_Unbalanced, eC_Unbalanced, tC_Unbalanced, kc_Unbalanced⟩, ii_Unbalanced, nw_Unbalanced, ⟨ga_Unbalanced, gg_Unbalanced, eC_Unbalanced, hd_Unbalanced⟩⟩,
    xi_Unbalanced := ⟨UL.cls_some hd_Unbalanced, ga_Unbalanced, gg_Unbalanced, eC_Unbalanced, ha_Unbalanced, hnO, htO, hm_Unbalanced⟩,
    g_DuplicateName := PySem.W.mg_of X G aCDuplicateName,
    ex_DuplicateName := ⟨⟨⟨_, _, _, _, _, _, _, _, _, _, _, _, _, _, _, xL_DuplicateName, xR_DuplicateName⟩, sa_DuplicateName, eC_DuplicateName, tC_DuplicateName, kc_DuplicateName⟩, ii_DuplicateName, nw_DuplicateName, ⟨ga_DuplicateName, gg_DuplicateName, eC_DuplicateName, hd_DuplicateName⟩⟩,
    xi_DuplicateName := ⟨UL.cls_some hd_DuplicateName, ga_DuplicateName, gg_DuplicateName, eC_DuplicateName, ha_DuplicateName, hnO, htO, hm_DuplicateName⟩,
    g_UnknownName := PySem.W.mg_of X G aCUnknownName,
    ex_UnknownName := ⟨⟨⟨_, _, _, _, _, _, _, _, _, _, _, _, _, _, _, xL_UnknownName, xR_UnknownName⟩, sa_UnknownName, eC_UnknownName, tC_UnknownName, kc_UnknownName⟩, ii_UnknownName, nw_UnknownName, ⟨ga_UnknownName, gg_UnknownName, eC_UnknownName, hd_UnknownName⟩⟩,
    xi_UnknownName := ⟨UL.cls_some hd_UnknownName, ga_UnknownName, gg_UnknownName, eC_UnknownName, ha_UnknownName, hnO, htO, hm_UnknownName⟩,
    g_NotReference := PySem.W.mg_of X G aCNotReference,
    ex_NotReference := ⟨⟨⟨_, _, _, _, _, _, _, _, _, _, _, _, _, _, _, xL_NotReference, xR_NotReference⟩, sa_NotReference, eC_NotReference, tC_NotReference, kc_NotReference⟩, ii_NotReference, nw_NotReference, ⟨ga_NotReference, gg_NotReference, eC_NotReference, hd_NotReference⟩⟩,
    xi_NotReference := ⟨UL.cls_some hd_NotReference, ga_NotReference, gg_NotReference, eC_NotReference, ha_NotReference, hnO, htO, hm_NotReference⟩,
    g_WrongCount := PySem.W.mg_of X G aCWrongCount,
    ex_WrongCount := ⟨⟨⟨_, _, _, _, _, _, _, _, _, _, _, _, _, _, _, xL_WrongCount, xR_WrongCount⟩, sa_WrongCount, eC_WrongCount, tC_WrongCount, kc_WrongCount⟩, ii_WrongCount, nw_WrongCount, ⟨ga_WrongCount, gg_WrongCount, eC_WrongCount, hd_WrongCount⟩⟩,
    xi_WrongCount := ⟨UL.cls_some hd_WrongCount, ga_WrongCount, gg_WrongCount, eC_WrongCount, ha_WrongCount, hnO, htO, hm_WrongCount⟩,
    te_tt := UL.exm_cls eC_TooLarge hd_TooLarge tC_TooLarge fa_si_tt,
    te_dt := UL.exm_cls eC_TooLarge hd_TooLarge tC_TooLarge fa_si_dt,
    te_dd := UL.exm_cls eC_DuplicateName hd_DuplicateName tC_DuplicateName fa_si_dd,
    te_nt := UL.exm_cls eC_TooLarge hd_TooLarge tC_TooLarge fa_si_nt,
    te_nd := UL.exm_cls eC_DuplicateName hd_DuplicateName tC_DuplicateName fa_si_nd,
    te_nn := UL.exm_cls eC_UnknownName hd_UnknownName tC_UnknownName fa_si_nn,
    te_ut := UL.exm_cls eC_TooLarge hd_TooLarge tC_TooLarge fa_si_ut,
    te_ud := UL.exm_cls eC_DuplicateName hd_DuplicateName tC_DuplicateName fa_si_ud,
    te_un := UL.exm_cls eC_UnknownName hd_UnknownName tC_UnknownName fa_si_un,
    te_uu := UL.exm_cls eC_Unbalanced hd_Unbalanced tC_Unbalanced fa_si_uu,
    fi_book_get := fa_fi_book_get,
    si_tt := fa_si_tt,
    si_dt := fa_si_dt,
    si_dd := fa_si_dd,
    si_nt := fa_si_nt,
    si_nd := fa_si_nd,
    si_nn := fa_si_nn,
    si_ut := fa_si_ut,
    si_ud := fa_si_ud,
    si_un := fa_si_un,
    si_uu := fa_si_uu,
    c_BARE := PySem.W.mg_of X G eBARE,
    q_BARE := fun H => .inr ⟨_, _, _, oBARE, rfl, rfl, (by rw [List.size_toArray, ← Paired.length wBARE]; decide), wBARE⟩,
    o_BARE := ⟨_, oBARE, rfl⟩,
    c_BINDING := PySem.W.mg_of X G eBINDING,
    q_BINDING := fun H => .inr ⟨_, _, _, oBINDING, rfl, rfl, (by rw [List.size_toArray, ← Paired.length wBINDING]; decide), wBINDING⟩,
    o_BINDING := ⟨_, oBINDING, rfl⟩,
    c_DIGITS := PySem.W.mg_of X G eDIGITS,
    c_LETTERS := PySem.W.mg_of X G eLETTERS,
    c_MOST_ARGUMENTS := PySem.W.mg_of X G eMOST_ARGUMENTS,
    c_MOST_CHARACTERS := PySem.W.mg_of X G eMOST_CHARACTERS,
    c_MOST_GIVEN := PySem.W.mg_of X G eMOST_GIVEN,
    c_MOST_PARAMETERS := PySem.W.mg_of X G eMOST_PARAMETERS,
    c_NUMERALS := PySem.W.mg_of X G eNUMERALS,
    q_NUMERALS := fun H => .inr ⟨_, _, _, oNUMERALS, rfl, rfl, (by rw [List.size_toArray, ← Paired.length wNUMERALS]; decide), wNUMERALS⟩,
    o_NUMERALS := ⟨_, oNUMERALS, rfl⟩,
    c_OPERATIONS := PySem.W.mg_of X G eOPERATIONS,
    w_OPERATIONS := ⟨_, _, oOPERATIONS, yOPERATIONS, pOPERATIONS, sOPERATIONS⟩,
    c_RESERVED := PySem.W.mg_of X G eRESERVED,
    q_RESERVED := fun H => .inr ⟨_, _, _, oRESERVED, rfl, rfl, (by rw [List.size_toArray, ← Paired.length wRESERVED]; decide), wRESERVED⟩,
    o_RESERVED := ⟨_, oRESERVED, rfl⟩ }
  exact ⟨_, fun s v => .of_eq rfl, fun base _ _ => ok_law T⟩
end K24
def PySem.Challenge.cw_unnamedlives_k24_bounds_holds.tw921821741286812874 : Nat := 0
def PySem.Challenge.cw_unnamedlives_k24_bounds_holds.tw14357940558475924173 : Nat := 0
def PySem.Challenge.cw_unnamedlives_k24_bounds_holds.tw12086668568878877830 : Nat := 0
def PySem.Challenge.cw_unnamedlives_k24_bounds_holds.tw2566434029429225673 : Nat := 0
def PySem.Challenge.cw_unnamedlives_k24_bounds_holds.tw12796149838263021259 : Nat := 0
def PySem.Challenge.cw_unnamedlives_k24_bounds_holds.tw16033749094711539976 : Nat := 0
def PySem.Challenge.cw_unnamedlives_k24_bounds_holds.tw4201339459648190318 : Nat := 0
def PySem.Challenge.cw_unnamedlives_k24_bounds_holds.tw14904413959248681941 : Nat := 0
def PySem.Challenge.cw_unnamedlives_k24_bounds_holds.tw14773777582514114300 : Nat := 0
def PySem.Challenge.cw_unnamedlives_k24_bounds_holds.tw11477626319593248185 : Nat := 0
def PySem.Challenge.cw_unnamedlives_k24_bounds_holds.tw13712356789343499978 : Nat := 0
def PySem.Challenge.cw_unnamedlives_k24_bounds_holds.tw10074001254260545135 : Nat := 0
def PySem.Challenge.cw_unnamedlives_k24_bounds_holds.tw7863048874015944094 : Nat := 0
def PySem.Challenge.cw_unnamedlives_k24_bounds_holds.tw11289558807378715252 : Nat := 0
def PySem.Challenge.cw_unnamedlives_k24_bounds_holds.tw16762445514632526541 : Nat := 0
def PySem.Challenge.cw_unnamedlives_k24_bounds_holds.tw13390737354262667225 : Nat := 0
def PySem.Challenge.cw_unnamedlives_k24_bounds_holds.tw10739285889518384499 : Nat := 0
def PySem.Challenge.cw_unnamedlives_k24_bounds_holds.tw565064356981277639 : Nat := 0
def PySem.Challenge.cw_unnamedlives_k24_bounds_holds.tw3215613114016079573 : Nat := 0
def PySem.Challenge.cw_unnamedlives_k24_bounds_holds.tw11578394906791275832 : Nat := 0
def PySem.Challenge.cw_unnamedlives_k24_bounds_holds.tw12223966683552935744 : Nat := 0
def PySem.Challenge.cw_unnamedlives_k24_bounds_holds.tw1634043548720616840 : Nat := 0
def PySem.Challenge.cw_unnamedlives_k24_bounds_holds.tw17444942612321044069 : Nat := 0
def PySem.Challenge.cw_unnamedlives_k24_bounds_holds.tw10822429254665366281 : Nat := 0
def PySem.Challenge.cw_unnamedlives_k24_bounds_holds.tw2160186116589861290 : Nat := 0
def PySem.Challenge.cw_unnamedlives_k24_bounds_holds.tw11583534785627459057 : Nat := 0
def PySem.Challenge.cw_unnamedlives_k24_bounds_holds.tw14741369392273741860 : Nat := 0
def PySem.Challenge.cw_unnamedlives_k24_bounds_holds.tw4066711139428203179 : Nat := 0
def PySem.Challenge.cw_unnamedlives_k24_bounds_holds.tw14680897439496004559 : Nat := 0
open PySem PySem.W PyProof.Rows
set_option Elab.async true in
set_option maxHeartbeats 0 in
theorem PySem.Challenge.cw_unnamedlives_k24_bounds_holds : PySem.Challenge.rw_unnamedlives_k24_bounds.Holds := by
  w_on; o_law; k_head; (case hw => w_witness2)
  k_fill
  refine L2.walk_of (l := PySem.Challenge.rw_unnamedlives_k24_bounds) (n := 63) (k := 35) (x := "_law_script") (CX := fun _ => L2.CX0) (sp := fun w => K24.spLaw _) rfl (by decide) rfl ⟨rfl, by decide, by decide⟩ (fun w h Y => PySem.W.kIn_of Y) ?F (fun _ _ a ns hl _ hS => ⟨a, ns, rfl, hS, hl, fun _ => rfl⟩) (fun _ _ _ _ _ h => h)
  case F =>
    intro w mg fa h KX G hmg
    refine' K24.all_mk KX G hmg ?aCLivesError ?aCInvalidSignature ?aCUnknownFunction ?aCTooLarge ?aCDuplicateFunction ?aCSignature ?aCBook ?aCExpression ?aCRow ?aCBlocks ?aCProgram ?aCUnbalanced ?aCDuplicateName ?aCUnknownName ?aCNotReference ?aCWrongCount ?a0 ?l0 ?dl0 ?c0 ?k0 ?a1 ?i1 ?l1 ?c1 ?k1 ?a2 ?l2 ?c2 ?k2 ?a3 ?l3 ?c3 ?k3 ?a4 ?l4 ?c4 ?k4 ?a5 ?l5 ?c5 ?k5 ?a6 ?l6 ?c6 ?k6 ?a7 ?i7 ?l7 ?c7 ?k7 ?kw7sources ?kl7sources ?a8 ?i8 ?l8 ?c8 ?k8 ?a9 ?pc9 ?rd9 ?rg9 ?l9 ?c9 ?k9 ?a10 ?i10 ?l10 ?c10 ?k10 ?a11 ?i11 ?l11 ?c11 ?k11 ?a12 ?i12 ?l12 ?c12 ?k12 ?a13 ?i13 ?l13 ?c13 ?k13 ?a14 ?l14 ?c14 ?k14 ?a15 ?l15 ?c15 ?k15 ?a16 ?l16 ?c16 ?k16 ?a17 ?l17 ?c17 ?k17 ?a18 ?l18 ?c18 ?k18 ?a19 ?l19 ?c19 ?k19 ?a20 ?l20 ?c20 ?k20 ?a21 ?l21 ?c21 ?k21 ?a22 ?i22 ?l22 ?c22 ?k22 ?a23 ?pc23 ?fi23 ?l23 ?c23 ?k23 ?a24 ?pg24 ?pt24 ?pc24 ?l24 ?c24 ?k24 ?a25 ?i25 ?l25 ?c25 ?k25 ?a26 ?i26 ?l26 ?c26 ?k26 ?a27 ?i27 ?l27 ?c27 ?k27 ?kw27named ?a28 ?i28 ?l28 ?c28 ?k28 ?a29 ?l29 ?c29 ?k29 ?a30 ?l30 ?c30 ?k30 ?a31 ?i31 ?l31 ?c31 ?k31 ?kw31name ?kw31expression ?a32 ?i32 ?l32 ?c32 ?k32 ?a33 ?pc33 ?rd33 ?rg33 ?l33 ?c33 ?k33 ?a34 ?l34 ?c34 ?k34 ?a35 ?l35 ?c35 ?k35 ?a36 ?l36 ?c36 ?k36 ?a37 ?l37 ?c37 ?k37 ?a38 ?l38 ?c38 ?k38 ?a39 ?i39 ?l39 ?c39 ?k39 ?a40 ?i40 ?l40 ?c40 ?k40 ?a41 ?i41 ?l41 ?c41 ?k41 ?a42 ?i42 ?l42 ?c42 ?k42 ?a43 ?i43 ?l43 ?c43 ?k43 ?a44 ?i44 ?l44 ?c44 ?k44 ?a45 ?i45 ?l45 ?c45 ?k45 ?a46 ?i46 ?l46 ?c46 ?k46 ?a47 ?i47 ?l47 ?c47 ?k47 ?a48 ?i48 ?l48 ?c48 ?k48 ?a49 ?i49 ?l49 ?c49 ?k49 ?a50 ?i50 ?l50 ?c50 ?k50 ?a51 ?i51 ?l51 ?c51 ?k51 ?a52 ?i52 ?l52 ?c52 ?k52 ?a53 ?pc53 ?fi53 ?l53 ?c53 ?k53 ?a54 ?l54 ?c54 ?k54 ?a55 ?l55 ?c55 ?k55 ?a56 ?l56 ?c56 ?k56 ?a57 ?l57 ?c57 ?k57 ?a58 ?l58 ?c58 ?k58 ?a59 ?l59 ?c59 ?k59 ?a60 ?l60 ?c60 ?k60 ?zValueError ?zabs ?zall ?zbool ?zdict ?zenumerate ?zint ?zisinstance ?ziter ?zlen ?zlist ?zmax ?zmin ?zrange ?zreversed ?zstr ?ztuple ?xL_LivesError ?xR_LivesError ?sa_LivesError ?eC_LivesError ?tC_LivesError ?kc_LivesError ?nw_LivesError ?ii_LivesError ?ga_LivesError ?gg_LivesError ?hd_LivesError ?xL_InvalidSignature ?xR_InvalidSignature ?sa_InvalidSignature ?eC_InvalidSignature ?tC_InvalidSignature ?kc_InvalidSignature ?nw_InvalidSignature ?ii_InvalidSignature ?ga_InvalidSignature ?gg_InvalidSignature ?hd_InvalidSignature ?xL_UnknownFunction ?xR_UnknownFunction ?sa_UnknownFunction ?eC_UnknownFunction ?tC_UnknownFunction ?kc_UnknownFunction ?nw_UnknownFunction ?ii_UnknownFunction ?ga_UnknownFunction ?gg_UnknownFunction ?hd_UnknownFunction ?ha_UnknownFunction ?hm_UnknownFunction ?xL_TooLarge ?xR_TooLarge ?sa_TooLarge ?eC_TooLarge ?tC_TooLarge ?kc_TooLarge ?nw_TooLarge ?ii_TooLarge ?ga_TooLarge ?gg_TooLarge ?hd_TooLarge ?ha_TooLarge ?hm_TooLarge ?xL_DuplicateFunction ?xR_DuplicateFunction ?sa_DuplicateFunction ?eC_DuplicateFunction ?tC_DuplicateFunction ?kc_DuplicateFunction ?nw_DuplicateFunction ?ii_DuplicateFunction ?ga_DuplicateFunction ?gg_DuplicateFunction ?hd_DuplicateFunction ?pg_Signature ?hd_Signature ?po_Signature ?sa_Signature ?mk_Signature ?kc_Signature ?ha_Signature ?hm_Signature ?na_Signature_name ?na_Signature_count ?na_Signature_sources ?pg_Book ?hd_Book ?po_Book ?sa_Book ?mk_Book ?kc_Book ?ha_Book ?hm_Book ?na_Book__given ?na_Book__every ?na_Book__by_name ?pg_Expression ?hd_Expression ?po_Expression ?sa_Expression ?mk_Expression ?kc_Expression ?ha_Expression ?hm_Expression ?rd_Expression ?rg_Expression ?cx_Expression_MOST_NODES ?na_Expression__nodes ?na_Expression__firsts ?pg_Row ?hd_Row ?po_Row ?sa_Row ?mk_Row ?kc_Row ?ha_Row ?hm_Row ?na_Row_kind ?na_Row_name ?na_Row_expression ?pg_Blocks ?hd_Blocks ?po_Blocks ?sa_Blocks ?mk_Blocks ?kc_Blocks ?ha_Blocks ?hm_Blocks ?na_Blocks__most_depth ?na_Blocks__opened ?na_Blocks__kinds ?na_Blocks__around ?na_Blocks__enders ?pg_Program ?hd_Program ?po_Program ?sa_Program ?mk_Program ?kc_Program ?ha_Program ?hm_Program ?rd_Program ?rg_Program ?cx_Program_MOST_ROWS ?cx_Program_MOST_NAMES ?cx_Program_MOST_NODES ?cx_Program_MOST_DEPTH ?cn_Program_MOST_ROWS ?cg_Program_MOST_ROWS ?cn_Program_MOST_NAMES ?cg_Program_MOST_NAMES ?cn_Program_MOST_NODES ?cg_Program_MOST_NODES ?cn_Program_MOST_DEPTH ?cg_Program_MOST_DEPTH ?na_Program_book ?na_Program_outs ?na_Program_blocks ?na_Program__rows ?na_Program__kinds ?na_Program__homes ?na_Program__text ?xL_Unbalanced ?xR_Unbalanced ?sa_Unbalanced ?eC_Unbalanced ?tC_Unbalanced ?kc_Unbalanced ?nw_Unbalanced ?ii_Unbalanced ?ga_Unbalanced ?gg_Unbalanced ?hd_Unbalanced ?ha_Unbalanced ?hm_Unbalanced ?xL_DuplicateName ?xR_DuplicateName ?sa_DuplicateName ?eC_DuplicateName ?tC_DuplicateName ?kc_DuplicateName ?nw_DuplicateName ?ii_DuplicateName ?ga_DuplicateName ?gg_DuplicateName ?hd_DuplicateName ?ha_DuplicateName ?hm_DuplicateName ?xL_UnknownName ?xR_UnknownName ?sa_UnknownName ?eC_UnknownName ?tC_UnknownName ?kc_UnknownName ?nw_UnknownName ?ii_UnknownName ?ga_UnknownName ?gg_UnknownName ?hd_UnknownName ?ha_UnknownName ?hm_UnknownName ?xL_NotReference ?xR_NotReference ?sa_NotReference ?eC_NotReference ?tC_NotReference ?kc_NotReference ?nw_NotReference ?ii_NotReference ?ga_NotReference ?gg_NotReference ?hd_NotReference ?ha_NotReference ?hm_NotReference ?xL_WrongCount ?xR_WrongCount ?sa_WrongCount ?eC_WrongCount ?tC_WrongCount ?kc_WrongCount ?nw_WrongCount ?ii_WrongCount ?ga_WrongCount ?gg_WrongCount ?hd_WrongCount ?ha_WrongCount ?hm_WrongCount ?hnO ?htO ?fa_fi_book_get ?fa_si_tt ?fa_si_dt ?fa_si_dd ?fa_si_nt ?fa_si_nd ?fa_si_nn ?fa_si_ut ?fa_si_ud ?fa_si_un ?fa_si_uu ?eBARE ?oBARE ?wBARE ?eBINDING ?oBINDING ?wBINDING ?eDIGITS ?eLETTERS ?eMOST_ARGUMENTS ?eMOST_CHARACTERS ?eMOST_GIVEN ?eMOST_PARAMETERS ?eNUMERALS ?oNUMERALS ?wNUMERALS ?eOPERATIONS ?oOPERATIONS ?yOPERATIONS ?pOPERATIONS ?sOPERATIONS ?eRESERVED ?oRESERVED ?wRESERVED
    (case aCLivesError => k_is)
    (case aCInvalidSignature => k_is)
    (case aCUnknownFunction => k_is)
    (case aCTooLarge => k_is)
    (case aCDuplicateFunction => k_is)
    (case aCSignature => k_is)
    (case aCBook => k_is)
    (case aCExpression => k_is)
    (case aCRow => k_is)
    (case aCBlocks => k_is)
    (case aCProgram => k_is)
    (case aCUnbalanced => k_is)
    (case aCDuplicateName => k_is)
    (case aCUnknownName => k_is)
    (case aCNotReference => k_is)
    (case aCWrongCount => k_is)
    (case a0 => k_is)
    (case l0 => k_is)
    (case dl0 => k_is)
    (case c0 => k_is)
    (case k0 => k_is)
    (case a1 => k_is)
    (case i1 => k_is)
    (case l1 => k_is)
    (case c1 => k_is)
    (case k1 => k_is)
    (case a2 => k_is)
    (case l2 => k_is)
    (case c2 => k_is)
    (case k2 => k_is)
    (case a3 => k_is)
    (case l3 => k_is)
    (case c3 => k_is)
    (case k3 => k_is)
    (case a4 => k_is)
    (case l4 => k_is)
    (case c4 => k_is)
    (case k4 => k_is)
    (case a5 => k_is)
    (case l5 => k_is)
    (case c5 => k_is)
    (case k5 => k_is)
    (case a6 => k_is)
    (case l6 => k_is)
    (case c6 => k_is)
    (case k6 => k_is)
    (case a7 => k_is)
    (case i7 => k_is)
    (case l7 => k_is)
    (case c7 => k_is)
    (case k7 => k_is)
    (case kw7sources => k_is)
    (case kl7sources => k_is)
    (case a8 => k_is)
    (case i8 => k_is)
    (case l8 => k_is)
    (case c8 => k_is)
    (case k8 => k_is)
    (case a9 => k_is)
    (case pc9 => k_is)
    (case rd9 => k_is)
    (case rg9 => k_is)
    (case l9 => k_is)
    (case c9 => k_is)
    (case k9 => k_is)
    (case a10 => k_is)
    (case i10 => k_is)
    (case l10 => k_is)
    (case c10 => k_is)
    (case k10 => k_is)
    (case a11 => k_is)
    (case i11 => k_is)
    (case l11 => k_is)
    (case c11 => k_is)
    (case k11 => k_is)
    (case a12 => k_is)
    (case i12 => k_is)
    (case l12 => k_is)
    (case c12 => k_is)
    (case k12 => k_is)
    (case a13 => k_is)
    (case i13 => k_is)
    (case l13 => k_is)
    (case c13 => k_is)
    (case k13 => k_is)
    (case a14 => k_is)
    (case l14 => k_is)
    (case c14 => k_is)
    (case k14 => k_is)
    (case a15 => k_is)
    (case l15 => k_is)
    (case c15 => k_is)
    (case k15 => k_is)
    (case a16 => k_is)
    (case l16 => k_is)
    (case c16 => k_is)
    (case k16 => k_is)
    (case a17 => k_is)
    (case l17 => k_is)
    (case c17 => k_is)
    (case k17 => k_is)
    (case a18 => k_is)
    (case l18 => k_is)
    (case c18 => k_is)
    (case k18 => k_is)
    (case a19 => k_is)
    (case l19 => k_is)
    (case c19 => k_is)
    (case k19 => k_is)
    (case a20 => k_is)
    (case l20 => k_is)
    (case c20 => k_is)
    (case k20 => k_is)
    (case a21 => k_is)
    (case l21 => k_is)
    (case c21 => k_is)
    (case k21 => k_is)
    (case a22 => k_is)
    (case i22 => k_is)
    (case l22 => k_is)
    (case c22 => k_is)
    (case k22 => k_is)
    (case a23 => k_is)
    (case pc23 => k_is)
    (case fi23 => k_is)
    (case l23 => k_is)
    (case c23 => k_is)
    (case k23 => k_is)
    (case a24 => k_is)
    (case pg24 => k_is)
    (case pt24 => k_is)
    (case pc24 => k_is)
    (case l24 => k_is)
    (case c24 => k_is)
    (case k24 => k_is)
    (case a25 => k_is)
    (case i25 => k_is)
    (case l25 => k_is)
    (case c25 => k_is)
    (case k25 => k_is)
    (case a26 => k_is)
    (case i26 => k_is)
    (case l26 => k_is)
    (case c26 => k_is)
    (case k26 => k_is)
    (case a27 => k_is)
    (case i27 => k_is)
    (case l27 => k_is)
    (case c27 => k_is)
    (case k27 => k_is)
    (case kw27named => k_is)
    (case a28 => k_is)
    (case i28 => k_is)
    (case l28 => k_is)
    (case c28 => k_is)
    (case k28 => k_is)
    (case a29 => k_is)
    (case l29 => k_is)
    (case c29 => k_is)
    (case k29 => k_is)
    (case a30 => k_is)
    (case l30 => k_is)
    (case c30 => k_is)
    (case k30 => k_is)
    (case a31 => k_is)
    (case i31 => k_is)
    (case l31 => k_is)
    (case c31 => k_is)
    (case k31 => k_is)
    (case kw31name => k_is)
    (case kw31expression => k_is)
    (case a32 => k_is)
    (case i32 => k_is)
    (case l32 => k_is)
    (case c32 => k_is)
    (case k32 => k_is)
    (case a33 => k_is)
    (case pc33 => k_is)
    (case rd33 => k_is)
    (case rg33 => k_is)
    (case l33 => k_is)
    (case c33 => k_is)
    (case k33 => k_is)
    (case a34 => k_is)
    (case l34 => k_is)
    (case c34 => k_is)
    (case k34 => k_is)
    (case a35 => k_is)
    (case l35 => k_is)
    (case c35 => k_is)
    (case k35 => k_is)
    (case a36 => k_is)
    (case l36 => k_is)
    (case c36 => k_is)
    (case k36 => k_is)
    (case a37 => k_is)
    (case l37 => k_is)
    (case c37 => k_is)
    (case k37 => k_is)
    (case a38 => k_is)
    (case l38 => k_is)
    (case c38 => k_is)
    (case k38 => k_is)
    (case a39 => k_is)
    (case i39 => k_is)
    (case l39 => k_is)
    (case c39 => k_is)
    (case k39 => k_is)
    (case a40 => k_is)
    (case i40 => k_is)
    (case l40 => k_is)
    (case c40 => k_is)
    (case k40 => k_is)
    (case a41 => k_is)
    (case i41 => k_is)
    (case l41 => k_is)
    (case c41 => k_is)
    (case k41 => k_is)
    (case a42 => k_is)
    (case i42 => k_is)
    (case l42 => k_is)
    (case c42 => k_is)
    (case k42 => k_is)
    (case a43 => k_is)
    (case i43 => k_is)
    (case l43 => k_is)
    (case c43 => k_is)
    (case k43 => k_is)
    (case a44 => k_is)
    (case i44 => k_is)
    (case l44 => k_is)
    (case c44 => k_is)
    (case k44 => k_is)
    (case a45 => k_is)
    (case i45 => k_is)
    (case l45 => k_is)
    (case c45 => k_is)
    (case k45 => k_is)
    (case a46 => k_is)
    (case i46 => k_is)
    (case l46 => k_is)
    (case c46 => k_is)
    (case k46 => k_is)
    (case a47 => k_is)
    (case i47 => k_is)
    (case l47 => k_is)
    (case c47 => k_is)
    (case k47 => k_is)
    (case a48 => k_is)
    (case i48 => k_is)
    (case l48 => k_is)
    (case c48 => k_is)
    (case k48 => k_is)
    (case a49 => k_is)
    (case i49 => k_is)
    (case l49 => k_is)
    (case c49 => k_is)
    (case k49 => k_is)
    (case a50 => k_is)
    (case i50 => k_is)
    (case l50 => k_is)
    (case c50 => k_is)
    (case k50 => k_is)
    (case a51 => k_is)
    (case i51 => k_is)
    (case l51 => k_is)
    (case c51 => k_is)
    (case k51 => k_is)
    (case a52 => k_is)
    (case i52 => k_is)
    (case l52 => k_is)
    (case c52 => k_is)
    (case k52 => k_is)
    (case a53 => k_is)
    (case pc53 => k_is)
    (case fi53 => k_is)
    (case l53 => k_is)
    (case c53 => k_is)
    (case k53 => k_is)
    (case a54 => k_is)
    (case l54 => k_is)
    (case c54 => k_is)
    (case k54 => k_is)
    (case a55 => k_is)
    (case l55 => k_is)
    (case c55 => k_is)
    (case k55 => k_is)
    (case a56 => k_is)
    (case l56 => k_is)
    (case c56 => k_is)
    (case k56 => k_is)
    (case a57 => k_is)
    (case l57 => k_is)
    (case c57 => k_is)
    (case k57 => k_is)
    (case a58 => k_is)
    (case l58 => k_is)
    (case c58 => k_is)
    (case k58 => k_is)
    (case a59 => k_is)
    (case l59 => k_is)
    (case c59 => k_is)
    (case k59 => k_is)
    (case a60 => k_is)
    (case l60 => k_is)
    (case c60 => k_is)
    (case k60 => k_is)
    (case zValueError => k_is)
    (case zabs => k_is)
    (case zall => k_is)
    (case zbool => k_is)
    (case zdict => k_is)
    (case zenumerate => k_is)
    (case zint => k_is)
    (case zisinstance => k_is)
    (case ziter => k_is)
    (case zlen => k_is)
    (case zlist => k_is)
    (case zmax => k_is)
    (case zmin => k_is)
    (case zrange => k_is)
    (case zreversed => k_is)
    (case zstr => k_is)
    (case ztuple => k_is)
    (case xL_LivesError => k_is)
    (case xR_LivesError => decide +kernel)
    (case sa_LivesError => k_is)
    (case eC_LivesError => k_is)
    (case tC_LivesError => k_is)
    (case kc_LivesError => k_is)
    (case nw_LivesError => k_is)
    (case ii_LivesError => k_is)
    (case ga_LivesError => k_is)
    (case gg_LivesError => k_is)
    (case hd_LivesError => k_is)
    (case xL_InvalidSignature => k_is)
    (case xR_InvalidSignature => decide +kernel)
    (case sa_InvalidSignature => k_is)
    (case eC_InvalidSignature => k_is)
    (case tC_InvalidSignature => k_is)
    (case kc_InvalidSignature => k_is)
    (case nw_InvalidSignature => k_is)
    (case ii_InvalidSignature => k_is)
    (case ga_InvalidSignature => k_is)
    (case gg_InvalidSignature => k_is)
    (case hd_InvalidSignature => k_is)
    (case xL_UnknownFunction => k_is)
    (case xR_UnknownFunction => decide +kernel)
    (case sa_UnknownFunction => k_is)
    (case eC_UnknownFunction => k_is)
    (case tC_UnknownFunction => k_is)
    (case kc_UnknownFunction => k_is)
    (case nw_UnknownFunction => k_is)
    (case ii_UnknownFunction => k_is)
    (case ga_UnknownFunction => k_is)
    (case gg_UnknownFunction => k_is)
    (case hd_UnknownFunction => k_is)
    (case ha_UnknownFunction => k_is)
    (case hm_UnknownFunction => k_is)
    (case xL_TooLarge => k_is)
    (case xR_TooLarge => decide +kernel)
    (case sa_TooLarge => k_is)
    (case eC_TooLarge => k_is)
    (case tC_TooLarge => k_is)
    (case kc_TooLarge => k_is)
    (case nw_TooLarge => k_is)
    (case ii_TooLarge => k_is)
    (case ga_TooLarge => k_is)
    (case gg_TooLarge => k_is)
    (case hd_TooLarge => k_is)
    (case ha_TooLarge => k_is)
    (case hm_TooLarge => k_is)
    (case xL_DuplicateFunction => k_is)
    (case xR_DuplicateFunction => decide +kernel)
    (case sa_DuplicateFunction => k_is)
    (case eC_DuplicateFunction => k_is)
    (case tC_DuplicateFunction => k_is)
    (case kc_DuplicateFunction => k_is)
    (case nw_DuplicateFunction => k_is)
    (case ii_DuplicateFunction => k_is)
    (case ga_DuplicateFunction => k_is)
    (case gg_DuplicateFunction => k_is)
    (case hd_DuplicateFunction => k_is)
    (case pg_Signature => k_is)
    (case hd_Signature => k_is)
    (case po_Signature => k_is)
    (case sa_Signature => k_is)
    (case mk_Signature => k_is)
    (case kc_Signature => k_is)
    (case ha_Signature => k_is)
    (case hm_Signature => k_is)
    (case na_Signature_name => k_is)
    (case na_Signature_count => k_is)
    (case na_Signature_sources => k_is)
    (case pg_Book => k_is)
    (case hd_Book => k_is)
    (case po_Book => k_is)
    (case sa_Book => k_is)
    (case mk_Book => k_is)
    (case kc_Book => k_is)
    (case ha_Book => k_is)
    (case hm_Book => k_is)
    (case na_Book__given => k_is)
    (case na_Book__every => k_is)
    (case na_Book__by_name => k_is)
    (case pg_Expression => k_is)
    (case hd_Expression => k_is)
    (case po_Expression => k_is)
    (case sa_Expression => k_is)
    (case mk_Expression => k_is)
    (case kc_Expression => k_is)
    (case ha_Expression => k_is)
    (case hm_Expression => k_is)
    (case rd_Expression => k_is)
    (case rg_Expression => k_is)
    (case cx_Expression_MOST_NODES => k_is)
    (case na_Expression__nodes => k_is)
    (case na_Expression__firsts => k_is)
    (case pg_Row => k_is)
    (case hd_Row => k_is)
    (case po_Row => k_is)
    (case sa_Row => k_is)
    (case mk_Row => k_is)
    (case kc_Row => k_is)
    (case ha_Row => k_is)
    (case hm_Row => k_is)
    (case na_Row_kind => k_is)
    (case na_Row_name => k_is)
    (case na_Row_expression => k_is)
    (case pg_Blocks => k_is)
    (case hd_Blocks => k_is)
    (case po_Blocks => k_is)
    (case sa_Blocks => k_is)
    (case mk_Blocks => k_is)
    (case kc_Blocks => k_is)
    (case ha_Blocks => k_is)
    (case hm_Blocks => k_is)
    (case na_Blocks__most_depth => k_is)
    (case na_Blocks__opened => k_is)
    (case na_Blocks__kinds => k_is)
    (case na_Blocks__around => k_is)
    (case na_Blocks__enders => k_is)
    (case pg_Program => k_is)
    (case hd_Program => k_is)
    (case po_Program => k_is)
    (case sa_Program => k_is)
    (case mk_Program => k_is)
    (case kc_Program => k_is)
    (case ha_Program => k_is)
    (case hm_Program => k_is)
    (case rd_Program => k_is)
    (case rg_Program => k_is)
    (case cx_Program_MOST_ROWS => k_is)
    (case cx_Program_MOST_NAMES => k_is)
    (case cx_Program_MOST_NODES => k_is)
    (case cx_Program_MOST_DEPTH => k_is)
    (case cn_Program_MOST_ROWS => k_is)
    (case cg_Program_MOST_ROWS => k_is)
    (case cn_Program_MOST_NAMES => k_is)
    (case cg_Program_MOST_NAMES => k_is)
    (case cn_Program_MOST_NODES => k_is)
    (case cg_Program_MOST_NODES => k_is)
    (case cn_Program_MOST_DEPTH => k_is)
    (case cg_Program_MOST_DEPTH => k_is)
    (case na_Program_book => k_is)
    (case na_Program_outs => k_is)
    (case na_Program_blocks => k_is)
    (case na_Program__rows => k_is)
    (case na_Program__kinds => k_is)
    (case na_Program__homes => k_is)
    (case na_Program__text => k_is)
    (case xL_Unbalanced => k_is)
    (case xR_Unbalanced => decide +kernel)
    (case sa_Unbalanced => k_is)
    (case eC_Unbalanced => k_is)
    (case tC_Unbalanced => k_is)
    (case kc_Unbalanced => k_is)
    (case nw_Unbalanced => k_is)
    (case ii_Unbalanced => k_is)
    (case ga_Unbalanced => k_is)
    (case gg_Unbalanced => k_is)
    (case hd_Unbalanced => k_is)
    (case ha_Unbalanced => k_is)
    (case hm_Unbalanced => k_is)
    (case xL_DuplicateName => k_is)
    (case xR_DuplicateName => decide +kernel)
    (case sa_DuplicateName => k_is)
    (case eC_DuplicateName => k_is)
    (case tC_DuplicateName => k_is)
    (case kc_DuplicateName => k_is)
    (case nw_DuplicateName => k_is)
    (case ii_DuplicateName => k_is)
    (case ga_DuplicateName => k_is)
    (case gg_DuplicateName => k_is)
    (case hd_DuplicateName => k_is)
    (case ha_DuplicateName => k_is)
    (case hm_DuplicateName => k_is)
    (case xL_UnknownName => k_is)
    (case xR_UnknownName => decide +kernel)
    (case sa_UnknownName => k_is)
    (case eC_UnknownName => k_is)
    (case tC_UnknownName => k_is)
    (case kc_UnknownName => k_is)
    (case nw_UnknownName => k_is)
    (case ii_UnknownName => k_is)
    (case ga_UnknownName => k_is)
    (case gg_UnknownName => k_is)
    (case hd_UnknownName => k_is)
    (case ha_UnknownName => k_is)
    (case hm_UnknownName => k_is)
    (case xL_NotReference => k_is)
    (case xR_NotReference => decide +kernel)
    (case sa_NotReference => k_is)
    (case eC_NotReference => k_is)
    (case tC_NotReference => k_is)
    (case kc_NotReference => k_is)
    (case nw_NotReference => k_is)
    (case ii_NotReference => k_is)
    (case ga_NotReference => k_is)
    (case gg_NotReference => k_is)
    (case hd_NotReference => k_is)
    (case ha_NotReference => k_is)
    (case hm_NotReference => k_is)
    (case xL_WrongCount => k_is)
    (case xR_WrongCount => decide +kernel)
    (case sa_WrongCount => k_is)
    (case eC_WrongCount => k_is)
    (case tC_WrongCount => k_is)
    (case kc_WrongCount => k_is)
    (case nw_WrongCount => k_is)
    (case ii_WrongCount => k_is)
    (case ga_WrongCount => k_is)
    (case gg_WrongCount => k_is)
    (case hd_WrongCount => k_is)
    (case ha_WrongCount => k_is)
    (case hm_WrongCount => k_is)
    (case hnO => k_is)
    (case htO => k_is)
    (case fa_fi_book_get => k_is)
    (case fa_si_tt => k_is)
    (case fa_si_dt => k_is)
    (case fa_si_dd => k_is)
    (case fa_si_nt => k_is)
    (case fa_si_nd => k_is)
    (case fa_si_nn => k_is)
    (case fa_si_ut => k_is)
    (case fa_si_ud => k_is)
    (case fa_si_un => k_is)
    (case fa_si_uu => k_is)
    (case eBARE => k_is)
    (case oBARE => k_is)
    (case wBARE => exact UL.vals_of rfl)
    (case eBINDING => k_is)
    (case oBINDING => k_is)
    (case wBINDING => exact UL.vals_of rfl)
    (case eDIGITS => k_is)
    (case eLETTERS => k_is)
    (case eMOST_ARGUMENTS => k_is)
    (case eMOST_CHARACTERS => k_is)
    (case eMOST_GIVEN => k_is)
    (case eMOST_PARAMETERS => k_is)
    (case eNUMERALS => k_is)
    (case oNUMERALS => k_is)
    (case wNUMERALS => exact UL.vals_of rfl)
    (case eOPERATIONS => k_is)
    (case oOPERATIONS => k_is)
    (case yOPERATIONS => k_keys)
    (case pOPERATIONS => exact (.cons ⟨_, _, rfl, rfl⟩ (.cons ⟨_, _, rfl, rfl⟩ (.cons ⟨_, _, rfl, rfl⟩ .nil))))
    (case sOPERATIONS => decide +kernel)
    (case eRESERVED => k_is)
    (case oRESERVED => k_is)
    (case wRESERVED => exact UL.vals_of rfl)
